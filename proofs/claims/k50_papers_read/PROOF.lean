import PyProof.Rows.All
import Wide.All
import OpenK.AllK
import HandS.Words
import Wide.FinOn
import HandS.ForMost
import HandS.Wide
import HandS.Walk
import HandS.IsInst
import HandS.WordsDict
import HandS.Sort
import HandS.More
import HandS.Codes
import HandS.OwnEq
import PyProof.NeKinds
import PyProof.FactsAll.dict_2
import HandS.RaiseMore
import KE.IntTextLaws
import HandS.Text
import HandS.Replace
import HandS.ReplaceList
import HandS.ReplaceLit
import HandS.ReplaceDef
import HandS.ExcInit
import HandS.Exc
import KE.KExcInit
import HandS.ExcValue
import KE.KExcIs
import HandS.ForExc
import HandS.ExcField
import HandS.Comp
import HandS.FStr
import HandS.ExcCtx
import HandS.Conv
import HandS.Style
import HandS.Iter
import HandS.List
import KE.KRevSl
import PyProof.SliceStr2
import PyProof.StrBlock2
import PyProof.Rows.ReprR
import KE.KIsAll
import KE.KTryMore
import HandS.Base
import HandS.Call
import HandS.ExcOwn
import HandS.TupMul
import HandS.HeadHook3
import PySem.Challenge.RW_pushalike_k50_papers_read
set_option Elab.async false
namespace Wd
open PySem L2
def topS (i : Nat) : Stmt := PySem.Challenge.pw_pushalike_k50_papers_read.main.body.getD i (.Pass ⟨0, 0, 0, 0⟩)
abbrev sIsInteger : Stmt := topS 5
abbrev sAreIntegers : Stmt := topS 6
abbrev sIsLetter : Stmt := topS 7
abbrev sIsName : Stmt := topS 8
abbrev sIsEvent : Stmt := topS 9
abbrev sIsRows : Stmt := topS 15
abbrev sIntegerOf : Stmt := topS 19
abbrev sIsWord : Stmt := topS 23
abbrev sIsItem : Stmt := topS 24
abbrev sHasStandForm : Stmt := topS 25
abbrev sItemText : Stmt := topS 26
abbrev sStandOf : Stmt := topS 27
abbrev sItemOf : Stmt := topS 28
abbrev sLatestTime : Stmt := topS 30
abbrev sReadPaper : Stmt := topS 31
abbrev sReadStand : Stmt := topS 32
abbrev sReadTape : Stmt := topS 33
abbrev sEventOf : Stmt := topS 34
abbrev sReadRounds : Stmt := topS 35
abbrev sStart : Stmt := topS 37
abbrev sThrow : Stmt := topS 38
abbrev sPick : Stmt := topS 39
abbrev sLetters : Stmt := topS 40
abbrev sWords : Stmt := topS 41
abbrev sName : Stmt := topS 42
abbrev sLayout : Stmt := topS 43
abbrev sValue : Stmt := topS 44
abbrev sEvents : Stmt := topS 45
abbrev sTape : Stmt := topS 46
abbrev sAtom : Stmt := topS 47
abbrev sShape : Stmt := topS 48
abbrev sDeep : Stmt := topS 49
abbrev sNumber : Stmt := topS 50
abbrev sStand : Stmt := topS 51
abbrev sStands : Stmt := topS 52
abbrev sPaper : Stmt := topS 53
abbrev sText : Stmt := topS 54
abbrev sLines : Stmt := topS 55
abbrev sWordValue : Stmt := topS 56
abbrev sItem : Stmt := topS 57
abbrev sLineStand : Stmt := topS 58
abbrev sLineEvent : Stmt := topS 59
abbrev sDueList : Stmt := topS 60
abbrev sDueRounds : Stmt := topS 61
abbrev sDue : Stmt := topS 62
abbrev sSpoiltLine : Stmt := topS 63
abbrev sSpoilt : Stmt := topS 64
abbrev sRight : Stmt := topS 65
abbrev sCase : Stmt := topS 66
abbrev sLaw : Stmt := topS 67
abbrev cParseError_init : Stmt := inClass (topS 12) 0
end Wd

set_option Elab.async false
set_option linter.all false
set_option maxRecDepth 100000
set_option maxHeartbeats 4000000
namespace Wd
open PySem L2
theorem small4 {n : Nat} (h : n ≤ 400000) : n < sizeLine := Nat.lt_of_le_of_lt h (by decide)
/-- all but the objects in B is as it was -/
def Ob (B : List Addr) (H H' : Hp) : Prop := ∀ b o, b ∉ B → H b = some o → H' b = some o
theorem Ob.refl (B : List Addr) (H : Hp) : Ob B H H := fun _ _ _ h => h
theorem Ob.trans {B : List Addr} {H H1 H2 : Hp} (a : Ob B H H1) (b : Ob B H1 H2) : Ob B H H2 := fun c o n h => b c o n (a c o n h)
theorem Ob.same {B : List Addr} {H H1 H2 : Hp} (a : Ob B H H1) (b : Same H1 H2) : Ob B H H2 := fun c o n h => b c o (a c o n h)
theorem Ob.of {B : List Addr} {H H' : Hp} (a : Same H H') : Ob B H H' := fun b o _ h => a b o h
/-- values of a kind of their own: no data -/
structure Own (K : PySem.W.Frag) (T : List Addr → Hp → Addr → Prop) : Prop where
  mono : ∀ {B H H' a}, Ob B H H' → T B H a → T B H' a
  more : ∀ {B H a d}, (∃ kvs, H d = some (.dK kvs)) → T B H a → T (d :: B) H a
  tup : ∀ {B H a xs}, T B H a → H a ≠ some (.tup xs)
  lst : ∀ {B H a xs}, T B H a → H a ≠ some (.lst xs)
  dK : ∀ {B H a xs}, T B H a → H a ≠ some (.dK xs)
  ty : ∀ {B H a}, T B H a → ∃ t, TyX K H (.ref a) t ∧ ∀ n ∈ ["int", "bool", "str", "tuple", "list", "dict"], PySem.W.kitOne K t (.type n) = some false
/-- data over a heap: sizes of at most m, nested less than n deep; nothing of it is an object in B -/
inductive Dat (T : List Addr → Hp → Addr → Prop) (B : List Addr) (H : Hp) (m : Nat) : Nat → V → Prop where
  | non {n} : Dat T B H m (n + 1) .non
  | bl {n} (b : Bool) : Dat T B H m (n + 1) (.bl b)
  | int {n} (i : Int) : Dat T B H m (n + 1) (.int i)
  | str {n} (s : Str) (h : s.length ≤ m) (o : PyData.strOk s = true) : Dat T B H m (n + 1) (.str s)
  | own {n} {a : Addr} (t : T B H a) : Dat T B H m (n + 1) (.ref a)
  | tup {n} {a : Addr} {xs : List V} (ne : a ∉ B) (e : H a = some (.tup xs)) (l : xs.length ≤ m) (p : ∀ x ∈ xs, Dat T B H m n x) : Dat T B H m (n + 1) (.ref a)
  | lst {n} {a : Addr} {xs : List V} (ne : a ∉ B) (e : H a = some (.lst xs)) (l : xs.length ≤ m) (p : ∀ x ∈ xs, Dat T B H m n x) : Dat T B H m (n + 1) (.ref a)
  | dic {n} {a : Addr} {kvs : List (Key × V)} (ne : a ∉ B) (e : H a = some (.dK kvs)) (l : 20 * kvs.length ≤ m) (nd : (kvs.map (·.1)).Nodup)
      (k : ∀ p ∈ kvs, ∃ s : Str, p.1 = Sum.inr s ∧ s.length ≤ m ∧ PyData.strOk s = true) (p : ∀ p ∈ kvs, Dat T B H m n p.2) : Dat T B H m (n + 1) (.ref a)
section
variable {K : PySem.W.Frag} {T : List Addr → Hp → Addr → Prop} {B : List Addr} {H H' : Hp} {m m' n n' : Nat} {v : V}
theorem Dat.mono (O : Own K T) (sb : Ob B H H') (d : Dat T B H m n v) : Dat T B H' m n v := by
  induction d with
  | non => exact .non
  | bl b => exact .bl b
  | int i => exact .int i
  | str s h o => exact .str s h o
  | own t => exact .own (O.mono sb t)
  | tup ne e l p ih => exact .tup ne (sb _ _ ne e) l ih
  | lst ne e l p ih => exact .lst ne (sb _ _ ne e) l ih
  | dic ne e l nd k p ih => exact .dic ne (sb _ _ ne e) l nd k ih
theorem Dat.up (hm : m ≤ m') (d : Dat T B H m n v) : ∀ {n'}, n ≤ n' → Dat T B H m' n' v := by
  induction d with
  | non => intro n' h; obtain ⟨q, rfl⟩ := Nat.exists_eq_succ_of_ne_zero (n := n') (by omega); exact .non
  | bl b => intro n' h; obtain ⟨q, rfl⟩ := Nat.exists_eq_succ_of_ne_zero (n := n') (by omega); exact .bl b
  | int i => intro n' h; obtain ⟨q, rfl⟩ := Nat.exists_eq_succ_of_ne_zero (n := n') (by omega); exact .int i
  | str s z o => intro n' h; obtain ⟨q, rfl⟩ := Nat.exists_eq_succ_of_ne_zero (n := n') (by omega); exact .str s (by omega) o
  | own t => intro n' h; obtain ⟨q, rfl⟩ := Nat.exists_eq_succ_of_ne_zero (n := n') (by omega); exact .own t
  | tup ne e l p ih => intro n' h; obtain ⟨q, rfl⟩ := Nat.exists_eq_succ_of_ne_zero (n := n') (by omega); exact .tup ne e (by omega) fun x hx => ih x hx (by omega)
  | lst ne e l p ih => intro n' h; obtain ⟨q, rfl⟩ := Nat.exists_eq_succ_of_ne_zero (n := n') (by omega); exact .lst ne e (by omega) fun x hx => ih x hx (by omega)
  | dic ne e l nd k p ih =>
    intro n' h; obtain ⟨q, rfl⟩ := Nat.exists_eq_succ_of_ne_zero (n := n') (by omega)
    exact .dic ne e (by omega) nd (fun p hp => let ⟨s, h1, h2, h3⟩ := k p hp; ⟨s, h1, by omega, h3⟩) fun x hx => ih x hx (by omega)
theorem Dat.okS {s : Str} (d : Dat T B H m n (.str s)) : PyData.strOk s = true := by
  cases d with
  | str _ _ o => exact o
theorem ok_sign {z : Str} (h : PyData.strOk z = true) {i c : Nat} (e : z.cps[i]? = some c) : PyData.strOk ⟨#[c]⟩ = true := by
  unfold PyData.strOk at h ⊢
  rw [Array.all_eq_true'] at h
  have := h c (Array.mem_of_getElem? e)
  simpa using this
/-- what does not reach the dict at d -/
theorem Dat.past (O : Own K T) {d : Addr} (hd : ∃ kvs, H d = some (.dK kvs)) (x : Dat T B H m n v) : ¬ Dat T B H m n (.ref d) → Dat T (d :: B) H m n v := by
  induction x with
  | non => exact fun _ => .non
  | bl b => exact fun _ => .bl b
  | int i => exact fun _ => .int i
  | str s h o => exact fun _ => .str s h o
  | own t => exact fun _ => .own (O.more hd t)
  | @tup k a xs ne e l p ih =>
    intro no
    have nd : a ≠ d := fun z => no (z ▸ .tup ne e l p)
    exact .tup (by simp [nd, ne]) e l fun x hx => ih x hx fun q => no (q.up (Nat.le_refl _) (Nat.le_succ _))
  | @lst k a xs ne e l p ih =>
    intro no
    have nd : a ≠ d := fun z => no (z ▸ .lst ne e l p)
    exact .lst (by simp [nd, ne]) e l fun x hx => ih x hx fun q => no (q.up (Nat.le_refl _) (Nat.le_succ _))
  | @dic k a xs ne e l nd ks p ih =>
    intro no
    have nn : a ≠ d := fun z => no (z ▸ .dic ne e l nd ks p)
    exact .dic (by simp [nn, ne]) e l nd ks fun x hx => ih x hx fun q => no (q.up (Nat.le_refl _) (Nat.le_succ _))
/-- the values of a dict do not reach it -/
theorem Dat.kids (O : Own K T) {d : Addr} {kvs : List (Key × V)} (hd : H d = some (.dK kvs)) : ∀ n, Dat T B H m (n + 1) (.ref d) → ∀ p ∈ kvs, Dat T (d :: B) H m n p.2
  | n, x => by
    by_cases h : Dat T B H m n (.ref d)
    · cases n with
      | zero => cases h
      | succ k => exact fun p hp => (Dat.kids O hd k h p hp).up (Nat.le_refl _) (Nat.le_succ _)
    · intro p hp
      cases x with
      | own t => exact absurd hd (O.dK t)
      | tup ne e l q => rw [hd] at e; cases e
      | lst ne e l q => rw [hd] at e; cases e
      | dic ne e l nd ks q =>
        rw [hd] at e
        cases e
        exact (q p hp).past O ⟨_, hd⟩ h
/-- isinstance(v, N) is answered with c -/
def Isi (K : PySem.W.Frag) (H : Hp) (v : V) (N : String) (c : Bool) : Prop := ∃ t, TyX K H v t ∧ PySem.W.kitOne K t (.type N) = some c
theorem isi_ty {a b : String} {r : Bool} (x : TyX K H v (.type a)) (h : kitB a b = some r) : Isi K H v b r := ⟨_, x, kit_ty h⟩
theorem Own.isi (O : Own K T) {a : Addr} (t : T B H a) {N : String} (h : N ∈ ["int", "bool", "str", "tuple", "list", "dict"]) : Isi K H (.ref a) N false :=
  let ⟨u, x, k⟩ := O.ty t; ⟨u, x, k N h⟩
theorem Dat.isTup (O : Own K T) (sb : Ob B H H') (d : Dat T B H m n v) :
    (∃ a xs k, v = .ref a ∧ a ∉ B ∧ H a = some (.tup xs) ∧ H' a = some (.tup xs) ∧ xs.length ≤ m ∧ (∀ x ∈ xs, Dat T B H m k x) ∧ Isi K H' v "tuple" true) ∨
      ((∀ a xs, v = .ref a → H a ≠ some (.tup xs)) ∧ Isi K H' v "tuple" false) := by
  cases d with
  | non => exact .inr ⟨fun a xs h => (nomatch h), isi_ty (.base .non) (by decide)⟩
  | bl b => exact .inr ⟨fun a xs h => (nomatch h), isi_ty (.base (.bl b)) (by decide)⟩
  | int b => exact .inr ⟨fun a xs h => (nomatch h), isi_ty (.base (.int b)) (by decide)⟩
  | str b => exact .inr ⟨fun a xs h => (nomatch h), isi_ty (.base (.str b)) (by decide)⟩
  | own t => exact .inr ⟨fun a xs h => by cases h; exact O.tup t, O.isi (O.mono sb t) (by decide)⟩
  | tup ne e l p => exact .inl ⟨_, _, _, rfl, ne, e, sb _ _ ne e, l, p, isi_ty (.base (.tup (sb _ _ ne e))) (by decide)⟩
  | lst ne e l p => exact .inr ⟨fun a xs h q => (by cases h; rw [e] at q; cases q), isi_ty (.base (.lst (sb _ _ ne e))) (by decide)⟩
  | dic ne e l nd k p => exact .inr ⟨fun a xs h q => (by cases h; rw [e] at q; cases q), isi_ty (.base (.dK (sb _ _ ne e))) (by decide)⟩
theorem Dat.isLst (O : Own K T) (sb : Ob B H H') (d : Dat T B H m n v) :
    (∃ a xs k, v = .ref a ∧ a ∉ B ∧ n = k + 1 ∧ H a = some (.lst xs) ∧ H' a = some (.lst xs) ∧ xs.length ≤ m ∧ (∀ x ∈ xs, Dat T B H m k x) ∧ Isi K H' v "list" true) ∨
      ((∀ a xs, v = .ref a → H a ≠ some (.lst xs)) ∧ Isi K H' v "list" false) := by
  cases d with
  | non => exact .inr ⟨fun a xs h => (nomatch h), isi_ty (.base .non) (by decide)⟩
  | bl b => exact .inr ⟨fun a xs h => (nomatch h), isi_ty (.base (.bl b)) (by decide)⟩
  | int b => exact .inr ⟨fun a xs h => (nomatch h), isi_ty (.base (.int b)) (by decide)⟩
  | str b => exact .inr ⟨fun a xs h => (nomatch h), isi_ty (.base (.str b)) (by decide)⟩
  | own t => exact .inr ⟨fun a xs h => by cases h; exact O.lst t, O.isi (O.mono sb t) (by decide)⟩
  | lst ne e l p => exact .inl ⟨_, _, _, rfl, ne, rfl, e, sb _ _ ne e, l, p, isi_ty (.base (.lst (sb _ _ ne e))) (by decide)⟩
  | tup ne e l p => exact .inr ⟨fun a xs h q => (by cases h; rw [e] at q; cases q), isi_ty (.base (.tup (sb _ _ ne e))) (by decide)⟩
  | dic ne e l nd k p => exact .inr ⟨fun a xs h q => (by cases h; rw [e] at q; cases q), isi_ty (.base (.dK (sb _ _ ne e))) (by decide)⟩
theorem Dat.isDic (O : Own K T) (sb : Ob B H H') (d : Dat T B H m n v) :
    (∃ a kvs k, v = .ref a ∧ a ∉ B ∧ n = k + 1 ∧ H a = some (.dK kvs) ∧ H' a = some (.dK kvs) ∧ 20 * kvs.length ≤ m ∧ (kvs.map (·.1)).Nodup ∧ (∀ p ∈ kvs, ∃ s : Str, p.1 = Sum.inr s ∧ s.length ≤ m ∧ PyData.strOk s = true) ∧ (∀ p ∈ kvs, Dat T B H m k p.2) ∧ Isi K H' v "dict" true) ∨
      ((∀ a xs, v = .ref a → H a ≠ some (.dK xs)) ∧ Isi K H' v "dict" false) := by
  cases d with
  | non => exact .inr ⟨fun a xs h => (nomatch h), isi_ty (.base .non) (by decide)⟩
  | bl b => exact .inr ⟨fun a xs h => (nomatch h), isi_ty (.base (.bl b)) (by decide)⟩
  | int b => exact .inr ⟨fun a xs h => (nomatch h), isi_ty (.base (.int b)) (by decide)⟩
  | str b => exact .inr ⟨fun a xs h => (nomatch h), isi_ty (.base (.str b)) (by decide)⟩
  | own t => exact .inr ⟨fun a xs h => by cases h; exact O.dK t, O.isi (O.mono sb t) (by decide)⟩
  | lst ne e l p => exact .inr ⟨fun a xs h q => (by cases h; rw [e] at q; cases q), isi_ty (.base (.lst (sb _ _ ne e))) (by decide)⟩
  | tup ne e l p => exact .inr ⟨fun a xs h q => (by cases h; rw [e] at q; cases q), isi_ty (.base (.tup (sb _ _ ne e))) (by decide)⟩
  | dic ne e l nd k p => exact .inl ⟨_, _, _, rfl, ne, rfl, e, sb _ _ ne e, l, nd, k, p, isi_ty (.base (.dK (sb _ _ ne e))) (by decide)⟩
theorem Dat.isStr (O : Own K T) (sb : Ob B H H') (d : Dat T B H m n v) :
    (∃ s, v = .str s ∧ s.length ≤ m ∧ Isi K H' v "str" true) ∨ ((∀ s, v ≠ .str s) ∧ Isi K H' v "str" false) := by
  cases d with
  | non => exact .inr ⟨fun a h => (nomatch h), isi_ty (.base .non) (by decide)⟩
  | bl b => exact .inr ⟨fun a h => (nomatch h), isi_ty (.base (.bl b)) (by decide)⟩
  | int b => exact .inr ⟨fun a h => (nomatch h), isi_ty (.base (.int b)) (by decide)⟩
  | str b h => exact .inl ⟨_, rfl, h, isi_ty (.base (.str b)) (by decide)⟩
  | own t => exact .inr ⟨fun a h => (nomatch h), O.isi (O.mono sb t) (by decide)⟩
  | lst ne e l p => exact .inr ⟨fun a h => (nomatch h), isi_ty (.base (.lst (sb _ _ ne e))) (by decide)⟩
  | tup ne e l p => exact .inr ⟨fun a h => (nomatch h), isi_ty (.base (.tup (sb _ _ ne e))) (by decide)⟩
  | dic ne e l nd k p => exact .inr ⟨fun a h => (nomatch h), isi_ty (.base (.dK (sb _ _ ne e))) (by decide)⟩
theorem Dat.isInt (O : Own K T) (sb : Ob B H H') (d : Dat T B H m n v) :
    (∃ i, v = .int i ∧ Isi K H' v "int" true ∧ Isi K H' v "bool" false) ∨ ((∀ i, v ≠ .int i) ∧ ((Isi K H' v "int" true ∧ Isi K H' v "bool" true) ∨ Isi K H' v "int" false)) := by
  cases d with
  | non => exact .inr ⟨fun a h => (nomatch h), .inr (isi_ty (.base .non) (by decide))⟩
  | bl b => exact .inr ⟨fun a h => (nomatch h), .inl ⟨isi_ty (.base (.bl b)) (by decide), isi_ty (.base (.bl b)) (by decide)⟩⟩
  | int b => exact .inl ⟨_, rfl, isi_ty (.base (.int b)) (by decide), isi_ty (.base (.int b)) (by decide)⟩
  | str b => exact .inr ⟨fun a h => (nomatch h), .inr (isi_ty (.base (.str b)) (by decide))⟩
  | own t => exact .inr ⟨fun a h => (nomatch h), .inr (O.isi (O.mono sb t) (by decide))⟩
  | lst ne e l p => exact .inr ⟨fun a h => (nomatch h), .inr (isi_ty (.base (.lst (sb _ _ ne e))) (by decide))⟩
  | tup ne e l p => exact .inr ⟨fun a h => (nomatch h), .inr (isi_ty (.base (.tup (sb _ _ ne e))) (by decide))⟩
  | dic ne e l nd k p => exact .inr ⟨fun a h => (nomatch h), .inr (isi_ty (.base (.dK (sb _ _ ne e))) (by decide))⟩
/-- isinstance(x, N), answered -/
def rIsN (K : PySem.W.Frag) : List V → Hp → VK → Prop := fun xs H Q => ∃ (x : V) (N : String) (c : Bool), xs = [x, .ty N] ∧ Isi K H x N c ∧ Q (.bl c) H
theorem call_isN {X : Cx} : CallR X (.builtin "isinstance") (rIsN X.K) := fun pins s σ H vs us Q I r h => by
  obtain ⟨x, N, c, e, ⟨t, ht, k⟩, q⟩ := h
  exact call_isi pins s σ H vs us Q I r ⟨x, _, t, _, c, e, .ty N, ht, k, q⟩
end
/-! ### what the words mean -/
abbrev ten60 : Int := 10 ^ 60
def IsInt (v : V) : Prop := ∃ i, v = .int i ∧ -ten60 < i ∧ i < ten60
def low (c : Nat) : Prop := 97 ≤ c ∧ c ≤ 122
def IsLet (v : V) : Prop := ∃ c : Nat, v = .str ⟨#[c]⟩ ∧ low c
def words : List Str := ["after", "again", "at", "busy", "changes", "else", "every", "first", "fold", "it", "late", "never", "one",
  "only", "pairs", "pick", "quiet", "source", "spaced", "switch", "then", "told", "until"].map Str.ofString
def NameS (s : Str) : Prop := 1 ≤ s.length ∧ s.length ≤ 8 ∧ (∀ c ∈ s.cps.toList, low c) ∧ s ∉ words
def IsName (v : V) : Prop := ∃ s, v = .str s ∧ NameS s
def letV (cs : List Nat) : List V := cs.map fun c => V.str ⟨#[c]⟩
def Letters (cs : List Nat) : Prop := cs ≠ [] ∧ (∀ c ∈ cs, low c) ∧ cs.Pairwise (· < ·)
def IsLetters (H : Hp) (v : V) : Prop := ∃ a cs, v = .ref a ∧ H a = some (.tup (letV cs)) ∧ Letters cs
def IsSrcL (H : Hp) (v : V) : Prop := ∃ a cs, v = .ref a ∧ H a = some (.tup (letV cs)) ∧ Letters cs ∧ cs.length ≤ 4
def IsLayout (H : Hp) (v : V) : Prop := ∃ a kvs, v = .ref a ∧ H a = some (.dK kvs) ∧ 1 ≤ kvs.length ∧ kvs.length ≤ 4 ∧ ∀ p ∈ kvs, IsName (kV p.1) ∧ IsSrcL H p.2
def IsEvent (H : Hp) (v : V) : Prop := ∃ a t u l w, v = .ref a ∧ H a = some (.tup [t, u, l, w]) ∧ (∃ i, t = .int i ∧ 0 ≤ i ∧ i < ten60) ∧ IsName u ∧ IsLet l ∧ IsInt w
def IsVals (H : Hp) (v : V) : Prop := ∃ a xs, v = .ref a ∧ H a = some (.tup xs) ∧ xs.length ≤ 4 ∧ ∀ x ∈ xs, IsInt x
def IsOutput (H : Hp) (v : V) : Prop := ∃ a l w, v = .ref a ∧ H a = some (.tup [l, w]) ∧ IsLet l ∧ IsVals H w
def vEnd : V := .str (Str.ofString "end")
def IsList (H : Hp) (v : V) : Prop := ∃ a xs, v = .ref a ∧ H a = some (.tup xs) ∧ ∃ ys, (xs = ys ∨ xs = ys ++ [vEnd]) ∧ ∀ y ∈ ys, IsOutput H y
/-- the promise of a function is_..: it says whether P holds -/
def spIs (T : List Addr → Hp → Addr → Prop) (P : Hp → V → Prop) : Sp := fun vs H Q _ => ∃ (v : V) (B : List Addr) (H0 : Hp) (m n : Nat), vs = [v] ∧ Ob B H0 H ∧ m ≤ 400000 ∧ Dat T B H0 m n v ∧ ∀ H' b, Same H H' → (b = true ↔ P H0 v) → Q (.bl b) H'
end Wd

set_option Elab.async false
set_option linter.all false
set_option maxRecDepth 100000
set_option maxHeartbeats 4000000
namespace Wd
open PySem L2
theorem nay {p : Prop} (h : ¬ p) : (false = true ↔ p) := ⟨fun q => Bool.noConfusion q, fun q => (h q).elim⟩
theorem yea {p : Prop} (h : p) : (true = true ↔ p) := ⟨fun _ => h, fun _ => rfl⟩
theorem pe_gcon {X : Cx} {x : Str} {v : V} {pos : Pos} (hg : Gl X x) (h : ∃ u, X.mg x = some u ∧ RelV v u) (hd : (x == ("__debug__" : Str)) = false := by decide) : PE X (.Name x pos) (tC v) := by
  obtain ⟨u, hm, r⟩ := h
  exact pe_glob hg hm r hd
/-- isinstance(e, N) -/
def tIsi (K : PySem.W.Frag) (N : String) (te : TE) : TE := fun σ H Q => te σ H fun x H1 => ∃ c, Isi K H1 x N c ∧ Q (.bl c) H1
theorem pe_isi {X : Cx} {e : Expr} {te : TE} {N : String} {x : Str} {p q pos : Pos} (he : PE X e te) (hi : X.mg "isinstance" = none) (hm : X.mg x = none) (gi : Gl X "isinstance" := by rfl) (gx : Gl X x := by rfl)
    (hv : bootBuiltins x = some (.type N) := by decide +kernel) (hn : x ≠ "__name__" := by decide) (hd : (x == ("__debug__" : Str)) = false := by decide)
    (h1 : starEach [e, .Name x q] X.env = (false, eval e X.env) :: starEach [.Name x q] X.env := by rfl) (h2 : (backTo pos (starEach [.Name x q] X.env)).any (·.1) = false := by rfl) :
    PE X (.Call (.Name "isinstance" p) [e, .Name x q] [] pos) (tIsi X.K N te) := by
  have A := pa_cons (X := X) he (pa_cons (pe_bltn (v := .ty N) gx hm hv rfl hn hd) pa_nil (by rfl)) h1
  refine ⟨fun pins s σ H Q I h => ?_⟩
  refine wpAny_Call_Name_kw (ld_blt I gi hi (show bootBuiltins "isinstance" = some (.builtin "isinstance") by decide +kernel) ?_ (by decide) (by decide))
  refine PyProof.Rows.callWith_builtin1 (thn (A.run pos pins s σ H (fun vs H1 => match vs with
    | [x, .ty M] => ∃ c, Isi X.K H1 x M c ∧ Q (.bl c) H1
    | _ => False) I h) fun us s1 ⟨vs, H1, I1, r1, q1⟩ => ?_) h1 h2
  dsimp only at q1
  split at q1
  · obtain ⟨c, hc, q⟩ := q1
    exact call_isN pins s1 σ H1 _ us Q I1 r1 ⟨_, _, c, rfl, hc, q⟩
  · exact q1.elim
/-- all([..]): the bools of a walk -/
theorem lc_bools {J : It} {n : Nat} {G : Hp → Prop} {Y : Nat → Hp → V → Hp → Prop} (w : Walk J n G Y) (Pi : Nat → Prop) {g : TG} {te : TE} {vs : List Nat} {σ : St} {H1 : Hp} {D : Addr} {Qd : Hp → Prop} (hD : H1 D = none) (hn : n ≤ 400000)
    (hG : ∀ H, Same H1 H → G H)
    (hs : ∀ i x H H' (k : V → Hp → Prop), i < n → Same H1 H → Y i H x H' → (∀ b H4, Same H H4 → (b = true ↔ Pi i) → k (.bl b) H4) → g x (wipe σ vs) H' fun σ2 H2 => wipe σ2 vs = wipe σ vs ∧ te σ2 H2 k)
    (hd : ∀ H (bs : List Bool), Same H1 H → H D = some (.lst (bs.map V.bl)) → (bs.all id = true ↔ ∀ i, i < n → Pi i) → Qd H) :
    ∃ W : Nat → Nat → Hp → Prop, (∃ m, W 0 m (upd H1 D (.lst []))) ∧ ∀ i m H, W i m H →
      (J.stop i H ∧ Qd H) ∨ (J.go i H ∧ ∃ Nx : Hp → Prop, (∀ H', Nx H' → ∃ m', m' < m ∧ W (i + 1) m' H') ∧ ∀ x H', J.yld i H x H' → g x (wipe σ vs) H' fun σ2 H2 => wipe σ2 vs = wipe σ vs ∧ tYes σ2 H2 fun b H3 =>
        if b = true then te σ2 H3 fun y H4 => ∃ acc, H4 D = some (.lst acc) ∧ acc.length < sizeLine ∧ Nx (upd H4 D (.lst (acc ++ [y]))) else Nx H3) := by
  refine lc_it w (fun i H => Same H1 H ∧ ∃ bs : List Bool, bs.length = i ∧ (bs.all id = true ↔ ∀ j, j < i → Pi j) ∧ H D = some (.lst (bs.map V.bl))) ⟨fun b o e => by rw [upd_ne (ne_of_none e hD)]; exact e, [], rfl, by simp, upd_same⟩
    (fun i H _ ⟨s, _⟩ => hG H s) ?_ (fun H ⟨s, bs, l, e, d⟩ => hd H bs s d e)
  rintro i x H H' hi ⟨s, bs, l, e, d⟩ y
  have z := hs i x H H' (fun y H4 => ∃ acc, H4 D = some (.lst acc) ∧ acc.length < sizeLine ∧ (Same H1 (upd H4 D (.lst (acc ++ [y]))) ∧ ∃ bs : List Bool, bs.length = i + 1 ∧ (bs.all id = true ↔ ∀ j, j < i + 1 → Pi j) ∧ (upd H4 D (.lst (acc ++ [y]))) D = some (.lst (bs.map V.bl)))) hi s y ?_
  · exact z
  · intro b H4 s4 hb
    refine ⟨_, s4 _ _ d, ?_, fun c o q => ?_, bs ++ [b], by simp [l], ?_, ?_⟩
    · rw [List.length_map, l]
      exact small4 (by omega)
    · rw [upd_ne (ne_of_none q hD)]
      exact s4 _ _ (s _ _ q)
    · rw [List.all_append, Bool.and_eq_true, e]
      simp only [List.all_cons, List.all_nil, Bool.and_true, id_eq, hb]
      constructor
      · rintro ⟨h1, h2⟩ j hj
        by_cases q : j = i
        · exact q ▸ h2
        · exact h1 j (by omega)
      · exact fun h => ⟨fun j hj => h j (by omega), h i (by omega)⟩
    · rw [upd_same, List.map_append]
      rfl
end Wd

set_option Elab.async false
set_option linter.all false
set_option maxRecDepth 100000
set_option maxHeartbeats 4000000
namespace Wd
open PySem L2
/-! ### plain facts -/
theorem sign_of {s : Str} (h : s.length = 1) : ∃ c : Nat, s = ⟨#[c]⟩ := by
  obtain ⟨a⟩ := s
  have h' : a.size = 1 := h
  obtain ⟨l⟩ := a
  match l, h' with
  | [c], _ => exact ⟨c, rfl⟩
theorem alpha_mem (c : Nat) : c ∈ (Str.ofString "abcdefghijklmnopqrstuvwxyz").cps.toList ↔ low c := by
  have e : (Str.ofString "abcdefghijklmnopqrstuvwxyz").cps.toList = [97, 98, 99, 100, 101, 102, 103, 104, 105, 106, 107, 108, 109, 110, 111, 112, 113, 114, 115, 116, 117, 118, 119, 120, 121, 122] := by decide +kernel
  rw [e]
  unfold low
  simp only [List.mem_cons, List.not_mem_nil, or_false]
  omega
theorem sign_inj {c d : Nat} (h : (V.str ⟨#[c]⟩) = V.str ⟨#[d]⟩) : c = d := by
  injection h with h
  injection h with h
  injection h with h
  injection h
theorem isLet_sign {c : Nat} : IsLet (.str ⟨#[c]⟩) ↔ low c := ⟨fun ⟨d, e, l⟩ => sign_inj e ▸ l, fun l => ⟨c, rfl, l⟩⟩
theorem sign_lt {c d : Nat} : decide ((⟨#[c]⟩ : Str).cps.toList < (⟨#[d]⟩ : Str).cps.toList) = true ↔ c < d := by
  rw [decide_eq_true_iff]
  show [c] < [d] ↔ c < d
  constructor
  · intro h
    cases h with
    | rel h => exact h
    | cons h => cases h
  · exact fun h => .rel h
theorem lets_of : ∀ {xs : List V}, (∀ x ∈ xs, IsLet x) → ∃ cs, xs = letV cs ∧ ∀ c ∈ cs, low c
  | [], _ => ⟨[], rfl, fun c h => by cases h⟩
  | x :: r, h => by
    obtain ⟨c, e, l⟩ := h x List.mem_cons_self
    obtain ⟨cs, e', l'⟩ := lets_of fun y hy => h y (List.mem_cons_of_mem _ hy)
    refine ⟨c :: cs, by rw [e, e']; rfl, fun d hd => ?_⟩
    rcases List.mem_cons.mp hd with q | q
    · exact q ▸ l
    · exact l' d q
theorem letV_inj : ∀ {cs ds : List Nat}, letV cs = letV ds → cs = ds
  | [], [], _ => rfl
  | [], _ :: _, h => nomatch h
  | _ :: _, [], h => nomatch h
  | c :: cs, d :: ds, h => by
    have h1 : (V.str ⟨#[c]⟩) = V.str ⟨#[d]⟩ := (List.cons.inj h).1
    rw [sign_inj h1, letV_inj (List.cons.inj h).2]
theorem asc_iff {cs : List Nat} : (∀ i, i < cs.length - 1 → ∃ c d, cs[i]? = some c ∧ cs[i + 1]? = some d ∧ c < d) ↔ cs.Pairwise (· < ·) := by
  rw [List.pairwise_iff_getElem]
  constructor
  · intro h i j hi hj hij
    induction j with
    | zero => omega
    | succ j ih =>
      obtain ⟨c, d, h1, h2, h3⟩ := h j (by omega)
      have e1 : cs[j] = c := by
        rw [List.getElem?_eq_getElem (by omega)] at h1
        exact Option.some.inj h1
      have e2 : cs[j + 1] = d := by
        rw [List.getElem?_eq_getElem hj] at h2
        exact Option.some.inj h2
      by_cases q : i = j
      · subst q
        rw [e1, e2]
        exact h3
      · have := ih (by omega) (by omega)
        rw [e2]
        rw [e1] at this
        omega
  · intro h i hi
    exact ⟨_, _, List.getElem?_eq_getElem (by omega), List.getElem?_eq_getElem (by omega), h i (i + 1) (by omega) (by omega) (by omega)⟩
structure WTxt (mg : Str → Option Value) (fI fL : Addr) : Prop where
  len : mg "len" = none
  isin : mg "isinstance" = none
  int : mg "int" = none
  bool : mg "bool" = none
  str : mg "str" = none
  tup : mg "tuple" = none
  dict : mg "dict" = none
  all : mg "all" = none
  range : mg "range" = none
  ie : ∃ u, mg "INTEGER_END" = some u ∧ RelV (.int ten60) u
  ls : ∃ u, mg "LETTERS" = some u ∧ RelV (.str (Str.ofString "abcdefghijklmnopqrstuvwxyz")) u
  mn : ∃ u, mg "MAX_NAME" = some u ∧ RelV (.int 8) u
  fi : mg "is_integer" = some (.ref fI)
  fl : mg "is_letter" = some (.ref fL)
section
variable {P : Program} {w : World} {K : PySem.W.Frag} {mg : Str → Option Value} {base : Heap} {T : List Addr → Hp → Addr → Prop} {fI fL : Addr}
theorem scIsInteger : FnScope ["value"] ["value"] (defScope sIsInteger) := ⟨rfl, rfl, rfl, by decide +kernel, rfl, by decide +kernel, by decide +kernel⟩
theorem ok_is_integer (O : Own K T) {f : Addr} {fd : FuncData} (F : Fun K "is_integer" "is_integer" sIsInteger f fd) (X : WTxt mg fI fL) : FnOk P w K mg base CX0 1 f fd ["value"] (spIs T fun _ => IsInt) := by
  refine F.ok scIsInteger (fun vs H Q E h => ?_) (fun cdv A outer s H vs Q E hr h => ?_)
  · obtain ⟨v, B, H0, m, n, rfl, _⟩ := h
    rfl
  · obtain ⟨v, B, H0, m, n, rfl, sb, hm, d, k⟩ := h
    refine ⟨_, pss_one (ps_ret (pe_and (pe_isi (N := "int") (pv 0) X.isin X.int) (pe_and (pe_not (pe_isi (N := "bool") (pv 0) X.isin X.bool)) (pe_one (pe_chain op_lt op_lt (pe_un un_neg (pe_gcon rfl X.ie)) (pv 0) (pe_gcon rfl X.ie)))))), ?_⟩
    have no : (∀ i, v ≠ .int i) → (false = true ↔ IsInt v) := fun h => nay fun ⟨i, e, _⟩ => h i e
    rcases d.isInt O sb with ⟨i, rfl, i1, i2⟩ | ⟨ni, ⟨i1, i2⟩ | i1⟩
    · refine ⟨_, rfl, _, i1, _, rfl, iteT ⟨_, rfl, _, i2, _, rfl, _, rfl, iteT ⟨_, rfl, _, rfl, _, _, rfl, rfl, _, rfl, ?_⟩⟩⟩
      refine ite2 (fun c => ?_) (fun c => ?_)
      · refine ⟨_, _, rfl, rfl, k _ _ (Same.refl _) ?_⟩
        rw [decide_eq_true_iff]
        exact ⟨fun h => ⟨i, rfl, of_decide_eq_true c, h⟩, fun ⟨j, e, _, h⟩ => by cases e; exact h⟩
      · refine k _ _ (Same.refl _) (nay fun ⟨j, e, h, _⟩ => ?_)
        cases e
        exact (c (decide_eq_true h)).elim
    · exact ⟨_, rfl, _, i1, _, rfl, iteT ⟨_, rfl, _, i2, _, rfl, _, rfl, iteF (k _ _ (Same.refl _) (no ni))⟩⟩
    · exact ⟨_, rfl, _, i1, _, rfl, iteF (k _ _ (Same.refl _) (no ni))⟩
theorem scIsLetter : FnScope ["value"] ["value"] (defScope sIsLetter) := ⟨rfl, rfl, rfl, by decide +kernel, rfl, by decide +kernel, by decide +kernel⟩
theorem ok_is_letter (O : Own K T) {f : Addr} {fd : FuncData} (F : Fun K "is_letter" "is_letter" sIsLetter f fd) (X : WTxt mg fI fL) : FnOk P w K mg base CX0 1 f fd ["value"] (spIs T fun _ => IsLet) := by
  refine F.ok scIsLetter (fun vs H Q E h => ?_) (fun cdv A outer s H vs Q E hr h => ?_)
  · obtain ⟨v, B, H0, m, n, rfl, _⟩ := h
    rfl
  · obtain ⟨v, B, H0, m, n, rfl, sb, hm, d, k⟩ := h
    refine ⟨_, pss_one (ps_ret (pe_and (pe_isi (N := "str") (pv 0) X.isin X.str) (pe_and (pe_cmpR op_eq (pe_callB call_len_str (by rfl) X.len PySem.boot_len (pa_cons (pv 0) pa_nil)) pe_int (nomark _)) (pe_one (pe_cmpR op_in_sign (pv 0) (pe_gcon rfl X.ls) (by rfl)))))), ?_⟩
    rcases d.isStr O sb with ⟨z, rfl, hz, i1⟩ | ⟨ni, i1⟩
    · refine ⟨_, rfl, _, i1, _, rfl, iteT ⟨_, rfl, z, rfl, Nat.le_of_lt (small4 (by omega)), rfl, _, rfl, ?_⟩⟩
      refine ite2 (fun c => ?_) (fun c => ?_)
      · have c' : (V.int z.length) = .int 1 := of_decide_eq_true c
        injection c' with c'
        obtain ⟨a, rfl⟩ := sign_of (s := z) (by omega)
        refine ⟨_, rfl, a, _, rfl, rfl, k _ _ (Same.refl _) ?_⟩
        rw [decide_eq_true_iff]
        exact (alpha_mem a).trans isLet_sign.symm
      · refine k _ _ (Same.refl _) (nay fun ⟨a, e, _⟩ => c ?_)
        cases e
        rfl
    · refine ⟨_, rfl, _, i1, _, rfl, iteF (k _ _ (Same.refl _) (nay fun ⟨a, e, _⟩ => ni _ e))⟩
end
end Wd

set_option Elab.async false
set_option linter.all false
set_option maxRecDepth 100000
set_option maxHeartbeats 4000000
namespace Wd
open PySem L2
theorem all_at {α : Type} {xs : List α} {p : α → Prop} : (∀ i, i < xs.length → ∃ x, xs[i]? = some x ∧ p x) ↔ ∀ x ∈ xs, p x := by
  constructor
  · intro h x hx
    obtain ⟨i, hi, rfl⟩ := List.getElem_of_mem hx
    obtain ⟨y, e, q⟩ := h i hi
    rw [List.getElem?_eq_getElem hi] at e
    exact Option.some.inj e ▸ q
  · exact fun h i hi => ⟨_, List.getElem?_eq_getElem hi, h _ (List.getElem_mem hi)⟩
theorem at_one {α : Type} {xs : List α} {i : Nat} {x : α} {p : α → Prop} (h : xs[i]? = some x) {b : Bool} (hb : b = true ↔ p x) : b = true ↔ ∃ y, xs[i]? = some y ∧ p y :=
  ⟨fun q => ⟨x, h, hb.mp q⟩, fun ⟨y, e, q⟩ => hb.mpr (by rw [h] at e; exact Option.some.inj e ▸ q)⟩
theorem at_nn {α : Type} {xs : List α} {r : Int} {v : α} (h0 : 0 ≤ r) (h : xs[r.toNat]? = some v) : atI xs r = some v := by
  obtain ⟨n, rfl⟩ := Int.eq_ofNat_of_zero_le h0
  exact atI_nat (by simpa using h)
theorem tup_same {H : Hp} {a : Addr} {xs ys : List V} (h : H a = some (.tup xs)) (h' : H a = some (.tup ys)) : xs = ys := by
  rw [h] at h'
  injection h' with h'
  injection h'
theorem dK_same {H : Hp} {a : Addr} {xs ys : List (Key × V)} (h : H a = some (.dK xs)) (h' : H a = some (.dK ys)) : xs = ys := by
  rw [h] at h'
  injection h' with h'
  injection h'
section
variable {P : Program} {w : World} {K : PySem.W.Frag} {mg : Str → Option Value} {base : Heap} {T : List Addr → Hp → Addr → Prop} {fI fL : Addr}
abbrev nIsLetters : List Str := ["value", "letter", "k"]
end
end Wd

set_option Elab.async false
set_option linter.all false
set_option maxRecDepth 100000
set_option maxHeartbeats 4000000
namespace Wd
open PySem L2
structure ATxt (K : PySem.W.Frag) (w : World) (mg : Str → Option Value) (d : Addr) (es : Array DictEntry) (n : Nat) : Prop where
  g : ∃ u, mg "ARGUMENTS" = some u ∧ RelV (.ref d) u
  k : KDict K w d es n
  mem : ∀ z : Str, ∃ r, PySem.W.nsIn K d z = some r ∧ (r.isSome = true ↔ z ∈ words ∨ z = Str.ofString "+" ∨ z = Str.ofString "&")
theorem no_plus : ¬ ∀ c ∈ (Str.ofString "+").cps.toList, low c := fun h => by
  have := h 43 (by decide +kernel)
  unfold low at this
  omega
theorem no_amp : ¬ ∀ c ∈ (Str.ofString "&").cps.toList, low c := fun h => by
  have := h 38 (by decide +kernel)
  unfold low at this
  omega
theorem cps_at {z : Str} {p : Nat → Prop} : (∀ i, i < z.cps.size → ∃ c, z.cps[i]? = some c ∧ p c) ↔ ∀ c ∈ z.cps.toList, p c := by
  have q := all_at (xs := z.cps.toList) (p := p)
  rw [Array.length_toList] at q
  simpa using q
theorem chainF {p q : Prop} [Decidable p] [Decidable q] {A B : Prop} (h : ¬ (p ∧ q) → B) (h' : p ∧ q → A) : if p then (if q then A else B) else B := by
  by_cases c : p
  · rw [if_pos c]
    by_cases e : q
    · rw [if_pos e]
      exact h' ⟨c, e⟩
    · rw [if_neg e]
      exact h fun z => e z.2
  · rw [if_neg c]
    exact h fun z => c z.1
section
variable {P : Program} {w : World} {K : PySem.W.Frag} {mg : Str → Option Value} {base : Heap} {T : List Addr → Hp → Addr → Prop} {fI fL : Addr} {dA : Addr} {es : Array DictEntry} {nA : Nat}
abbrev nIsName : List Str := ["value", "sign"]
theorem scIsName : FnScope nIsName ["value"] (defScope sIsName) := ⟨rfl, rfl, rfl, by decide +kernel, rfl, by decide +kernel, by decide +kernel⟩
theorem ok_is_name (O : Own K T) {f : Addr} {fd fdL : FuncData} (F : Fun K "is_name" "is_name" sIsName f fd) (X : WTxt mg fI fL) (Z : ATxt K w mg dA es nA) (FL : Fun K "is_letter" "is_letter" sIsLetter fL fdL) (bL : Binds K fdL ["value"] []) :
    FnOk P w K mg base CX0 2 f fd ["value"] (spIs T fun _ => IsName) := by
  have GL : FnOk P w K mg base CX0 1 fL fdL ["value"] (spIs T fun _ => IsLet) := ok_is_letter O FL X
  refine F.ok scIsName (fun vs H Q E h => ?_) (fun cdv A outer s H vs Q E hr h => ?_)
  · obtain ⟨v, B, H0, m, n, rfl, _⟩ := h
    rfl
  · obtain ⟨v, B, H0, m, n, rfl, sb, hm, d, k⟩ := h
    refine ⟨_, pss_cons (ps_if (PW.pt (pw_or (pt_not (pt_val (pe_isi (N := "str") (pv 0) X.isin X.str))) (pw_or1 (pt_not (pt_chain op_le op_le pe_int (pe_callB call_len_str (by rfl) X.len PySem.boot_len (pa_cons (pv 0) pa_nil)) (pe_gcon rfl X.mn)))))) (pss_one (ps_ret pe_bl)) pss_nil)
      (pss_one (ps_ret (pe_and (pe_callB (cr_all rfl) (by rfl) X.all (by decide +kernel) (pa_cons (pe_lc (own := [("sign", 1)]) (g := gName 1) (tt := tYes) rfl scIsName.nd (pi_str (pv 0))
          (blkOk_by (N := nIsName) (sc := defScope sIsName) (by decide +kernel)) (fun _ _ _ _ _ => pg_name (i := 1) scIsName.nd rfl (Or.inl rfl)) (fun _ _ _ _ _ => pts_nil)
          (fun _ _ _ _ _ => pe_call GL hr rfl X.fl FL.kp bL .nil pass0 (pa_cons (pv 1) pa_nil))) pa_nil))
        (pe_one (pe_cmpR (op_notIn_kd Z.k) (pv 0) (pe_gcon rfl Z.g) (by rfl)))))), ?_⟩
    rcases d.isStr O sb with ⟨z, rfl, hz, i1⟩ | ⟨ni, i1⟩
    · have hz1 : z.length ≤ sizeLine := Nat.le_of_lt (small4 (by omega))
      refine ⟨_, rfl, _, i1, _, rfl, iteF ⟨_, rfl, z, rfl, hz1, _, _, rfl, rfl, _, rfl, ?_⟩⟩
      have bad : ¬ (1 ≤ z.length ∧ z.length ≤ 8) → ¬ IsName (.str z) := fun h ⟨y, e, q1, q2, _⟩ => by
        cases e
        exact h ⟨q1, q2⟩
      refine ite2 (fun c1 => ?_) (fun c1 => ?_)
      · refine ⟨_, _, rfl, rfl, _, rfl, ?_⟩
        refine ite2 (fun c2 => ?_) (fun c2 => ?_)
        · refine k _ _ (Same.refl _) (nay (bad fun q => ?_))
          simp at c2
          omega
        · have c1' : (1 : Int) ≤ z.length := of_decide_eq_true c1
          have c2' : (z.length : Int) ≤ 8 := by simpa using c2
          refine ⟨_, rfl, _, rfl, fun D hD => ?_⟩
          refine lc_bools (walk_str (z := z)) (fun i => ∃ c, z.cps[i]? = some c ∧ low c) hD (by show z.length ≤ 400000; omega) (fun _ _ => trivial) ?_ ?_
          · rintro i x H1 H' kk hi s1 ⟨rfl, c, hc, rfl⟩ h
            exact ⟨rfl, _, rfl, _, B, H0, 400000, 1, rfl, sb.same s1, Nat.le_refl _, .str _ (by show 1 ≤ 400000; decide) (ok_sign d.okS hc), fun H4 b s4 hb => h b H4 s4 ⟨fun q => ⟨c, hc, isLet_sign.mp (hb.mp q)⟩, fun ⟨y, e, q⟩ => hb.mpr (isLet_sign.mpr (by rw [hc] at e; exact Option.some.inj e ▸ q))⟩⟩
          · rintro H1 bs s1 hD1 hb
            rw [cps_at] at hb
            refine ⟨D, bs, rfl, SqL.of hD1, _, rfl, ?_⟩
            obtain ⟨r, hr1, hr2⟩ := Z.mem z
            cases hbs : bs.all id with
            | false =>
              rw [hbs] at hb
              refine iteF (k _ _ s1 (nay fun ⟨y, e, q1, q2, q3, _⟩ => ?_))
              cases e
              exact Bool.noConfusion (hb.mpr q3)
            | true =>
              have lo := hb.mp hbs
              have pm : (z ∈ words ∨ z = Str.ofString "+" ∨ z = Str.ofString "&") ↔ z ∈ words := ⟨fun q => by
                rcases q with q | rfl | rfl
                · exact q
                · exact (no_plus lo).elim
                · exact (no_amp lo).elim, .inl⟩
              refine iteT ⟨_, rfl, z, r, rfl, rfl, hr1, k _ _ s1 ?_⟩
              rw [pm] at hr2
              rw [Bool.not_eq_true', ← Bool.not_eq_true, hr2]
              exact ⟨fun q => ⟨z, rfl, by omega, by omega, lo, q⟩, fun ⟨y, e, _, _, _, q⟩ => by cases e; exact q⟩
      · refine ⟨_, rfl, iteT (k _ _ (Same.refl _) (nay (bad fun q => c1 ?_)))⟩
        exact decide_eq_true (by omega)
    · exact ⟨_, rfl, _, i1, _, rfl, iteT (k _ _ (Same.refl _) (nay fun ⟨z, e, _⟩ => ni _ e))⟩
end
end Wd

set_option Elab.async false
set_option linter.all false
set_option maxRecDepth 100000
set_option maxHeartbeats 4000000
namespace Wd
open PySem L2
section
variable {P : Program} {w : World} {K : PySem.W.Frag} {mg : Str → Option Value} {base : Heap} {T : List Addr → Hp → Addr → Prop} {fI fL fLs fN fS fV fO : Addr} {dA : Addr} {es : Array DictEntry} {nA : Nat}
theorem scIsEvent : FnScope ["value", "time", "source", "letter", "worth"] ["value"] (defScope sIsEvent) := ⟨rfl, rfl, rfl, by decide +kernel, rfl, by decide +kernel, by decide +kernel⟩
theorem ok_is_event (O : Own K T) {f : Addr} {fd fdL fdN fdI : FuncData} (F : Fun K "is_event" "is_event" sIsEvent f fd) (X : WTxt mg fI fL) (Z : ATxt K w mg dA es nA) (mN : mg "is_name" = some (.ref fN))
    (FL : Fun K "is_letter" "is_letter" sIsLetter fL fdL) (bL : Binds K fdL ["value"] []) (FI : Fun K "is_integer" "is_integer" sIsInteger fI fdI) (bI : Binds K fdI ["value"] [])
    (FN : Fun K "is_name" "is_name" sIsName fN fdN) (bN : Binds K fdN ["value"] []) :
    FnOk P w K mg base CX0 3 f fd ["value"] (spIs T IsEvent) := by
  have GL : FnOk P w K mg base CX0 1 fL fdL ["value"] (spIs T fun _ => IsLet) := ok_is_letter O FL X
  have GI : FnOk P w K mg base CX0 1 fI fdI ["value"] (spIs T fun _ => IsInt) := ok_is_integer O FI X
  have GN : FnOk P w K mg base CX0 2 fN fdN ["value"] (spIs T fun _ => IsName) := ok_is_name O FN X Z FL bL
  refine F.ok scIsEvent (fun vs H Q E h => ?_) (fun cdv A outer s H vs Q E hr h => ?_)
  · obtain ⟨v, B, H0, m, n, rfl, _⟩ := h
    rfl
  · obtain ⟨v, B, H0, m, n, rfl, sb, hm, d, k⟩ := h
    have hr1 : Room 1 _ := hr.mono (by decide)
    refine ⟨_, pss_cons (ps_if (PW.pt (pw_or (pt_not (pt_val (pe_isi (N := "tuple") (pv 0) X.isin X.tup))) (pw_or1 (pt_cmpR op_ne (pe_callB call_len_seq (by rfl) X.len PySem.boot_len (pa_cons (pv 0) pa_nil)) pe_int (nomark _))))) (pss_one (ps_ret pe_bl)) pss_nil)
      (pss_cons (ps_asg (pv 0) (pg_tup rfl (pgs_cons (pg_name (i := 1) scIsEvent.nd rfl (Or.inl rfl)) (pgs_cons (pg_name (i := 2) scIsEvent.nd rfl (Or.inl rfl)) (pgs_cons (pg_name (i := 3) scIsEvent.nd rfl (Or.inl rfl)) (pgs_cons (pg_name (i := 4) scIsEvent.nd rfl (Or.inl rfl)) pgs_nil))))))
      (pss_one (ps_ret (pe_and (pe_call GI hr1 rfl X.fi FI.kp bI .nil pass0 (pa_cons (pv 1) pa_nil)) (pe_and (pe_cmpR op_ge (pv 1) pe_int (nomark _)) (pe_and (pe_call GN hr rfl mN FN.kp bN .nil pass0 (pa_cons (pv 2) pa_nil))
        (pe_and (pe_call GL hr1 rfl X.fl FL.kp bL .nil pass0 (pa_cons (pv 3) pa_nil)) (pe_one (pe_call GI hr1 rfl X.fi FI.kp bI .nil pass0 (pa_cons (pv 4) pa_nil)))))))))), ?_⟩
    rcases d.isTup O sb with ⟨a, xs, j, rfl, na, e0, e1, hl, hk, i1⟩ | ⟨no, i1⟩
    · refine ⟨_, rfl, _, i1, _, rfl, iteF ⟨_, rfl, a, xs, rfl, .inr (SqT.of e1), rfl, _, rfl, ?_⟩⟩
      refine ite2 (fun c => ?_) (fun c => ?_)
      · refine k _ _ (Same.refl _) (nay fun ⟨b, t, u, l, w', eb, h, _⟩ => ?_)
        cases eb
        obtain rfl := tup_same e0 h
        simp at c
      · have c' : xs.length = 4 := by
          have c2 : (V.int xs.length) = .int 4 := by simpa using c
          injection c2 with c2
          omega
        obtain ⟨t, u, l, y, rfl⟩ : ∃ t u l y, xs = [t, u, l, y] := by
          match xs, c' with
          | [t, u, l, y], _ => exact ⟨t, u, l, y, rfl⟩
        have un : ∀ {p : Prop}, (∀ t' u' l' y', [t, u, l, y] = [t', u', l', y'] → (∃ i, t' = V.int i ∧ 0 ≤ i ∧ i < ten60) → IsName u' → IsLet l' → IsInt y' → p) → IsEvent H0 (.ref a) → p := fun {p} g ⟨b, t', u', l', y', eb, h, q1, q2, q3, q4⟩ => by
          cases eb
          exact g t' u' l' y' (tup_same e0 h) q1 q2 q3 q4
        refine ⟨_, rfl, a, _, rfl, SqT.of e1, rfl, _, _, rfl, _, _, rfl, _, _, rfl, _, _, rfl, rfl, ?_⟩
        refine ⟨_, rfl, t, B, H0, m, j, rfl, sb, hm, hk t (by simp), fun H1 b1 s1 hb1 => ⟨b1, rfl, ?_⟩⟩
        cases b1 with
        | false =>
          refine iteF (k _ _ s1 (nay (un fun t' u' l' y' e ⟨i, ei, i0, i1⟩ _ _ _ => ?_)))
          cases e
          exact Bool.noConfusion (hb1.mpr ⟨i, ei, by omega, i1⟩)
        | true =>
          obtain ⟨i, rfl, i0, i9⟩ := hb1.mp rfl
          refine iteT ⟨_, rfl, _, _, rfl, rfl, _, rfl, ?_⟩
          refine ite2 (fun g => ?_) (fun g => ?_)
          · have g' : 0 ≤ i := of_decide_eq_true g
            refine ⟨_, rfl, u, B, H0, m, j, rfl, sb.same s1, hm, hk u (by simp), fun H2 b2 s2 hb2 => ⟨b2, rfl, ?_⟩⟩
            cases b2 with
            | false =>
              refine iteF (k _ _ (s1.trans s2) (nay (un fun t' u' l' y' e _ q _ _ => ?_)))
              cases e
              exact Bool.noConfusion (hb2.mpr q)
            | true =>
              refine iteT ⟨_, rfl, l, B, H0, m, j, rfl, (sb.same s1).same s2, hm, hk l (by simp), fun H3 b3 s3 hb3 => ⟨b3, rfl, ?_⟩⟩
              cases b3 with
              | false =>
                refine iteF (k _ _ ((s1.trans s2).trans s3) (nay (un fun t' u' l' y' e _ _ q _ => ?_)))
                cases e
                exact Bool.noConfusion (hb3.mpr q)
              | true =>
                refine iteT ⟨_, rfl, y, B, H0, m, j, rfl, ((sb.same s1).same s2).same s3, hm, hk y (by simp), fun H4 b4 s4 hb4 => k _ _ (((s1.trans s2).trans s3).trans s4) (hb4.trans
                  ⟨fun q => ⟨a, _, u, l, y, rfl, e0, ⟨i, rfl, g', i9⟩, hb2.mp rfl, hb3.mp rfl, q⟩, un fun t' u' l' y' e _ _ _ q => ?_⟩)⟩
                cases e
                exact q
          · refine k _ _ s1 (nay (un fun t' u' l' y' e ⟨i', ei, i0', _⟩ _ _ _ => ?_))
            cases e
            cases ei
            exact g (decide_eq_true i0')
    · exact ⟨_, rfl, _, i1, _, rfl, iteT (k _ _ (Same.refl _) (nay fun ⟨b, t, u, l, y, eb, h, _⟩ => no _ _ eb h))⟩
end
end Wd

set_option Elab.async false
set_option linter.all false
set_option maxRecDepth 100000
set_option maxHeartbeats 4000000
set_option pp.maxSteps 400
set_option pp.deepTerms false
namespace Wd
open PySem L2 TL
open SX (S)

open PySem.Spec PyProof.Rows
/-! ### values as they are drawn: data -/
mutual
/-- no object of it is in A -/
inductive DA (A : List Addr) (H : Hp) : PyData → V → Prop
  | non : DA A H .none .non
  | bl (b : Bool) : DA A H (.bool b) (.bl b)
  | int (i : Int) : DA A H (.int i) (.int i)
  | str (z : Str) : DA A H (.str z) (.str z)
  | tup {a : Addr} {xs : List V} {ds : List PyData} : a ∉ A → H a = some (.tup xs) → DAL A H ds xs → DA A H (.tuple ds) (.ref a)
  | lst {a : Addr} {xs : List V} {ds : List PyData} : a ∉ A → H a = some (.lst xs) → DAL A H ds xs → DA A H (.list ds) (.ref a)
  | dic {a : Addr} : a ∉ A → H a = some (.dK []) → DA A H (.dict []) (.ref a)
inductive DAL (A : List Addr) (H : Hp) : List PyData → List V → Prop
  | nil : DAL A H [] []
  | cons {d : PyData} {ds : List PyData} {v : V} {vs : List V} : DA A H d v → DAL A H ds vs → DAL A H (d :: ds) (v :: vs)
end
mutual
/-- short lists, short texts of signs that are some -/
def fitB (m : Nat) : PyData → Bool
  | .str z => decide (z.length ≤ m) && PyData.strOk z
  | .list ds => decide (ds.length ≤ m) && fitL m ds
  | .tuple ds => decide (ds.length ≤ m) && fitL m ds
  | .dict kvs => kvs.isEmpty
  | .none => true
  | .bool _ => true
  | .int _ => true
def fitL (m : Nat) : List PyData → Bool
  | [] => true
  | d :: ds => fitB m d && fitL m ds
end
theorem fitL_mem {m : Nat} : ∀ {ds : List PyData}, fitL m ds = true → ∀ d ∈ ds, fitB m d = true
  | [], _, d, h => nomatch h
  | e :: ds, h, d, hd => by
    unfold fitL at h
    rw [Bool.and_eq_true] at h
    rcases List.mem_cons.mp hd with rfl | hd
    · exact h.1
    · exact fitL_mem h.2 d hd
theorem fitL_of {m : Nat} : ∀ {ds : List PyData}, (∀ d ∈ ds, fitB m d = true) → fitL m ds = true
  | [], _ => rfl
  | e :: ds, h => by
    unfold fitL
    rw [h e (by simp), fitL_of fun d hd => h d (by simp [hd])]
    rfl
section
variable {A : List Addr} {H H' : Hp}
theorem DAL.length : ∀ {ds : List PyData} {xs : List V}, DAL A H ds xs → ds.length = xs.length
  | _, _, .nil => rfl
  | _, _, .cons _ h => congrArg (· + 1) h.length
theorem DAL.at : ∀ {ds : List PyData} {xs : List V}, DAL A H ds xs → ∀ {i : Nat} {d : PyData} {v : V}, ds[i]? = some d → xs[i]? = some v → DA A H d v
  | _, _, .nil, i, d, v, h, _ => by cases h
  | _, _, .cons a as, 0, d, v, h, g => by
    cases h
    cases g
    exact a
  | _, _, .cons a as, i + 1, d, v, h, g => as.at (i := i) h g
theorem DAL.of : ∀ {ds : List PyData} {xs : List V}, ds.length = xs.length → (∀ (i : Nat) (d : PyData) (v : V), ds[i]? = some d → xs[i]? = some v → DA A H d v) → DAL A H ds xs
  | [], [], _, _ => .nil
  | [], _ :: _, l, _ => nomatch l
  | _ :: _, [], l, _ => nomatch l
  | d :: ds, v :: xs, l, h => .cons (h 0 d v rfl rfl) (DAL.of (Nat.succ.inj l) fun i d v e f => h (i + 1) d v e f)
theorem DAL.app : ∀ {ds es : List PyData} {xs ys : List V}, DAL A H ds xs → DAL A H es ys → DAL A H (ds ++ es) (xs ++ ys)
  | _, _, _, _, .nil, g => g
  | _, _, _, _, .cons a as, g => .cons a (DAL.app as g)
mutual
theorem DA.mono (k : Ob A H H') : ∀ {d : PyData} {v : V}, DA A H d v → DA A H' d v
  | _, _, .non => .non
  | _, _, .bl b => .bl b
  | _, _, .int i => .int i
  | _, _, .str z => .str z
  | _, _, .tup n e l => .tup n (k _ _ n e) (l.mono k)
  | _, _, .lst n e l => .lst n (k _ _ n e) (l.mono k)
  | _, _, .dic n e => .dic n (k _ _ n e)
theorem DAL.mono (k : Ob A H H') : ∀ {ds : List PyData} {xs : List V}, DAL A H ds xs → DAL A H' ds xs
  | _, _, .nil => .nil
  | _, _, .cons a as => .cons (a.mono k) (as.mono k)
end
theorem DA.same (s : Same H H') {d : PyData} {v : V} (h : DA A H d v) : DA A H' d v := h.mono (.of s)
theorem DAL.same (s : Same H H') {ds : List PyData} {xs : List V} (h : DAL A H ds xs) : DAL A H' ds xs := h.mono (.of s)
mutual
/-- as k01 tells data -/
theorem DA.dat {m : Nat} : ∀ {d : PyData} {v : V}, DA A H d v → fitB m d = true → ∃ n, Dat noT A H m n v
  | _, _, .non, _ => ⟨1, .non⟩
  | _, _, .bl b, _ => ⟨1, .bl b⟩
  | _, _, .int i, _ => ⟨1, .int i⟩
  | _, _, .str z, h => by
    unfold fitB at h
    rw [Bool.and_eq_true, decide_eq_true_eq] at h
    exact ⟨1, .str z h.1 h.2⟩
  | _, _, .tup (ds := ds) n e l, h => by
    unfold fitB at h
    rw [Bool.and_eq_true, decide_eq_true_eq] at h
    obtain ⟨k, hk⟩ := l.dat h.2
    exact ⟨k + 1, .tup n e (by rw [← l.length]; exact h.1) hk⟩
  | _, _, .lst (ds := ds) n e l, h => by
    unfold fitB at h
    rw [Bool.and_eq_true, decide_eq_true_eq] at h
    obtain ⟨k, hk⟩ := l.dat h.2
    exact ⟨k + 1, .lst n e (by rw [← l.length]; exact h.1) hk⟩
  | _, _, .dic n e, _ => ⟨1, .dic n e (Nat.zero_le _) List.nodup_nil (fun p hp => nomatch hp) fun p hp => nomatch hp⟩
theorem DAL.dat {m : Nat} : ∀ {ds : List PyData} {xs : List V}, DAL A H ds xs → fitL m ds = true → ∃ n, ∀ x ∈ xs, Dat noT A H m n x
  | _, _, .nil, _ => ⟨0, fun x hx => nomatch hx⟩
  | _, _, .cons a as, h => by
    unfold fitL at h
    rw [Bool.and_eq_true] at h
    obtain ⟨n1, h1⟩ := a.dat h.1
    obtain ⟨n2, h2⟩ := as.dat h.2
    refine ⟨max n1 n2, fun x hx => ?_⟩
    rcases List.mem_cons.mp hx with rfl | hx
    · exact h1.up (Nat.le_refl _) (Nat.le_max_left _ _)
    · exact (h2 x hx).up (Nat.le_refl _) (Nat.le_max_right _ _)
end
end
/-- the promise of a function of data that answers True or False -/
def spB (f : PyData → Bool) : Sp := fun vs H Q _ => ∃ (A : List Addr) (v : V) (d : PyData), vs = [v] ∧ DA A H d v ∧ fitB 400000 d = true ∧ ∀ H', Same H H' → Q (.bl (f d)) H'
theorem spB_of {P : Program} {w : World} {K : PySem.W.Frag} {mg : Str → Option Value} {base : Heap} {k : Nat} {f : Addr} {fd : FuncData} {R : Hp → V → Prop} {g : PyData → Bool} (h : ∀ A H d v, DA A H d v → fitB 400000 d = true → (g d = true ↔ R H v))
    (F : FnOk P w K mg base CX0 k f fd ["value"] (spIs noT R)) : FnOk P w K mg base CX0 k f fd ["value"] (spB g) := F.imp fun vs H Q E hs => by
  obtain ⟨A, v, d, rfl, da, fit, q⟩ := hs
  obtain ⟨n, dt⟩ := da.dat fit
  refine ⟨v, A, H, 400000, n, rfl, Ob.refl _ _, Nat.le_refl _, dt, fun H' b s hb => ?_⟩
  have : b = g d := by
    have e := h A H d v da fit
    cases b with
    | true => exact (e.mpr (hb.mp rfl)).symm
    | false =>
      cases hg : g d with
      | false => rfl
      | true => exact absurd (hb.mpr (e.mp hg)) (by decide)
  rw [this]
  exact q H' s
/-! ### what the words mean, of data -/
def intB : PyData → Bool
  | .int i => decide (-ten60 < i) && decide (i < ten60)
  | _ => false
def lowB (c : Nat) : Bool := decide (97 ≤ c) && decide (c ≤ 122)
def wordB : PyData → Bool
  | .str z => decide (z.cps.toList ≠ []) && z.cps.toList.all lowB
  | _ => false
def letterB : PyData → Bool
  | .str z => decide (z.cps.toList.length = 1) && z.cps.toList.all lowB
  | _ => false
def nameB : PyData → Bool
  | .str z => decide (1 ≤ z.length) && (decide (z.length ≤ 8) && (z.cps.toList.all lowB && decide (z ∉ words)))
  | _ => false
def timeB : PyData → Bool
  | .int i => decide (0 ≤ i) && decide (i < ten60)
  | _ => false
def eventB : PyData → Bool
  | .tuple [t, u, l, w] => timeB t && (nameB u && (letterB l && intB w))
  | _ => false
theorem lowB_iff {c : Nat} : lowB c = true ↔ low c := by
  unfold lowB low
  rw [Bool.and_eq_true, decide_eq_true_eq, decide_eq_true_eq]
theorem all_low {l : List Nat} : l.all lowB = true ↔ ∀ c ∈ l, low c := by
  rw [List.all_eq_true]
  exact ⟨fun h c hc => lowB_iff.mp (h c hc), fun h c hc => lowB_iff.mpr (h c hc)⟩
theorem intB_iff {A : List Addr} {H : Hp} {d : PyData} {v : V} (h : DA A H d v) : intB d = true ↔ IsInt v := by
  cases h with
  | int i =>
    unfold intB
    rw [Bool.and_eq_true, decide_eq_true_eq, decide_eq_true_eq]
    exact ⟨fun ⟨a, b⟩ => ⟨i, rfl, a, b⟩, fun ⟨j, e, a, b⟩ => by cases e; exact ⟨a, b⟩⟩
  | _ => exact ⟨(fun z => by cases z), fun ⟨j, e, _⟩ => by cases e⟩
theorem timeB_iff {A : List Addr} {H : Hp} {d : PyData} {v : V} (h : DA A H d v) : timeB d = true ↔ ∃ i, v = .int i ∧ 0 ≤ i ∧ i < ten60 := by
  cases h with
  | int i =>
    unfold timeB
    rw [Bool.and_eq_true, decide_eq_true_eq, decide_eq_true_eq]
    exact ⟨fun ⟨a, b⟩ => ⟨i, rfl, a, b⟩, fun ⟨j, e, a, b⟩ => by cases e; exact ⟨a, b⟩⟩
  | _ => exact ⟨(fun z => by cases z), fun ⟨j, e, _⟩ => by cases e⟩
theorem letterB_iff {A : List Addr} {H : Hp} {d : PyData} {v : V} (h : DA A H d v) : letterB d = true ↔ IsLet v := by
  cases h with
  | str z =>
    unfold letterB
    rw [Bool.and_eq_true, decide_eq_true_eq, all_low]
    constructor
    · rintro ⟨a, b⟩
      obtain ⟨c, rfl⟩ := sign_of (s := z) a
      exact ⟨c, rfl, b c (by simp)⟩
    · rintro ⟨c, e, l⟩
      cases e
      exact ⟨rfl, fun d hd => by rw [List.mem_singleton.mp hd]; exact l⟩
  | _ => exact ⟨(fun z => by cases z), fun ⟨j, e, _⟩ => by cases e⟩
theorem nameB_iff {A : List Addr} {H : Hp} {d : PyData} {v : V} (h : DA A H d v) : nameB d = true ↔ IsName v := by
  cases h with
  | str z =>
    unfold nameB
    rw [Bool.and_eq_true, Bool.and_eq_true, Bool.and_eq_true, decide_eq_true_eq, decide_eq_true_eq, decide_eq_true_eq, all_low]
    exact ⟨fun ⟨a, b, c, d⟩ => ⟨z, rfl, a, b, c, d⟩, fun ⟨s, e, a, b, c, d⟩ => by cases e; exact ⟨a, b, c, d⟩⟩
  | _ => exact ⟨(fun z => by cases z), fun ⟨j, e, _⟩ => by cases e⟩
theorem eventB_iff {A : List Addr} {H : Hp} {d : PyData} {v : V} (h : DA A H d v) : eventB d = true ↔ IsEvent H v := by
  cases h with
  | @tup a xs ds n e l =>
    constructor
    · intro z
      match ds, l, z with
      | [t, u, l, w], .cons ht (.cons hu (.cons hl (.cons hw .nil))), z =>
        have z : (timeB t && (nameB u && (letterB l && intB w))) = true := z
        rw [Bool.and_eq_true, Bool.and_eq_true, Bool.and_eq_true] at z
        exact ⟨a, _, _, _, _, rfl, e, (timeB_iff ht).mp z.1, (nameB_iff hu).mp z.2.1, (letterB_iff hl).mp z.2.2.1, (intB_iff hw).mp z.2.2.2⟩
      | [], _, z => cases z
      | [_], _, z => cases z
      | [_, _], _, z => cases z
      | [_, _, _], _, z => cases z
      | _ :: _ :: _ :: _ :: _ :: _, _, z => cases z
    · rintro ⟨b, t, u, l', w, eb, e2, h1, h2, h3, h4⟩
      cases eb
      rw [e] at e2
      cases e2
      match ds, l with
      | [_, _, _, _], .cons ht (.cons hu (.cons hl (.cons hw .nil))) =>
        show (timeB _ && (nameB _ && (letterB _ && intB _))) = true
        rw [(timeB_iff ht).mpr h1, (nameB_iff hu).mpr h2, (letterB_iff hl).mpr h3, (intB_iff hw).mpr h4]
        rfl
  | lst n e _ => exact ⟨(fun z => by cases z), fun ⟨b, _, _, _, _, eb, e2, _⟩ => by cases eb; rw [e] at e2; cases e2⟩
  | dic n e => exact ⟨(fun z => by cases z), fun ⟨b, _, _, _, _, eb, e2, _⟩ => by cases eb; rw [e] at e2; cases e2⟩
  | _ => exact ⟨(fun z => by cases z), fun ⟨b, _, _, _, _, eb, _⟩ => by cases eb⟩
end Wd

set_option Elab.async false
set_option linter.all false
set_option maxRecDepth 100000
set_option maxHeartbeats 4000000
set_option pp.maxSteps 400
set_option pp.deepTerms false
namespace Wd
open PySem L2 TL
open SX (S)

open PySem.Spec PyProof.Rows
/-! ### the first functions, of data -/
/-- a def that stands at its name -/
structure At (P : Program) (w : World) (K : PySem.W.Frag) (mg : Str → Option Value) (base : Heap) (k : Nat) (x : Str) (f : Addr) (fd : FuncData) (ps : List Str) (sp : Sp) : Prop where
  m : mg x = some (.ref f)
  kp : PySem.W.keepIn K (.ref f) = true
  b : Binds K fd ps []
  g : FnOk P w K mg base CX0 k f fd ps sp
def rLenQ (K : PySem.W.Frag) : List V → Hp → VK → Prop := fun xs H Q => ∃ p ys, xs = [V.ref p] ∧ (SqL K H p ys ∨ SqT K H p ys) ∧ Q (V.int ys.length) H
theorem call_lenQ {X : Cx} {K : PySem.W.Frag} (h : X.K = K) : CallR X (.builtin "len") (rLenQ K) := by
  subst h
  exact call_len_seq
theorem nth_all {ds : List PyData} {g : PyData → Bool} {bs : List Bool} {n : Nat} (hn : n = ds.length) (h : bs.all id = true ↔ ∀ i, i < n → ∃ d, ds[i]? = some d ∧ g d = true) : bs.all id = ds.all g := by
  have : (∀ i, i < n → ∃ d, ds[i]? = some d ∧ g d = true) ↔ ds.all g = true := by
    rw [hn, all_at (p := fun d => g d = true), List.all_eq_true]
  rw [this] at h
  cases hb : bs.all id with
  | true => exact (h.mp hb).symm
  | false =>
    cases hg : ds.all g with
    | false => rfl
    | true => exact absurd (h.mpr hg) (by rw [hb]; decide)
section
variable {K : PySem.W.Frag} {A : List Addr} {H : Hp}
theorem DA.isTup {d : PyData} {v : V} (h : DA A H d v) : (∃ a xs ds, v = .ref a ∧ d = .tuple ds ∧ a ∉ A ∧ H a = some (.tup xs) ∧ DAL A H ds xs ∧ Isi K H v "tuple" true) ∨ ((∀ ds, d ≠ .tuple ds) ∧ Isi K H v "tuple" false) := by
  cases h with
  | non => exact .inr ⟨fun ds e => (nomatch e), isi_ty (.base .non) (by decide)⟩
  | bl b => exact .inr ⟨fun ds e => (nomatch e), isi_ty (.base (.bl b)) (by decide)⟩
  | int i => exact .inr ⟨fun ds e => (nomatch e), isi_ty (.base (.int i)) (by decide)⟩
  | str z => exact .inr ⟨fun ds e => (nomatch e), isi_ty (.base (.str z)) (by decide)⟩
  | tup n e l => exact .inl ⟨_, _, _, rfl, rfl, n, e, l, isi_ty (.base (.tup e)) (by decide)⟩
  | lst n e l => exact .inr ⟨fun ds e => (nomatch e), isi_ty (.base (.lst e)) (by decide)⟩
  | dic n e => exact .inr ⟨fun ds e => (nomatch e), isi_ty (.base (.dK e)) (by decide)⟩
theorem DA.isStr {d : PyData} {v : V} (h : DA A H d v) : (∃ z, v = .str z ∧ d = .str z ∧ Isi K H v "str" true) ∨ ((∀ z, d ≠ .str z) ∧ (∀ z, v ≠ .str z) ∧ Isi K H v "str" false) := by
  cases h with
  | non => exact .inr ⟨fun ds e => (nomatch e), fun ds e => (nomatch e), isi_ty (.base .non) (by decide)⟩
  | bl b => exact .inr ⟨fun ds e => (nomatch e), fun ds e => (nomatch e), isi_ty (.base (.bl b)) (by decide)⟩
  | int i => exact .inr ⟨fun ds e => (nomatch e), fun ds e => (nomatch e), isi_ty (.base (.int i)) (by decide)⟩
  | str z => exact .inl ⟨z, rfl, rfl, isi_ty (.base (.str z)) (by decide)⟩
  | tup n e l => exact .inr ⟨fun ds e => (nomatch e), fun ds e => (nomatch e), isi_ty (.base (.tup e)) (by decide)⟩
  | lst n e l => exact .inr ⟨fun ds e => (nomatch e), fun ds e => (nomatch e), isi_ty (.base (.lst e)) (by decide)⟩
  | dic n e => exact .inr ⟨fun ds e => (nomatch e), fun ds e => (nomatch e), isi_ty (.base (.dK e)) (by decide)⟩
end
def areB (k : Int) : PyData → Bool
  | .tuple ds => decide ((ds.length : Int) = k) && ds.all intB
  | _ => false
def spAreD : Sp := fun vs H Q _ => ∃ (A : List Addr) (v : V) (d : PyData) (k : Int), vs = [v, .int k] ∧ DA A H d v ∧ fitB 400000 d = true ∧ ∀ H', Same H H' → Q (.bl (areB k d)) H'
def rowsB : PyData → Bool
  | .tuple ds => decide (1 ≤ ds.length) && (decide (ds.length ≤ 13) && ds.all (areB (ds.length : Nat)))
  | _ => false
theorem fit_tup {m : Nat} {ds : List PyData} (h : fitB m (.tuple ds) = true) : ds.length ≤ m ∧ ∀ d ∈ ds, fitB m d = true := by
  unfold fitB at h
  rw [Bool.and_eq_true, decide_eq_true_eq] at h
  exact ⟨h.1, fitL_mem h.2⟩
section
variable {P : Program} {w : World} {K : PySem.W.Frag} {mg : Str → Option Value} {base : Heap} {fI fL fA fE : Addr} {dI dA dE : FuncData}
abbrev nAre : List Str := ["value", "many", "item"]
theorem scAre : FnScope nAre ["value", "many"] (defScope sAreIntegers) := ⟨rfl, rfl, rfl, by decide +kernel, rfl, by decide +kernel, by decide +kernel⟩
theorem ok_are {f : Addr} {fd : FuncData} (F : Fun K "are_integers" "are_integers" sAreIntegers f fd) (X : WTxt mg fI fL) (I : At P w K mg base 1 "is_integer" fI dI ["value"] (spB intB)) : FnOk P w K mg base CX0 2 f fd ["value", "many"] spAreD := by
  refine F.ok scAre (fun vs H Q E h => ?_) (fun cdv Ao outer s H vs Q E hr h => ?_)
  · obtain ⟨A, v, d, k, rfl, _⟩ := h
    rfl
  · obtain ⟨A, v, d, k, rfl, da, fit, q⟩ := h
    have nd := scAre.nd
    refine ⟨_, pss_one (ps_ret (pe_and (pe_isi (N := "tuple") (pv 0) X.isin X.tup) (pe_and (pe_cmpR op_eq (pe_callB call_len_seq (by rfl) X.len PySem.boot_len (pa_cons (pv 0) pa_nil)) (pv 1) (nomark _))
      (pe_one (pe_callB (cr_all rfl) (by rfl) X.all (by decide +kernel) (pa_cons (pe_lc (own := [("item", 2)]) (g := gName 2) (tt := tYes) rfl nd (pi_tup (pv 0))
          (blkOk_by (N := nAre) (sc := defScope sAreIntegers) (by decide +kernel)) (fun _ _ _ _ _ => pg_name (i := 2) nd rfl (Or.inl rfl)) (fun _ _ _ _ _ => pts_nil)
          (fun _ _ _ _ _ => pe_call I.g hr rfl I.m I.kp I.b .nil pass0 (pa_cons (pv 2) pa_nil))) pa_nil)))))), ?_⟩
    rcases da.isTup (K := K) with ⟨a, xs, ds, rfl, rfl, na, e, l, i1⟩ | ⟨no, i1⟩
    · obtain ⟨l1000, fits⟩ := fit_tup fit
      have ll := l.length
      refine ⟨_, rfl, _, i1, _, rfl, iteT ⟨_, rfl, a, xs, rfl, .inr (SqT.of e), _, rfl, rfl, _, rfl, ?_⟩⟩
      by_cases hk : (ds.length : Int) = k
      · rw [← ll, hk, decide_eq_true rfl]
        refine iteT ⟨_, rfl, a, rfl, ⟨_, SqT.of e⟩, fun D hD => ?_⟩
        refine lc_bools (walk_tup (K := K) (xs := xs) (a := a)) (fun i => ∃ d, ds[i]? = some d ∧ intB d = true) hD (by omega) (fun H4 s4 => SqT.of (s4 _ _ e)) ?_ ?_
        · rintro i x H4 H' kk hi s4 ⟨rfl, hx⟩ h
          have hi' : i < ds.length := by omega
          have hd := List.getElem?_eq_getElem hi'
          exact ⟨rfl, _, rfl, A, x, ds[i], rfl, (l.at hd hx).same s4, fits _ (List.getElem_mem hi'), fun H5 s5 => h _ H5 s5 ⟨fun z => ⟨_, hd, z⟩, fun ⟨d, e1, e2⟩ => by rw [hd] at e1; cases e1; exact e2⟩⟩
        · intro H4 bs s4 e4 hb
          refine ⟨D, bs, rfl, SqL.of e4, ?_⟩
          rw [nth_all ll.symm hb]
          have : areB k (.tuple ds) = ds.all intB := by
            show (decide ((ds.length : Int) = k) && _) = _
            rw [decide_eq_true hk, Bool.true_and]
          have q := q H4 s4
          rw [this] at q
          exact q
      · rw [← ll, decide_eq_false (show V.int (ds.length : Nat) ≠ V.int k from fun e => hk (by injection e))]
        refine iteF ?_
        have : areB k (.tuple ds) = false := by
          show (decide ((ds.length : Int) = k) && _) = _
          rw [decide_eq_false hk, Bool.false_and]
        have q := q H (Same.refl _)
        rw [this] at q
        exact q
    · have : areB k d = false := by
        cases d with
        | tuple ds => exact absurd rfl (no ds)
        | _ => rfl
      rw [this] at q
      exact ⟨_, rfl, _, i1, _, rfl, iteF (q H (Same.refl _))⟩
abbrev nRows : List Str := ["value", "row"]
theorem scRows : FnScope nRows ["value"] (defScope sIsRows) := ⟨rfl, rfl, rfl, by decide +kernel, rfl, by decide +kernel, by decide +kernel⟩
theorem ok_is_rows {f : Addr} {fd : FuncData} (F : Fun K "is_rows" "is_rows" sIsRows f fd) (X : WTxt mg fI fL) (mc : ∃ u, mg "MAX_CLOCKS" = some u ∧ RelV (.int 12) u) (I : At P w K mg base 2 "are_integers" fA dA ["value", "many"] spAreD) : FnOk P w K mg base CX0 3 f fd ["value"] (spB rowsB) := by
  refine F.ok scRows (fun vs H Q E h => ?_) (fun cdv Ao outer s H vs Q E hr h => ?_)
  · obtain ⟨A, v, d, rfl, _⟩ := h
    rfl
  · obtain ⟨A, v, d, rfl, da, fit, q⟩ := h
    have nd := scRows.nd
    refine ⟨_, pss_cons (ps_if (PW.pt (pw_or (pt_not (pt_val (pe_isi (N := "tuple") (pv 0) X.isin X.tup))) (pw_or1 (pt_not (pt_chain op_le op_le pe_int (pe_callB call_len_seq (by rfl) X.len PySem.boot_len (pa_cons (pv 0) pa_nil)) (pe_op op_add (pe_gcon rfl mc) pe_int)))))) (pss_one (ps_ret pe_bl)) pss_nil)
      (pss_one (ps_ret (pe_callB (cr_all rfl) (by rfl) X.all (by decide +kernel) (pa_cons (pe_lc (own := [("row", 1)]) (g := gName 1) (tt := tYes) rfl nd (pi_tup (pv 0))
          (blkOk_by (N := nRows) (sc := defScope sIsRows) (by decide +kernel)) (fun _ _ _ _ _ => pg_name (i := 1) nd rfl (Or.inl rfl)) (fun _ _ _ _ _ => pts_nil)
          (fun _ _ _ _ _ => pe_call I.g hr rfl I.m I.kp I.b .nil pass0 (pa_cons (pv 1) (pa_cons (pe_callB (call_lenQ (K := K) rfl) (by rfl) X.len PySem.boot_len (pa_cons (pv 0) pa_nil)) pa_nil)))) pa_nil)))), ?_⟩
    rcases da.isTup (K := K) with ⟨a, xs, ds, rfl, rfl, na, e, l, i1⟩ | ⟨no, i1⟩
    · obtain ⟨l1000, fits⟩ := fit_tup fit
      have ll := l.length
      have bad : ¬ (1 ≤ ds.length ∧ ds.length ≤ 13) → ∀ H', Same H H' → Q (.bl false) H' := fun h H' s => by
        have : rowsB (.tuple ds) = false := by
          show (decide (1 ≤ ds.length) && (decide (ds.length ≤ 13) && _)) = false
          by_cases h1 : 1 ≤ ds.length
          · rw [decide_eq_false (fun h2 => h ⟨h1, h2⟩), Bool.false_and, Bool.and_false]
          · rw [decide_eq_false h1, Bool.false_and]
        have q := q H' s
        rw [this] at q
        exact q
      refine ⟨_, rfl, _, i1, _, rfl, iteF ⟨_, rfl, a, xs, rfl, .inr (SqT.of e), _, _, rfl, rfl, _, rfl, ?_⟩⟩
      refine ite2 (fun c1 => ?_) (fun c1 => ?_)
      · refine ⟨_, _, rfl, rfl, _, _, rfl, rfl, _, rfl, ?_⟩
        refine ite2 (fun c2 => ?_) (fun c2 => ?_)
        · refine bad (fun h => ?_) _ (Same.refl _)
          simp at c2
          omega
        · have c1' : (1 : Int) ≤ xs.length := of_decide_eq_true c1
          have c2' : (xs.length : Int) ≤ 12 + 1 := by simpa using c2
          refine ⟨_, rfl, a, rfl, ⟨_, SqT.of e⟩, fun D hD => ?_⟩
          refine lc_bools (walk_tup (K := K) (xs := xs) (a := a)) (fun i => ∃ d, ds[i]? = some d ∧ areB (ds.length : Nat) d = true) hD (by omega) (fun H4 s4 => SqT.of (s4 _ _ e)) ?_ ?_
          · rintro i x H4 H' kk hi s4 ⟨rfl, hx⟩ h
            have hi' : i < ds.length := by omega
            have hd := List.getElem?_eq_getElem hi'
            refine ⟨rfl, _, rfl, _, rfl, a, xs, rfl, .inr (SqT.of (s4 _ _ e)), A, x, ds[i], _, rfl, (l.at hd hx).same s4, fits _ (List.getElem_mem hi'), fun H5 s5 => ?_⟩
            rw [← ll]
            exact h _ H5 s5 ⟨fun z => ⟨_, hd, z⟩, fun ⟨d, e1, e2⟩ => by rw [hd] at e1; cases e1; exact e2⟩
          · intro H4 bs s4 e4 hb
            refine ⟨D, bs, rfl, SqL.of e4, ?_⟩
            rw [nth_all ll.symm hb]
            have : rowsB (.tuple ds) = ds.all (areB (ds.length : Nat)) := by
              show (decide (1 ≤ ds.length) && (decide (ds.length ≤ 13) && _)) = _
              rw [decide_eq_true (by omega), decide_eq_true (by omega), Bool.true_and, Bool.true_and]
            have q := q H4 s4
            rw [this] at q
            exact q
      · refine ⟨_, rfl, iteT (bad (fun h => c1 (decide_eq_true (by omega))) _ (Same.refl _))⟩
    · have : rowsB d = false := by
        cases d with
        | tuple ds => exact absurd rfl (no ds)
        | _ => rfl
      rw [this] at q
      exact ⟨_, rfl, _, i1, _, rfl, iteT (q H (Same.refl _))⟩
end
end Wd

set_option Elab.async false
set_option linter.all false
set_option maxRecDepth 100000
set_option maxHeartbeats 4000000
set_option pp.maxSteps 400
set_option pp.deepTerms false
namespace Wd
open PySem L2 TL
open SX (S)

open PySem.Spec PyProof.Rows
/-! ### rows of events -/
def evT : PyData → Int
  | .tuple (.int i :: _) => i
  | _ => 0
def ascI : List Int → Bool
  | [] => true
  | [_] => true
  | a :: b :: r => decide (a ≤ b) && ascI (b :: r)
def rowEB : PyData → Bool
  | .tuple ds => ds.all eventB && ascI (ds.map evT)
  | _ => false
theorem ascI_iff : ∀ {ts : List Int}, ascI ts = true ↔ ∀ i, i < ts.length - 1 → ∃ a b, ts[i]? = some a ∧ ts[i + 1]? = some b ∧ a ≤ b
  | [] => ⟨fun _ i h => absurd h (by simp), fun _ => rfl⟩
  | [_] => ⟨fun _ i h => absurd h (by simp), fun _ => rfl⟩
  | a :: b :: r => by
    show (decide (a ≤ b) && ascI (b :: r)) = true ↔ _
    rw [Bool.and_eq_true, decide_eq_true_eq, ascI_iff (ts := b :: r)]
    constructor
    · rintro ⟨h1, h2⟩ i hi
      cases i with
      | zero => exact ⟨a, b, rfl, rfl, h1⟩
      | succ i => exact h2 i (by simp at hi ⊢; omega)
    · intro h
      refine ⟨?_, fun i hi => h (i + 1) (by simp at hi ⊢; omega)⟩
      obtain ⟨x, y, e1, e2, l⟩ := h 0 (by simp)
      cases e1
      cases e2
      exact l
theorem event_head {A : List Addr} {H : Hp} {d : PyData} {v : V} (h : DA A H d v) (he : eventB d = true) : ∃ a t xs, v = .ref a ∧ H a = some (.tup (.int t :: xs)) ∧ xs.length = 3 ∧ evT d = t ∧ 0 ≤ t ∧ t < ten60 := by
  cases h with
  | @tup a xs ds n e l =>
    match ds, l, he with
    | [t, u, l, w], .cons ht (.cons hu (.cons hl (.cons hw .nil))), he =>
      have he : (timeB t && (nameB u && (letterB l && intB w))) = true := he
      rw [Bool.and_eq_true] at he
      cases ht with
      | int i =>
        have h1 : (decide (0 ≤ i) && decide (i < ten60)) = true := he.1
        rw [Bool.and_eq_true, decide_eq_true_eq, decide_eq_true_eq] at h1
        exact ⟨a, i, _, rfl, e, rfl, rfl, h1⟩
      | _ => cases he.1
    | [], _, he => cases he
    | [_], _, he => cases he
    | [_, _], _, he => cases he
    | [_, _, _], _, he => cases he
    | _ :: _ :: _ :: _ :: _ :: _, _, he => cases he
  | _ => cases he
section
variable {P : Program} {w : World} {K : PySem.W.Frag} {mg : Str → Option Value} {base : Heap} {fI fL fE : Addr} {dE : FuncData}
abbrev nRowE : List Str := ["value", "event", "k"]
end
end Wd

set_option Elab.async false
set_option linter.all false
set_option maxRecDepth 100000
set_option maxHeartbeats 4000000
set_option pp.maxSteps 400
set_option pp.deepTerms false
namespace Wd
open PySem L2 TL
open SX (S)

open PySem.Spec PyProof.Rows
/-! ### items and joint stands, by their form -/
def itemB : Nat → PyData → Bool
  | 0, .tuple _ => false
  | n + 1, .tuple ds => ds.all (itemB n)
  | _, .none => true
  | _, d => wordB d || intB d
theorem itemB_tup {n : Nat} {ds : List PyData} : itemB n (.tuple ds) = (decide (0 < n) && ds.all (itemB (n - 1))) := by
  cases n with
  | zero => rfl
  | succ n => show ds.all (itemB n) = (decide (0 < n + 1) && ds.all (itemB n)); rw [decide_eq_true (by omega), Bool.true_and]
theorem itemB_no {n : Nat} {d : PyData} (h : ∀ ds, d ≠ .tuple ds) (h2 : d ≠ .none) : itemB n d = (wordB d || intB d) := by
  cases d with
  | tuple ds => exact absurd rfl (h ds)
  | none => exact absurd rfl h2
  | _ => cases n <;> rfl
def spItem (n : Nat) : Sp := fun vs H Q _ => ∃ (A : List Addr) (v : V) (d : PyData) (k : Nat), k < n ∧ vs = [v, .int (k : Nat)] ∧ DA A H d v ∧ fitB 400000 d = true ∧ ∀ H', Same H H' → Q (.bl (itemB k d)) H'
section
variable {P : Program} {w : World} {K : PySem.W.Frag} {mg : Str → Option Value} {base : Heap} {fI fL fW : Addr} {dI dL dW : FuncData}
abbrev nWord : List Str := ["value", "sign"]
theorem scWord : FnScope nWord ["value"] (defScope sIsWord) := ⟨rfl, rfl, rfl, by decide +kernel, rfl, by decide +kernel, by decide +kernel⟩
theorem ok_is_word {f : Addr} {fd : FuncData} (F : Fun K "is_word" "is_word" sIsWord f fd) (X : WTxt mg fI fL) (L : At P w K mg base 1 "is_letter" fL dL ["value"] (spB letterB)) : FnOk P w K mg base CX0 2 f fd ["value"] (spB wordB) := by
  refine F.ok scWord (fun vs H Q E h => ?_) (fun cdv Ao outer s H vs Q E hr h => ?_)
  · obtain ⟨A, v, d, rfl, _⟩ := h
    rfl
  · obtain ⟨A, v, d, rfl, da, fit, q⟩ := h
    have nd := scWord.nd
    refine ⟨_, pss_one (ps_ret (pe_and (pe_isi (N := "str") (pv 0) X.isin X.str) (pe_and (pe_cmpR op_gt (pe_callB call_len_str (by rfl) X.len PySem.boot_len (pa_cons (pv 0) pa_nil)) pe_int (nomark _))
      (pe_one (pe_callB (cr_all rfl) (by rfl) X.all (by decide +kernel) (pa_cons (pe_lc (own := [("sign", 1)]) (g := gName 1) (tt := tYes) rfl nd (pi_str (pv 0))
          (blkOk_by (N := nWord) (sc := defScope sIsWord) (by decide +kernel)) (fun _ _ _ _ _ => pg_name (i := 1) nd rfl (Or.inl rfl)) (fun _ _ _ _ _ => pts_nil)
          (fun _ _ _ _ _ => pe_call L.g hr rfl L.m L.kp L.b .nil pass0 (pa_cons (pv 1) pa_nil))) pa_nil)))))), ?_⟩
    rcases da.isStr (K := K) with ⟨z, rfl, rfl, i1⟩ | ⟨no, nv, i1⟩
    · have fz : z.length ≤ 400000 ∧ PyData.strOk z = true := by
        unfold fitB at fit
        rw [Bool.and_eq_true, decide_eq_true_eq] at fit
        exact fit
      have hz1 : z.length ≤ sizeLine := Nat.le_of_lt (small4 fz.1)
      refine ⟨_, rfl, _, i1, _, rfl, iteT ⟨_, rfl, z, rfl, hz1, _, _, rfl, rfl, _, rfl, ?_⟩⟩
      have w0 : wordB (.str z) = (decide (z.cps.toList ≠ []) && z.cps.toList.all lowB) := rfl
      by_cases h0 : z.cps.toList = []
      · have l0 : z.length = 0 := by show z.cps.size = 0; rw [← Array.length_toList, h0]; rfl
        rw [decide_eq_false (show ¬ ((z.length : Nat) : Int) > 0 by omega)]
        have q := q H (Same.refl _)
        rw [w0, h0] at q
        exact iteF q
      · have l0 : 0 < z.length := by
          show 0 < z.cps.size
          rw [← Array.length_toList]
          exact List.length_pos_iff.mpr h0
        rw [decide_eq_true (show ((z.length : Nat) : Int) > 0 by omega)]
        refine iteT ⟨_, rfl, _, rfl, fun D hD => ?_⟩
        refine lc_bools (walk_str (z := z)) (fun i => ∃ c, z.cps[i]? = some c ∧ low c) hD (by show z.length ≤ 400000; exact fz.1) (fun _ _ => trivial) ?_ ?_
        · rintro i x H1 H' kk hi s1 ⟨rfl, c, hc, rfl⟩ h
          refine ⟨rfl, _, rfl, A, _, .str ⟨#[c]⟩, rfl, .str _, ?_, fun H4 s4 => h _ H4 s4 ?_⟩
          · unfold fitB
            rw [ok_sign fz.2 hc]
            rfl
          · rw [letterB_iff (A := A) (H := H') (.str _), isLet_sign]
            exact ⟨fun l => ⟨c, hc, l⟩, fun ⟨y, e, l⟩ => by rw [hc] at e; exact Option.some.inj e ▸ l⟩
        · rintro H1 bs s1 hD1 hb
          rw [cps_at, ← all_low] at hb
          refine ⟨D, bs, rfl, SqL.of hD1, ?_⟩
          have : wordB (.str z) = bs.all id := by
            rw [w0, decide_eq_true h0, Bool.true_and]
            cases h1 : bs.all id with
            | true => exact hb.mp h1
            | false =>
              cases h2 : z.cps.toList.all lowB with
              | false => rfl
              | true => exact absurd (hb.mpr h2) (by rw [h1]; decide)
          have q := q H1 s1
          rw [this] at q
          exact q
    · have : wordB d = false := by
        cases d with
        | str z => exact absurd rfl (no z)
        | _ => rfl
      rw [this] at q
      exact ⟨_, rfl, _, i1, _, rfl, iteF (q H (Same.refl _))⟩
abbrev nItem : List Str := ["value", "depth", "inner"]
theorem scItem : FnScope nItem ["value", "depth"] (defScope sIsItem) := ⟨rfl, rfl, rfl, by decide +kernel, rfl, by decide +kernel, by decide +kernel⟩
theorem ok_is_item {f : Addr} {fd : FuncData} (F : Fun K "is_item" "is_item" sIsItem f fd) (X : WTxt mg fI fL) (m : mg "is_item" = some (.ref f)) (bd : Binds K fd ["value", "depth"] []) (I : At P w K mg base 1 "is_integer" fI dI ["value"] (spB intB)) (W : At P w K mg base 2 "is_word" fW dW ["value"] (spB wordB)) :
    ∀ n, FnOk P w K mg base CX0 (n + 3) f fd ["value", "depth"] (spItem n)
  | 0 => F.ok scItem (fun vs H Q E ⟨A, v, d, k, _, h, _⟩ => by rw [h]; rfl) fun cdv Ao outer s H vs Q E hr ⟨A, v, d, k, hk, _⟩ => absurd hk (by omega)
  | n + 1 => by
    have G := ok_is_item F X m bd I W n
    refine F.ok scItem (fun vs H Q E h => ?_) (fun cdv Ao outer s H vs Q E hr h => ?_)
    · obtain ⟨A, v, d, k, _, rfl, _⟩ := h
      rfl
    · obtain ⟨A, v, d, k, hk, rfl, da, fit, q⟩ := h
      have nd := scItem.nd
      have hr1 : Room 1 _ := hr.mono (by omega)
      have hr2 : Room 2 _ := hr.mono (by omega)
      refine ⟨_, pss_cons (ps_if (pt_val (pe_isi (N := "tuple") (pv 0) X.isin X.tup)) (pss_one (ps_ret (pe_and (pe_cmpR op_gt (pv 1) pe_int (nomark _)) (pe_one (pe_callB (cr_all rfl) (by rfl) X.all (by decide +kernel) (pa_cons (pe_lc (own := [("inner", 2)]) (g := gName 2) (tt := tYes) rfl nd (pi_tup (pv 0))
            (blkOk_by (N := nItem) (sc := defScope sIsItem) (by decide +kernel)) (fun _ _ _ _ _ => pg_name (i := 2) nd rfl (Or.inl rfl)) (fun _ _ _ _ _ => pts_nil)
            (fun _ _ _ _ _ => pe_call G hr rfl m F.kp bd .nil pass0 (pa_cons (pv 2) (pa_cons (pe_op op_sub (pv 1) pe_int) pa_nil)))) pa_nil)))))) pss_nil)
        (pss_one (ps_ret (pe_or (pe_cmp (pc_isN (pv 0)) rfl) (pe_or (pe_call W.g hr2 rfl W.m W.kp W.b .nil pass0 (pa_cons (pv 0) pa_nil)) (pe_one (pe_call I.g hr1 rfl I.m I.kp I.b .nil pass0 (pa_cons (pv 0) pa_nil))))))), ?_⟩
      rcases da.isTup (K := K) with ⟨a, xs, ds, rfl, rfl, na, e, l, i1⟩ | ⟨no, i1⟩
      · obtain ⟨l1000, fits⟩ := fit_tup fit
        have ll := l.length
        refine ⟨_, rfl, _, i1, _, rfl, iteT ⟨_, rfl, _, _, rfl, rfl, _, rfl, ?_⟩⟩
        rw [itemB_tup] at q
        by_cases h0 : 0 < k
        · rw [decide_eq_true h0, Bool.true_and] at q
          rw [decide_eq_true (show (0 : Int) < (k : Nat) by omega)]
          refine iteT ⟨_, rfl, a, rfl, ⟨_, SqT.of e⟩, fun D hD => ?_⟩
          refine lc_bools (walk_tup (K := K) (xs := xs) (a := a)) (fun i => ∃ d, ds[i]? = some d ∧ itemB (k - 1) d = true) hD (by omega) (fun H4 s4 => SqT.of (s4 _ _ e)) ?_ ?_
          · rintro i x H4 H' kk hi s4 ⟨rfl, hx⟩ h
            have hi' : i < ds.length := by omega
            have hd := List.getElem?_eq_getElem hi'
            have ek : ((k : Nat) : Int) - 1 = ((k - 1 : Nat) : Int) := by omega
            exact ⟨rfl, _, rfl, _, rfl, _, _, rfl, rfl, A, x, ds[i], k - 1, by omega, congrArg (fun i => [x, V.int i]) ek, (l.at hd hx).same s4, fits _ (List.getElem_mem hi'), fun H5 s5 => h _ H5 s5 ⟨fun z => ⟨_, hd, z⟩, fun ⟨d, e1, e2⟩ => by rw [hd] at e1; cases e1; exact e2⟩⟩
          · intro H4 bs s4 e4 hb
            refine ⟨D, bs, rfl, SqL.of e4, ?_⟩
            rw [nth_all ll.symm hb]
            exact q H4 s4
        · rw [decide_eq_false h0, Bool.false_and] at q
          rw [decide_eq_false (show ¬ (0 : Int) < (k : Nat) by omega)]
          exact iteF (q H (Same.refl _))
      · refine ⟨_, rfl, _, i1, _, rfl, iteF ?_⟩
        have hn : v = .non ∨ v ≠ .non := by
          cases v with
          | non => exact .inl rfl
          | _ => exact .inr fun e => nomatch e
        rcases hn with rfl | hn
        · cases da
          refine ⟨_, rfl, ?_⟩
          refine ⟨true, congrArg V.bl (decide_eq_true rfl), iteT ?_⟩
          have e : itemB k .none = true := by cases k <;> rfl
          rw [e] at q
          exact q H (Same.refl _)
        · have dn : d ≠ .none := fun e => by
            subst e
            cases da
            exact hn rfl
          rw [itemB_no no dn] at q
          refine ⟨_, rfl, ?_⟩
          refine ⟨false, congrArg V.bl (decide_eq_false hn), iteF ⟨_, rfl, A, v, d, rfl, da, fit, fun H5 s5 => ⟨_, rfl, ?_⟩⟩⟩
          cases hw : wordB d with
          | true =>
            rw [hw] at q
            exact iteT (q H5 s5)
          | false =>
            rw [hw, Bool.false_or] at q
            exact iteF ⟨_, rfl, A, v, d, rfl, da.same s5, fit, fun H6 s6 => q H6 (s5.trans s6)⟩
end
end Wd

set_option Elab.async false
set_option linter.all false
set_option maxRecDepth 100000
set_option maxHeartbeats 4000000
set_option pp.maxSteps 400
set_option pp.deepTerms false
namespace Wd
open PySem L2 TL
open SX (S)

open PySem.Spec PyProof.Rows
/-! ### joint stands and papers, by their form -/
def intsB : PyData → Bool
  | .tuple ds => ds.all intB
  | _ => false
def standB : PyData → Bool
  | .tuple [a, b, c, r] => itemB 19 a && (itemB 19 b && (intsB c && rowsB r))
  | _ => false
def standsB : PyData → Bool
  | .tuple ds => ds.all standB
  | _ => false
def isStrB (z : Str) : PyData → Bool
  | .str y => decide (y = z)
  | _ => false
def listPB : PyData → Bool
  | .tuple [h, ss] => isStrB (Str.ofString "list") h && standsB ss
  | _ => false
def lastT : PyData → Int
  | .tuple ds => match ds.getLast? with
    | some d => evT d
    | none => 0
  | _ => 0
def countB (n : Nat) : PyData → Bool
  | .tuple ds => decide (ds.length = n)
  | _ => false
def lenD : PyData → Nat
  | .tuple ds => ds.length
  | _ => 0
def allStandsB : PyData → Bool
  | .tuple ds => ds.all standsB
  | _ => false
def lastB (t : Int) : PyData → Bool
  | .int i => intB (.int i) && decide (t ≤ i)
  | _ => false
def rowPB : PyData → Bool
  | .tuple [h, es, l, rs] => isStrB (Str.ofString "row") h && (rowEB es && (lastB (lastT es) l && (countB (lenD es) rs && allStandsB rs)))
  | _ => false
theorem four {ds : List PyData} {xs : List V} {A : List Addr} {H : Hp} (l : DAL A H ds xs) (h : ds.length = 4) : ∃ a b c d v1 v2 v3 v4, ds = [a, b, c, d] ∧ xs = [v1, v2, v3, v4] ∧ DA A H a v1 ∧ DA A H b v2 ∧ DA A H c v3 ∧ DA A H d v4 := by
  match ds, l, h with
  | [a, b, c, d], .cons ha (.cons hb (.cons hc (.cons hd .nil))), _ => exact ⟨a, b, c, d, _, _, _, _, rfl, rfl, ha, hb, hc, hd⟩
theorem two2 {ds : List PyData} {xs : List V} {A : List Addr} {H : Hp} (l : DAL A H ds xs) (h : ds.length = 2) : ∃ a b v1 v2, ds = [a, b] ∧ xs = [v1, v2] ∧ DA A H a v1 ∧ DA A H b v2 := by
  match ds, l, h with
  | [a, b], .cons ha (.cons hb .nil), _ => exact ⟨a, b, _, _, rfl, rfl, ha, hb⟩
theorem standB_four {ds : List PyData} (h : ds.length ≠ 4) : standB (.tuple ds) = false := by
  match ds, h with
  | [], _ => rfl
  | [_], _ => rfl
  | [_, _], _ => rfl
  | [_, _, _], _ => rfl
  | [_, _, _, _], h => exact absurd rfl h
  | _ :: _ :: _ :: _ :: _ :: _, _ => rfl
theorem listPB_two {ds : List PyData} (h : ds.length ≠ 2) : listPB (.tuple ds) = false := by
  match ds, h with
  | [], _ => rfl
  | [_], _ => rfl
  | [_, _], h => exact absurd rfl h
  | _ :: _ :: _ :: _, _ => rfl
theorem rowPB_four {ds : List PyData} (h : ds.length ≠ 4) : rowPB (.tuple ds) = false := by
  match ds, h with
  | [], _ => rfl
  | [_], _ => rfl
  | [_, _], _ => rfl
  | [_, _, _], _ => rfl
  | [_, _, _, _], h => exact absurd rfl h
  | _ :: _ :: _ :: _ :: _ :: _, _ => rfl
section
variable {P : Program} {w : World} {K : PySem.W.Frag} {mg : Str → Option Value} {base : Heap} {fI fL fT fR fS : Addr} {dI dT dR dS : FuncData}
abbrev nHSF : List Str := ["value", "shape", "other", "classes", "rows", "number"]
theorem scHSF : FnScope nHSF ["value"] (defScope sHasStandForm) := ⟨rfl, rfl, rfl, by decide +kernel, rfl, by decide +kernel, by decide +kernel⟩
theorem ok_has_stand {f : Addr} {fd : FuncData} (F : Fun K "has_stand_form" "has_stand_form" sHasStandForm f fd) (X : WTxt mg fI fL) (md : ∃ u, mg "MAX_DEPTH" = some u ∧ RelV (.int 20) u) (I : At P w K mg base 1 "is_integer" fI dI ["value"] (spB intB)) (T : At P w K mg base 23 "is_item" fT dT ["value", "depth"] (spItem 20)) (R : At P w K mg base 3 "is_rows" fR dR ["value"] (spB rowsB)) :
    FnOk P w K mg base CX0 24 f fd ["value"] (spB standB) := by
  refine F.ok scHSF (fun vs H Q E h => ?_) (fun cdv Ao outer s H vs Q E hr h => ?_)
  · obtain ⟨A, v, d, rfl, _⟩ := h
    rfl
  · obtain ⟨A, v, d, rfl, da, fit, q⟩ := h
    have nd := scHSF.nd
    have hr1 : Room 1 _ := hr.mono (by decide)
    have hr3 : Room 3 _ := hr.mono (by decide)
    refine ⟨_, pss_cons (ps_if (PW.pt (pw_or (pt_not (pt_val (pe_isi (N := "tuple") (pv 0) X.isin X.tup))) (pw_or1 (pt_cmpR op_ne (pe_callB call_len_seq (by rfl) X.len PySem.boot_len (pa_cons (pv 0) pa_nil)) pe_int (nomark _))))) (pss_one (ps_ret pe_bl)) pss_nil)
      (pss_cons (ps_asg (pv 0) (pg_tup rfl (pgs_cons (pg_name (i := 1) nd rfl (Or.inl rfl)) (pgs_cons (pg_name (i := 2) nd rfl (Or.inl rfl)) (pgs_cons (pg_name (i := 3) nd rfl (Or.inl rfl)) (pgs_cons (pg_name (i := 4) nd rfl (Or.inl rfl)) pgs_nil))))))
      (pss_cons (ps_if (PW.pt (pw_or (pt_not (pt_val (pe_call T.g hr rfl T.m T.kp T.b .nil pass0 (pa_cons (pv 1) (pa_cons (pe_op op_sub (pe_gcon rfl md) pe_int) pa_nil))))) (pw_or1 (pt_not (pt_val (pe_call T.g hr rfl T.m T.kp T.b .nil pass0 (pa_cons (pv 2) (pa_cons (pe_op op_sub (pe_gcon rfl md) pe_int) pa_nil))))))))
          (pss_one (ps_ret pe_bl)) pss_nil)
      (pss_one (ps_ret (pe_and (pe_isi (N := "tuple") (pv 3) X.isin X.tup) (pe_and (pe_callB (cr_all rfl) (by rfl) X.all (by decide +kernel) (pa_cons (pe_lc (own := [("number", 5)]) (g := gName 5) (tt := tYes) rfl nd (pi_tup (pv 3))
          (blkOk_by (N := nHSF) (sc := defScope sHasStandForm) (by decide +kernel)) (fun _ _ _ _ _ => pg_name (i := 5) nd rfl (Or.inl rfl)) (fun _ _ _ _ _ => pts_nil)
          (fun _ _ _ _ _ => pe_call I.g hr1 rfl I.m I.kp I.b .nil pass0 (pa_cons (pv 5) pa_nil))) pa_nil)) (pe_one (pe_call R.g hr3 rfl R.m R.kp R.b .nil pass0 (pa_cons (pv 4) pa_nil))))))))), ?_⟩
    rcases da.isTup (K := K) with ⟨a, xs, ds, rfl, rfl, na, e, l, i1⟩ | ⟨no, i1⟩
    · obtain ⟨l1000, fits⟩ := fit_tup fit
      have ll := l.length
      refine ⟨_, rfl, _, i1, _, rfl, iteF ⟨_, rfl, a, xs, rfl, .inr (SqT.of e), rfl, _, rfl, ?_⟩⟩
      by_cases h4 : ds.length = 4
      · obtain ⟨d1, d2, d3, d4, v1, v2, v3, v4, rfl, rfl, a1, a2, a3, a4⟩ := four l h4
        have f1 := fits d1 (by simp)
        have f2 := fits d2 (by simp)
        have f3 := fits d3 (by simp)
        have f4 := fits d4 (by simp)
        have q : ∀ H', Same H H' → Q (.bl (itemB 19 d1 && (itemB 19 d2 && (intsB d3 && rowsB d4)))) H' := q
        refine iteF ⟨_, rfl, a, _, rfl, SqT.of e, rfl, _, _, rfl, _, _, rfl, _, _, rfl, _, _, rfl, rfl, ?_⟩
        refine ⟨_, rfl, _, _, rfl, rfl, A, v1, d1, 19, by decide, rfl, a1, f1, fun H1 s1 => ⟨_, rfl, ?_⟩⟩
        cases h1 : itemB 19 d1 with
        | false =>
          rw [h1, Bool.false_and] at q
          exact iteT (q H1 s1)
        | true =>
          rw [h1, Bool.true_and] at q
          refine iteF ⟨_, rfl, _, _, rfl, rfl, A, v2, d2, 19, by decide, rfl, a2.same s1, f2, fun H2 s2 => ⟨_, rfl, ?_⟩⟩
          have s2 := s1.trans s2
          cases h2 : itemB 19 d2 with
          | false =>
            rw [h2, Bool.false_and] at q
            exact iteT (q H2 s2)
          | true =>
            rw [h2, Bool.true_and] at q
            refine iteF ?_
            rcases (a3.same s2).isTup (K := K) with ⟨a', xs', ds', rfl, rfl, na', e', l', i2⟩ | ⟨no, i2⟩
            · obtain ⟨l1000', fits'⟩ := fit_tup f3
              have ll' := l'.length
              refine ⟨_, rfl, _, i2, _, rfl, iteT ⟨_, rfl, a', rfl, ⟨_, SqT.of e'⟩, fun D hD => ?_⟩⟩
              refine lc_bools (walk_tup (K := K) (xs := xs') (a := a')) (fun i => ∃ d, ds'[i]? = some d ∧ intB d = true) hD (by omega) (fun H4 s4 => SqT.of (s4 _ _ e')) ?_ ?_
              · rintro i x H4 H' kk hi s4 ⟨rfl, hx⟩ h
                have hi' : i < ds'.length := by omega
                have hd := List.getElem?_eq_getElem hi'
                exact ⟨rfl, _, rfl, A, x, ds'[i], rfl, (l'.at hd hx).same s4, fits' _ (List.getElem_mem hi'), fun H5 s5 => h _ H5 s5 ⟨fun z => ⟨_, hd, z⟩, fun ⟨d, e1, e2⟩ => by rw [hd] at e1; cases e1; exact e2⟩⟩
              · intro H4 bs s4 e4 hb
                refine ⟨D, bs, rfl, SqL.of e4, ?_⟩
                rw [nth_all ll'.symm hb]
                have q : ∀ H', Same H H' → Q (.bl (ds'.all intB && rowsB d4)) H' := q
                refine ⟨_, rfl, ?_⟩
                cases h3 : ds'.all intB with
                | false =>
                  rw [h3, Bool.false_and] at q
                  exact iteF (q H4 (s2.trans s4))
                | true =>
                  rw [h3, Bool.true_and] at q
                  exact iteT ⟨_, rfl, A, v4, d4, rfl, a4.same (s2.trans s4), f4, fun H5 s5 => q H5 ((s2.trans s4).trans s5)⟩
            · have : intsB d3 = false := by
                cases d3 with
                | tuple ds => exact absurd rfl (no ds)
                | _ => rfl
              rw [this, Bool.false_and] at q
              exact ⟨_, rfl, _, i2, _, rfl, iteF (q H2 s2)⟩
      · rw [standB_four h4] at q
        rw [← ll, decide_eq_false (show V.int (ds.length : Nat) ≠ V.int 4 from fun e => h4 (by injection e with e; omega))]
        exact iteT (q H (Same.refl _))
    · have : standB d = false := by
        cases d with
        | tuple ds => exact absurd rfl (no ds)
        | _ => rfl
      rw [this] at q
      exact ⟨_, rfl, _, i1, _, rfl, iteT (q H (Same.refl _))⟩
end
end Wd

set_option Elab.async false
set_option linter.all false
set_option maxRecDepth 100000
set_option maxHeartbeats 4000000
/-! data != a text -/
namespace Wd
open PySem PySem.Spec PyProof.Rows L2
open AutoSeq1 (wpAny_loadPart')
theorem dict_ne_declines_str (l : Addr) (es : Array DictEntry) (n : Nat) (dd : Option Addr) (sl : Array (Option Value)) (b : Str) (u : Tok) :
    Meets (Builtin.«dict.__ne__» ⟨[.ref l, .str b u], []⟩) (fun _ R s => s.heap.get? l = some { cls := .type "dict", dict := dd, data := .dict es n, slots := sl } ∧ R (.ok (.ret .notImplemented)) s) :=
  .of_wp fun prog w A R s h => by
    obtain ⟨hp, g, d, tk, os⟩ := s
    obtain ⟨hl, h⟩ := h
    have f1 := PySem.F.sub_str_dict
    wp_walk using wpAny_loadPart' hl
    exact ⟨_, rfl, h⟩
theorem str_ne_declines_dict (b : Str) (u : Tok) (l : Addr) (c : Value) (es : Array DictEntry) (n : Nat) (dd : Option Addr) (sl : Array (Option Value)) :
    Meets (Builtin.«str.__ne__» ⟨[.str b u, .ref l], []⟩) (fun _ R s => s.heap.get? l = some { cls := c, dict := dd, data := .dict es n, slots := sl } ∧ R (.ok (.ret .notImplemented)) s) :=
  .of_wp fun prog w A R s h => by
    obtain ⟨hp, g, d, tk, os⟩ := s
    obtain ⟨hl, h⟩ := h
    wp_walk using wpAny_loadPart' hl, wpAny_load hl
    exact ⟨_, rfl, h⟩
section
variable {A : Around} {s : Shared}
theorem rcNe_dict_str {l : Addr} {o : Obj} {es : Array DictEntry} {n : Nat} (b : Str) (u : Tok) (ho : s.heap.get? l = some o) (hc : o.cls = .type "dict") (hd : o.data = .dict es n) (hu : A.units < cLine) : SeqAt.RcNeAt A s (.ref l) (.str b u) true := fun prog w E Q h => by
  obtain ⟨cls, dd, data, sl⟩ := o
  simp only at hc hd
  subst hc
  subst hd
  exact SeqAt.rc_ne_decline_or (k := false) ⟨_, ho, rfl⟩ (typeIs_str s b u) (by decide) PySem.F.sub_str_dict PySem.F.slot_dict_ne PySem.F.slot_str_ne_refl
    (fun _ hq => call_meets PySem.F.slot_dict_ne ⟨_, ho, rfl⟩ PySem.F.entry_dict_ne (PySem.F.args_dict_ne_2 _ _) (dict_ne_declines_str l es n dd sl b u) ⟨ho, hq⟩)
    (fun _ hq => call_meets PySem.F.slot_str_ne_refl (typeIs_str s b u) PySem.F.entry_str_ne (PySem.F.args_str_ne_2 _ _) (str_ne_declines_dict b u l (.type "dict") es n dd sl) ⟨ho, hq⟩)
    (fun _ hq => wpAny_of_eq (rfl : isSame (.ref l) (.str b u) = pure false) hq) (.inr hu) h
end
def rNeS : R2 := fun x y H Q => ∃ (A : List Addr) (d : PyData) (z : Str), DA A H d x ∧ y = .str z ∧ Q (.bl (!isStrB z d)) H
theorem op_neS {X : Cx} (hu : X.A.units < cLine) : OpR X (compareOp .NotEq) rNeS := by
  intro pins s σ H x y v u Q I rx ry h
  obtain ⟨A, d, z, da, rfl, q⟩ := h
  cases da with
  | non => exact op_ne pins s σ H _ _ v u Q I rx ry ⟨rfl, q⟩
  | bl b => exact op_ne pins s σ H _ _ v u Q I rx ry ⟨rfl, by rw [decide_eq_false (fun e => nomatch e)]; exact q⟩
  | int b => exact op_ne pins s σ H _ _ v u Q I rx ry ⟨rfl, by rw [decide_eq_false (fun e => nomatch e)]; exact q⟩
  | str b =>
    refine op_ne pins s σ H _ _ v u Q I rx ry ⟨rfl, ?_⟩
    have : decide (V.str b = V.str z) = isStrB z (.str b) := by
      show _ = decide (b = z)
      by_cases e : b = z
      · rw [decide_eq_true e, decide_eq_true (by rw [e])]
      · rw [decide_eq_false e, decide_eq_false (fun h => e (by injection h))]
    rw [this]
    exact q
  | tup ne e l =>
    cases rx
    obtain ⟨t, rfl⟩ := ry
    obtain ⟨its, r, ob, _⟩ := I.tuple (SqT.of e)
    exact SeqAt.RcNeAt.tuple_str (items := its.toArray) z t ob hu X.prog X.w X.xe (EP X pins σ Q) ⟨.bl true, H, I, rfl, q⟩
  | lst ne e l =>
    cases rx
    obtain ⟨t, rfl⟩ := ry
    obtain ⟨its, r, pl, _⟩ := I.list (SqL.of e)
    exact SeqAt.RcNeAt.list_str (items := its.toArray) z t pl.isList hu X.prog X.w X.xe (EP X pins σ Q) ⟨.bl true, H, I, rfl, q⟩
  | dic ne e =>
    cases rx
    obtain ⟨t, rfl⟩ := ry
    obtain ⟨_, _, vs, _, o, es, ep, h1, h2, h3, _⟩ := (show ObjOk X.prog X.w H s.heap _ (.dK _) from I.hok _ _ e)
    exact rcNe_dict_str z t h1 h2.1 h3 hu X.prog X.w X.xe (EP X pins σ Q) ⟨.bl true, H, I, rfl, q⟩
end Wd

set_option Elab.async false
set_option linter.all false
set_option maxRecDepth 100000
set_option maxHeartbeats 4000000
set_option pp.maxSteps 400
set_option pp.deepTerms false
namespace Wd
open PySem L2 TL
open SX (S)

open PySem.Spec PyProof.Rows
/-! ### papers, by their form -/
section
variable {P : Program} {w : World} {K : PySem.W.Frag} {mg : Str → Option Value} {base : Heap} {fI fL fT fR fS : Addr} {dI dL dT dR dS : FuncData}
abbrev nHav : List Str := ["value", "stand"]
/-- value[0] != a text, of data -/
theorem ne_str {A : List Addr} {H : Hp} {d : PyData} {v : V} (h : DA A H d v) (z : Str) (hs : scal v (.str z) = true) : (!decide (v = .str z)) = !isStrB z d := by
  cases h with
  | str y =>
    show _ = !decide (y = z)
    by_cases e : y = z
    · rw [decide_eq_true e, decide_eq_true (by rw [e])]
    · rw [decide_eq_false e, decide_eq_false (fun h => e (by injection h))]
  | non => rfl
  | bl b => rfl
  | int i => rfl
  | _ => cases hs
def rIxQ (K : PySem.W.Frag) : R2 := fun x y H Q => rIxT K x y H Q ∨ rIxL K x y H Q
theorem ix_seq {X : Cx} {K : PySem.W.Frag} (h : X.K = K) : IxR X (rIxQ K) := by
  subst h
  exact ix_tup.or ix_list
theorem sc_Lat : FnScope ["events"] ["events"] (defScope sLatestTime) := ⟨rfl, rfl, rfl, by decide +kernel, rfl, by decide +kernel, by decide +kernel⟩
theorem atI_neg1 {α : Type} {xs : List α} (h : xs.length - 1 < xs.length) : atI xs (-1) = some xs[xs.length - 1] := by
  have ne : xs ≠ [] := fun e => by subst e; simp at h
  have e := List.dropLast_concat_getLast ne
  have := atI_last xs.dropLast (xs.getLast ne)
  rw [e] at this
  rw [this, List.getLast_eq_getElem]
def spLat : Sp := fun vs H Q _ => ∃ (A : List Addr) (a : Addr) (xs : List V) (ds : List PyData), vs = [.ref a] ∧ (H a = some (.tup xs) ∨ H a = some (.lst xs)) ∧ DAL A H ds xs ∧ ds.all eventB = true ∧ ∀ H', Same H H' → Q (.int (lastT (.tuple ds))) H'
theorem ok_latest {f : Addr} {fd : FuncData} (F : Fun K "latest_time" "latest_time" sLatestTime f fd) (X : WTxt mg fI fL) : FnOk P w K mg base CX0 1 f fd ["events"] spLat := by
  refine F.ok sc_Lat (fun vs H Q E h => ?_) (fun cdv Ao outer s H vs Q E hr h => ?_)
  · obtain ⟨A, a, xs, ds, rfl, _⟩ := h
    rfl
  · obtain ⟨A, a, xs, ds, rfl, ea, l, ev, q⟩ := h
    have nd := sc_Lat.nd
    refine ⟨_, pss_one (ps_ret (pe_ifExp (pt_cmpR op_gt (pe_callB call_len_seq (by rfl) X.len PySem.boot_len (pa_cons (pv 0) pa_nil)) pe_int (nomark _)) (pe_ix (r := rIxT K) ix_tup (pe_ix (r := rIxQ K) (ix_seq rfl) (pv 0) (pe_un un_neg pe_int) (fun _ _ => rfl)) pe_int (fun _ _ => rfl)) pe_int)), ?_⟩
    have ll := l.length
    have sq : SqL K H a xs ∨ SqT K H a xs := ea.elim (fun h => .inr (SqT.of h)) fun h => .inl (SqL.of h)
    refine ⟨_, rfl, a, xs, rfl, sq, _, _, rfl, rfl, _, rfl, ?_⟩
    by_cases h0 : ds = []
    · subst h0
      cases l
      exact iteF (q H (Same.refl _))
    · have lp : 0 < ds.length := List.length_pos_iff.mpr h0
      rw [decide_eq_true (show (0 : Int) < (xs.length : Nat) by omega)]
      have hi : ds.length - 1 < ds.length := by omega
      have hx : xs.length - 1 < xs.length := by omega
      have ed : ds.getLast? = some ds[ds.length - 1] := by rw [List.getLast?_eq_getElem?, List.getElem?_eq_getElem hi]
      obtain ⟨a1, t1, ys1, v1, b1, l1, z1, _, _⟩ := event_head (l.at (List.getElem?_eq_getElem hi) (v := xs[xs.length - 1]) (by rw [ll]; exact List.getElem?_eq_getElem hx)) (List.all_eq_true.mp ev _ (List.getElem_mem hi))
      have at1 : atI xs (-1) = some (.ref a1) := by
        rw [← v1]
        exact atI_neg1 hx
      have q := q H (Same.refl _)
      rw [show lastT (.tuple ds) = t1 from by show (match ds.getLast? with | some d => evT d | none => 0) = _; rw [ed, ← z1]] at q
      refine iteT ⟨_, rfl, _, rfl, ?_⟩
      rcases ea with ea | ea
      · exact .inl ⟨a, xs, -1, .ref a1, rfl, rfl, SqT.of ea, at1, a1, _, 0, .int t1, rfl, rfl, SqT.of b1, atI_nat (j := 0) rfl, q⟩
      · exact .inr ⟨a, xs, -1, .ref a1, rfl, rfl, SqL.of ea, at1, a1, _, 0, .int t1, rfl, rfl, SqT.of b1, atI_nat (j := 0) rfl, q⟩
abbrev nHRF : List Str := ["value", "_", "events", "last", "rounds", "stands"]
end
end Wd

set_option Elab.async false
set_option linter.all false
set_option maxRecDepth 100000
set_option maxHeartbeats 4000000
set_option pp.maxSteps 400
set_option pp.deepTerms false
/-! words as values, comprehensions of texts: what k08's and k09's texts say of any law, in one text -/
namespace Wd
open PySem L2 TL
open SX (S)
def TK (H H' : Hp) : Prop := ∀ a xs, H a = some (.tup xs) → H' a = some (.tup xs)
theorem TK.refl (H : Hp) : TK H H := fun _ _ h => h
theorem TK.trans {H H1 H2 : Hp} (a : TK H H1) (b : TK H1 H2) : TK H H2 := fun c xs h => b c xs (a c xs h)
theorem TK.of {H H' : Hp} (s : Same H H') : TK H H' := fun a xs h => s _ _ h
theorem TK.lst {H : Hp} {l : Addr} {xs ys : List V} (h : H l = some (.lst xs)) : TK H (upd H l (.lst ys)) := fun a zs e => by
  rw [upd_ne (fun z => by rw [z, h] at e; cases e)]
  exact e
def wV (ws : List (List Nat)) : List V := ws.map fun w => V.str (S w)
theorem wV_len (ws : List (List Nat)) : (wV ws).length = ws.length := List.length_map _
theorem wV_get {ws : List (List Nat)} {i : Nat} (h : i < ws.length) : (wV ws)[i]? = some (.str (S ws[i])) := by
  unfold wV
  rw [List.getElem?_map, List.getElem?_eq_getElem h]
  rfl
theorem wV_eq (ws : List (List Nat)) : wV ws = (ws.map S).map V.str := by
  unfold wV
  rw [List.map_map]
  rfl
theorem V_S {a b : List Nat} : (V.str (S a) = V.str (S b)) ↔ a = b := ⟨fun q => by injection q with q; exact SX.S_inj q, fun q => by rw [q]⟩
theorem same_new {H : Hp} {a : Addr} {o : HO} (h : H a = none) : Same H (upd H a o) := fun b u e => by
  rw [upd_ne (ne_of_none e h)]
  exact e
theorem lc_keepW {J : It} {n : Nat} {G : Hp → Prop} {Y : Nat → Hp → V → Hp → Prop} (w : Walk J n G Y) (R : Nat → Hp → V → Prop) (hR : ∀ i H H' y, TK H H' → R i H y → R i H' y) {g : TG} {te : TE} {vs : List Nat} {σ : L2.St} {H1 : Hp} {D : Addr} {Qd : Hp → Prop}
    (hD : H1 D = none) (hn : n ≤ 400000) (hG : ∀ H, Same H1 H → G H)
    (hs : ∀ i x H H' (kT : VK), i < n → Same H1 H → Y i H x H' → (∀ y H4, Same H H4 → R i H4 y → kT y H4) → g x (wipe σ vs) H' fun σ2 H2 => wipe σ2 vs = wipe σ vs ∧ te σ2 H2 kT)
    (hd : ∀ H ys, Same H1 H → H D = some (.lst ys) → ys.length = n → (∀ (i : Nat) y, ys[i]? = some y → R i H y) → Qd H) :
    ∃ W : Nat → Nat → Hp → Prop, (∃ m, W 0 m (upd H1 D (.lst []))) ∧ ∀ i m H, W i m H →
      (J.stop i H ∧ Qd H) ∨ (J.go i H ∧ ∃ Nx : Hp → Prop, (∀ H', Nx H' → ∃ m', m' < m ∧ W (i + 1) m' H') ∧ ∀ x H', J.yld i H x H' → g x (wipe σ vs) H' fun σ2 H2 => wipe σ2 vs = wipe σ vs ∧ tYes σ2 H2 fun b H3 =>
        if b = true then te σ2 H3 fun y H4 => ∃ acc, H4 D = some (.lst acc) ∧ acc.length < sizeLine ∧ Nx (upd H4 D (.lst (acc ++ [y]))) else Nx H3) := by
  have past : ∀ {H : Hp} {o : HO}, Same H1 H → Same H1 (upd H D o) := fun s b u e => by
    rw [upd_ne (ne_of_none e hD)]
    exact s _ _ e
  refine lc_it w (fun i H => Same H1 H ∧ ∃ ys, H D = some (.lst ys) ∧ ys.length = i ∧ ∀ (j : Nat) y, ys[j]? = some y → R j H y) ⟨past (Same.refl _), [], upd_same, rfl, fun j y e => by simp at e⟩ (fun i H _ ⟨s, _⟩ => hG H s) ?_
    (fun H ⟨s, ys, d, l, p⟩ => hd H ys s d l p)
  rintro i x H H' hi ⟨s, ys, d, l, p⟩ y
  refine hs i x H H' _ hi s y fun z H4 s4 r => ⟨ys, s4 _ _ d, small4 (by omega), past (s.trans s4), ys ++ [z], upd_same, by simp; omega, fun j u e => ?_⟩
  have kp : TK H4 (upd H4 D (.lst (ys ++ [z]))) := TK.lst (s4 _ _ d)
  by_cases hj : j < ys.length
  · rw [List.getElem?_append_left hj] at e
    exact hR j _ _ u ((TK.of s4).trans kp) (p j u e)
  · rw [List.getElem?_append_right (by omega)] at e
    have hj0 : j - ys.length = 0 := by
      have := (List.getElem?_eq_some_iff.mp e).1
      simp at this
      omega
    rw [hj0] at e
    simp at e
    subst e
    obtain rfl : j = i := by omega
    exact hR j _ _ z kp r

theorem lc_texts {J : It} {n : Nat} {G : Hp → Prop} {Y : Nat → Hp → V → Hp → Prop} (w : Walk J n G Y) (ws : List (List Nat)) (hw : ws.length = n) {g : TG} {te : TE} {vs : List Nat} {σ : L2.St} {H1 : Hp} {D : Addr} {Qd : Hp → Prop}
    (hD : H1 D = none) (hn : n ≤ 400000) (hG : ∀ H, Same H1 H → G H)
    (hs : ∀ i x H H' (kT : VK) (hi : i < ws.length), Same H1 H → Y i H x H' → (∀ H4, Same H H4 → kT (.str (S ws[i])) H4) → g x (wipe σ vs) H' fun σ2 H2 => wipe σ2 vs = wipe σ vs ∧ te σ2 H2 kT)
    (hd : ∀ H, Same H1 H → H D = some (.lst (wV ws)) → Qd H) :
    ∃ W : Nat → Nat → Hp → Prop, (∃ m, W 0 m (upd H1 D (.lst []))) ∧ ∀ i m H, W i m H →
      (J.stop i H ∧ Qd H) ∨ (J.go i H ∧ ∃ Nx : Hp → Prop, (∀ H', Nx H' → ∃ m', m' < m ∧ W (i + 1) m' H') ∧ ∀ x H', J.yld i H x H' → g x (wipe σ vs) H' fun σ2 H2 => wipe σ2 vs = wipe σ vs ∧ tYes σ2 H2 fun b H3 =>
        if b = true then te σ2 H3 fun y H4 => ∃ acc, H4 D = some (.lst acc) ∧ acc.length < sizeLine ∧ Nx (upd H4 D (.lst (acc ++ [y]))) else Nx H3) :=
  lc_keepW w (fun i _ y => (wV ws)[i]? = some y) (fun _ _ _ _ _ h => h) hD hn hG (fun i x H H' kT hi s y h => hs i x H H' kT (by omega) s y fun H4 s4 => h _ H4 s4 (wV_get (by omega)))
    fun H ys s d l r => hd H s (by
      rw [d]
      congr 2
      refine List.ext_getElem? fun k => ?_
      by_cases hk : k < ys.length
      · rw [List.getElem?_eq_getElem hk]
        exact (r k _ (List.getElem?_eq_getElem hk)).symm
      · rw [List.getElem?_eq_none (by omega), List.getElem?_eq_none (by rw [wV_len]; omega)])
theorem log_small {n : Nat} (h : n < 2 ^ 1900) : (n : Int).natAbs.log2 < 1920 := by
  have e : (n : Int).natAbs = n := Int.natAbs_natCast n
  rw [e]
  by_cases h0 : n = 0
  · subst h0
    decide
  · have := (Nat.log2_lt h0).mpr h
    omega
theorem join_len {s : Nat} : ∀ {xs : List (List Nat)}, (joinL [s] xs).length ≤ (xs.map (·.length)).sum + xs.length
  | [] => Nat.le_refl _
  | [x] => by
    show x.length ≤ x.length + 0 + 1
    omega
  | x :: y :: r => by
    have h := join_len (s := s) (xs := y :: r)
    show (x ++ ([s] ++ joinL [s] (y :: r))).length ≤ _
    have e : (x :: y :: r).length = (y :: r).length + 1 := rfl
    rw [List.length_append, List.length_append, List.map_cons, List.sum_cons, e]
    show _ + (1 + _) ≤ _
    omega
theorem sum_le {xs : List (List Nat)} {m : Nat} (h : ∀ x ∈ xs, x.length ≤ m) : (xs.map (·.length)).sum ≤ xs.length * m := by
  induction xs with
  | nil => simp
  | cons x xs ih =>
    have := ih fun y hy => h y (by simp [hy])
    have h1 := h x (by simp)
    rw [List.map_cons, List.sum_cons, List.length_cons, Nat.add_mul]
    omega
theorem join_mem (c : Nat) : ∀ P : List (List Nat), ∀ y ∈ P, ∀ d ∈ y, d ∈ joinL [c] P := by
  intro P
  induction P with
  | nil => intro y hy; nomatch hy
  | cons p P ih =>
    intro y hy d hd
    cases P with
    | nil =>
      rw [List.mem_singleton.mp hy] at hd
      exact hd
    | cons q P =>
      show d ∈ p ++ ([c] ++ joinL [c] (q :: P))
      rcases List.mem_cons.mp hy with rfl | hy
      · exact List.mem_append_left _ hd
      · exact List.mem_append_right _ (List.mem_append_right _ (ih y hy d hd))
theorem cut_take (ws : List (List Nat)) (k : Nat) : cutV (wV ws) none (some (k : Int)) = wV (ws.take k) := by
  unfold cutV wV
  rw [HT.sIx_none, HT.sIx_nat, List.drop_zero, Nat.sub_zero, ← List.map_take, List.length_map]
  congr 1
  by_cases h : k ≤ ws.length
  · rw [Nat.min_eq_left h]
  · rw [Nat.min_eq_right (by omega), List.take_of_length_le (Nat.le_refl _), List.take_of_length_le (by omega)]
theorem cut_drop (ws : List (List Nat)) (k : Nat) : cutV (wV ws) (some (k : Int)) none = wV (ws.drop k) := by
  unfold cutV
  rw [HT.sIx_none, HT.sIx_nat, wV_len]
  have e : (wV ws).drop (min k ws.length) = wV (ws.drop k) := by
    unfold wV
    rw [← List.map_drop]
    congr 1
    by_cases h : k ≤ ws.length
    · rw [Nat.min_eq_left h]
    · rw [Nat.min_eq_right (by omega), List.drop_of_length_le (Nat.le_refl _), List.drop_of_length_le (by omega)]
  rw [e, List.take_of_length_le]
  rw [wV_len, List.length_drop]
  omega
theorem cut_mid (ws : List (List Nat)) (k j : Nat) : cutV (wV ws) (some (k : Int)) (some ((k + j : Nat) : Int)) = wV ((ws.drop k).take j) := by
  unfold cutV
  rw [HT.sIx_nat, HT.sIx_nat, wV_len]
  have e : (wV ws).drop (min k ws.length) = wV (ws.drop k) := by
    unfold wV
    rw [← List.map_drop]
    congr 1
    by_cases h : k ≤ ws.length
    · rw [Nat.min_eq_left h]
    · rw [Nat.min_eq_right (by omega), List.drop_of_length_le (Nat.le_refl _), List.drop_of_length_le (by omega)]
  rw [e]
  unfold wV
  rw [← List.map_take]
  congr 1
  have lD : (ws.drop k).length = ws.length - k := List.length_drop
  by_cases h : k + j ≤ ws.length
  · rw [Nat.min_eq_left h, Nat.min_eq_left (by omega), Nat.add_sub_cancel_left]
  · by_cases h2 : k ≤ ws.length
    · rw [Nat.min_eq_right (by omega), Nat.min_eq_left h2, List.take_of_length_le (by omega), List.take_of_length_le (by omega)]
    · rw [List.drop_of_length_le (by omega), List.take_nil, List.take_nil]
theorem wV_app (a b : List (List Nat)) : wV a ++ wV b = wV (a ++ b) := by
  unfold wV
  rw [List.map_append]
theorem iNe {i j : Int} (h : i ≠ j) : decide (V.int i = V.int j) = false := decide_eq_false fun e => h (by injection e)
theorem iEq {i j : Int} (h : i = j) : decide (V.int i = V.int j) = true := decide_eq_true (by rw [h])
end Wd

set_option Elab.async false
set_option linter.all false
set_option maxRecDepth 100000
set_option maxHeartbeats 4000000
set_option pp.maxSteps 400
set_option pp.deepTerms false
namespace Wd
open PySem L2 TL
open SX (S)

open PySem.Spec PyProof.Rows
/-! ### texts of items -/
def intL (i : Int) : List Nat := tl (Str.ofString (toString i))
mutual
def itemT : PyData → List Nat
  | .none => [45]
  | .tuple ds => 40 :: (joinL [32] (itemTs ds) ++ [41])
  | .str z => tl z
  | .int i => intL i
  | .bool _ => []
  | .list _ => []
  | .dict _ => []
def itemTs : List PyData → List (List Nat)
  | [] => []
  | d :: ds => itemT d :: itemTs ds
end
theorem itemTs_map : ∀ ds : List PyData, itemTs ds = ds.map itemT
  | [] => rfl
  | d :: ds => by
    show itemT d :: itemTs ds = _
    rw [itemTs_map ds]
    rfl
theorem itemT_tup (ds : List PyData) : itemT (.tuple ds) = 40 :: (joinL [32] (ds.map itemT) ++ [41]) := by
  show 40 :: (joinL [32] (itemTs ds) ++ [41]) = _
  rw [itemTs_map]
theorem join_ge {s : Nat} : ∀ {xs : List (List Nat)}, ∀ x ∈ xs, x.length ≤ (joinL [s] xs).length
  | [], x, h => nomatch h
  | [y], x, h => by rw [List.mem_singleton.mp h]; exact Nat.le_refl _
  | y :: z :: r, x, h => by
    show x.length ≤ (y ++ ([s] ++ joinL [s] (z :: r))).length
    rw [List.length_append, List.length_append]
    rcases List.mem_cons.mp h with rfl | h
    · omega
    · have := join_ge (s := s) x h
      omega
theorem join_sum {s : Nat} : ∀ {xs : List (List Nat)}, (xs.map (·.length)).sum + xs.length ≤ (joinL [s] xs).length + 1
  | [] => Nat.zero_le _
  | [y] => by show y.length + 0 + 1 ≤ y.length + 1; omega
  | y :: z :: r => by
    have := join_sum (s := s) (xs := z :: r)
    show y.length + ((z :: r).map (·.length)).sum + ((z :: r).length + 1) ≤ (y ++ ([s] ++ joinL [s] (z :: r))).length + 1
    rw [List.length_append, List.length_append, List.length_singleton]
    omega
theorem int_small {i : Int} (h1 : -ten60 < i) (h2 : i < ten60) : i.natAbs.log2 < 1920 := by
  have : i.natAbs < 2 ^ 1900 := by
    have e : (ten60 : Int) = ((10 ^ 60 : Nat) : Int) := by decide +kernel
    have l : (10 : Nat) ^ 60 < 2 ^ 1900 := by decide +kernel
    omega
  have z := log_small this
  rw [Int.natAbs_natCast] at z
  exact z
def spIText (n : Nat) : Sp := fun vs H Q _ => ∃ (A : List Addr) (v : V) (d : PyData) (k : Nat), k < n ∧ vs = [v] ∧ DA A H d v ∧ fitB 400000 d = true ∧ itemB k d = true ∧ (itemT d).length ≤ 1000000 ∧ ∀ H', Same H H' → Q (.str (S (itemT d))) H'
structure MTxt (mg : Str → Option Value) : Prop where
  em : ∃ u, mg "EMPTY" = some u ∧ RelV (.str (Str.ofString "-")) u
  str : mg "str" = none
section
variable {P : Program} {w : World} {K : PySem.W.Frag} {mg : Str → Option Value} {base : Heap} {fI fL : Addr}
abbrev nIT : List Str := ["value", "inner"]
theorem scIT : FnScope nIT ["value"] (defScope sItemText) := ⟨rfl, rfl, rfl, by decide +kernel, rfl, by decide +kernel, by decide +kernel⟩
theorem ok_item_text {f : Addr} {fd : FuncData} (F : Fun K "item_text" "item_text" sItemText f fd) (Y : WTxt mg fI fL) (X : MTxt mg) (m : mg "item_text" = some (.ref f)) (bd : Binds K fd ["value"] []) : ∀ n, FnOk P w K mg base CX0 (n + 1) f fd ["value"] (spIText n)
  | 0 => F.ok scIT (fun vs H Q E ⟨A, v, d, k, _, h, _⟩ => by rw [h]; rfl) fun cdv Ao outer s H vs Q E hr ⟨A, v, d, k, hk, _⟩ => absurd hk (by omega)
  | n + 1 => by
    have G := ok_item_text F Y X m bd n
    refine F.ok scIT (fun vs H Q E h => ?_) (fun cdv Ao outer s H vs Q E hr h => ?_)
    · obtain ⟨A, v, d, k, _, rfl, _⟩ := h
      rfl
    · obtain ⟨A, v, d, k, hk, rfl, da, fit, ib, lt, q⟩ := h
      have nd := scIT.nd
      refine ⟨_, pss_cons (ps_if (pt_cmp (pc_isN (pv 0)) rfl) (pss_one (ps_ret (pe_gcon rfl X.em))) pss_nil)
      (pss_cons (ps_if (pt_val (pe_isi (N := "tuple") (pv 0) Y.isin Y.tup)) (pss_one (ps_ret (pe_op op_add_str (pe_op op_add_str pe_str (pe_join pe_str (pe_lc (own := [("inner", 1)]) (g := gName 1) (tt := tYes) rfl nd (pi_tup (pv 0)) (blkOk_by (N := nIT) (sc := defScope sItemText) (by decide +kernel)) (fun _ _ _ _ _ => pg_name (i := 1) nd rfl (Or.inl rfl)) (fun _ _ _ _ _ => pts_nil) (fun _ _ _ _ _ => (pe_call G hr rfl m F.kp bd .nil pass0 (pa_cons (pv 1) pa_nil)))))) pe_str))) pss_nil)
      (pss_one (ps_ret (pe_callTy (call_str_int.or SkE.call_str_str) (by rfl) X.str (by decide +kernel) (pa_cons (pv 0) pa_nil))))), ?_⟩
      have hn : v = .non ∨ v ≠ .non := by
        cases v with
        | non => exact .inl rfl
        | _ => exact .inr fun e => nomatch e
      rcases hn with rfl | hn
      · cases da
        refine ⟨_, rfl, true, congrArg V.bl (decide_eq_true rfl), iteT ?_⟩
        exact q H (Same.refl _)
      · refine ⟨_, rfl, false, congrArg V.bl (decide_eq_false hn), iteF ?_⟩
        rcases da.isTup (K := K) with ⟨a, xs, ds, rfl, rfl, na, e, l, i1⟩ | ⟨no, i1⟩
        · obtain ⟨l1000, fits⟩ := fit_tup fit
          have ll := l.length
          rw [itemB_tup, Bool.and_eq_true, decide_eq_true_eq] at ib
          have ibs := List.all_eq_true.mp ib.2
          rw [itemT_tup] at lt q
          have lj : (joinL [32] (ds.map itemT)).length ≤ 1000000 := by
            rw [List.length_cons, List.length_append] at lt
            omega
          refine ⟨_, rfl, _, i1, _, rfl, iteT ⟨⟨_, rfl⟩, _, rfl, a, rfl, ⟨_, SqT.of e⟩, fun D hD => ?_⟩⟩
          refine lc_texts (n := xs.length) (walk_tup (K := K) (xs := xs) (a := a)) (ds.map itemT) (by rw [List.length_map, ll]) hD (by omega) (fun H4 s4 => SqT.of (s4 _ _ e)) ?_ ?_
          · rintro i x H4 H' kT hi s4 ⟨rfl, hx⟩ h
            rw [List.length_map] at hi
            have hd := List.getElem?_eq_getElem hi
            have hm := List.getElem_mem hi
            refine ⟨rfl, _, rfl, A, x, ds[i], k - 1, by omega, rfl, (l.at hd hx).same s4, fits _ hm, ibs _ hm, ?_, fun H5 s5 => ?_⟩
            · exact Nat.le_trans (join_ge (s := 32) _ (List.mem_map_of_mem hm)) lj
            · have z := h H5 s5
              rw [List.getElem_map] at z
              exact z
          · intro H4 s4 e4
            have js := join_sum (s := 32) (xs := ds.map itemT)
            refine ⟨_, D, (ds.map itemT).map S, rfl, rfl, .inl (SqL.of (by rw [← wV_eq]; exact e4)), ?_, ?_⟩
            · rw [SX.lens, List.length_map]
              show _ + _ * 1 ≤ _
              omega
            · rw [show Txt.join (Str.ofString " ") ((ds.map itemT).map S) = S (joinL [32] (ds.map itemT)) from SX.join_S [32] _]
              have lS : (S (joinL [32] (ds.map itemT))).length ≤ 1000000 := by rw [SX.S_len]; exact lj
              have c1 : ∀ {k : Nat}, k ≤ 2000000 → k ≤ sizeLine := fun h => Nat.le_trans h (by decide)
              refine ⟨_, _, rfl, rfl, c1 (by show 1 + _ ≤ _; omega), _, _, rfl, rfl, ?_, ?_⟩
              · rw [show Str.ofString "(" = S [40] from rfl, SX.S_cat, SX.S_len]
                have e1 : (Str.ofString ")").length = 1 := rfl
                rw [e1, List.length_append, List.length_singleton]
                exact c1 (by omega)
              · rw [show Str.ofString "(" ++ S (joinL [32] (ds.map itemT)) ++ Str.ofString ")" = S (40 :: (joinL [32] (ds.map itemT) ++ [41])) from by rw [show Str.ofString "(" = S [40] from rfl, show Str.ofString ")" = S [41] from rfl, SX.S_cat, SX.S_cat]; rfl]
                exact q H4 s4
        · refine ⟨_, rfl, _, i1, _, rfl, iteF ?_⟩
          rw [itemB_no no fun e => by subst e; cases da; exact hn rfl] at ib
          cases da with
          | int i =>
            have hi : (decide (-ten60 < i) && decide (i < ten60)) = true := ib
            rw [Bool.and_eq_true, decide_eq_true_eq, decide_eq_true_eq] at hi
            refine ⟨_, rfl, .inl ⟨i, rfl, int_small hi.1 hi.2, ?_⟩⟩
            have e : S (itemT (.int i)) = Str.ofString (toString i) := SX.S_tl _
            rw [e] at q
            exact q H (Same.refl _)
          | str z =>
            refine ⟨_, rfl, .inr ⟨z, rfl, ?_⟩⟩
            have e : S (itemT (.str z)) = z := SX.S_tl _
            rw [e] at q
            exact q H (Same.refl _)
          | tup n e l => exact absurd rfl (no _)
          | non => exact absurd rfl hn
          | bl b => cases ib
          | lst n e l => cases ib
          | dic n e => cases ib
end
end Wd

set_option Elab.async false
set_option linter.all false
set_option maxRecDepth 100000
set_option maxHeartbeats 4000000
set_option pp.maxSteps 400
set_option pp.deepTerms false
namespace Wd
open PySem L2 TL
open SX (S)

open PySem.Spec PyProof.Rows
/-! ### integers in texts -/
theorem intL_form (i : Int) : (0 ≤ i ∧ intL i = numL i.natAbs) ∨ (i < 0 ∧ intL i = 45 :: numL i.natAbs) := by
  cases i with
  | ofNat n => exact .inl ⟨by show (0 : Int) ≤ (n : Int); omega, tl_num n⟩
  | negSucc m =>
    refine .inr ⟨by omega, ?_⟩
    have e : toString (Int.negSucc m) = "-" ++ Nat.repr (m + 1) := rfl
    have h : intL (Int.negSucc m) = ("-" ++ Nat.repr (m + 1)).toList.map Char.toNat := by
      unfold intL
      rw [e, Str.ofString_eq_toList]
    rw [h, String.toList_append, List.map_append]
    have h2 : numL (Int.negSucc m).natAbs = (Nat.repr (m + 1)).toList.map Char.toNat := by
      show numL (m + 1) = _
      unfold numL
      rw [Nat.toList_repr]
    rw [h2]
    rfl
theorem intL_text (i : Int) : S (intL i) = Str.ofString (toString i) := SX.S_tl _
theorem intL_dig {i : Int} (h1 : -ten60 < i) (h2 : i < ten60) : ∃ cs, (intL i = cs ∨ intL i = 45 :: cs) ∧ (∀ c ∈ cs, 48 ≤ c ∧ c ≤ 57) ∧ 1 ≤ cs.length ∧ cs.length ≤ 60 ∧ (intL i)[0]? ≠ none := by
  have lt : i.natAbs < 10 ^ 60 := by
    have e : (ten60 : Int) = ((10 ^ 60 : Nat) : Int) := by decide +kernel
    omega
  have dg : ∀ c ∈ numL i.natAbs, 48 ≤ c ∧ c ≤ 57 := fun c hc => numL_digits i.natAbs c hc
  have ne := numL_ne i.natAbs
  have l60 := numL_len (k := 60) (by decide) lt
  have l1 := List.length_pos_iff.mpr ne
  rcases intL_form i with ⟨_, e⟩ | ⟨_, e⟩
  · refine ⟨_, .inl e, dg, l1, l60, ?_⟩
    rw [e, List.getElem?_eq_getElem (by omega)]
    exact fun z => nomatch z
  · refine ⟨_, .inr e, dg, l1, l60, ?_⟩
    rw [e]
    exact fun z => nomatch z
/-- int(str(i)) -/
theorem int_back {i : Int} (h1 : -ten60 < i) (h2 : i < ten60) : PySem.intText? (S (intL i)) = some i := by
  have lt : i.natAbs < 10 ^ 60 := by
    have e : (ten60 : Int) = ((10 ^ 60 : Nat) : Int) := by decide +kernel
    omega
  have l60 := numL_len (k := 60) (by decide) lt
  rcases intL_form i with ⟨h0, e⟩ | ⟨h0, e⟩
  · have := int_num (n := i.natAbs) (by omega)
    rw [SX.num_S] at this
    rw [e, this]
    congr 1
    omega
  · have := PySem.intText_neg (x := S (intL i)) (cs := numL i.natAbs) (by rw [e]) (numL_digits _) (numL_ne _) (by rw [SX.S_len, e, List.length_cons]; omega)
    rw [this, numL_val]
    congr 1
    omega
theorem val_lt (l : List Nat) (h : ∀ c ∈ l, 48 ≤ c ∧ c ≤ 57) : NumText.digitsVal l < 10 ^ l.length := by
  have : ∀ (l : List Nat) (a : Nat), (∀ c ∈ l, 48 ≤ c ∧ c ≤ 57) → l.foldl (fun acc c => acc * 10 + (c - 48)) a + 1 ≤ (a + 1) * 10 ^ l.length := fun l => by
    induction l with
    | nil => intro a _; show a + 1 ≤ (a + 1) * 1; omega
    | cons c r ih =>
      intro a h
      have hc := h c (by simp)
      have := ih (a * 10 + (c - 48)) fun d hd => h d (by simp [hd])
      rw [List.foldl_cons, List.length_cons, Nat.pow_succ]
      refine Nat.le_trans this ?_
      rw [Nat.mul_comm (10 ^ r.length) 10, ← Nat.mul_assoc]
      exact Nat.mul_le_mul_right _ (by omega)
  have z := this l 0 h
  show l.foldl (fun acc c => acc * 10 + (c - 48)) 0 < _
  omega
theorem int_some {x : List Nat} {cs : List Nat} (hx : x = cs ∨ x = 45 :: cs) (hd : ∀ c ∈ cs, 48 ≤ c ∧ c ≤ 57) (h1 : 1 ≤ cs.length) (h2 : cs.length ≤ 60) : ∃ i, PySem.intText? (S x) = some i ∧ -ten60 < i ∧ i < ten60 := by
  have ne : cs ≠ [] := fun e => by rw [e] at h1; exact absurd h1 (by decide)
  have lv : NumText.digitsVal cs < 10 ^ 60 := Nat.lt_of_lt_of_le (val_lt cs hd) (Nat.pow_le_pow_right (by decide) h2)
  have e : (ten60 : Int) = ((10 ^ 60 : Nat) : Int) := by decide +kernel
  rcases hx with rfl | rfl
  · refine ⟨_, PySem.intText_digits (x := S x) (by rw [show (S x).cps.toList = x from by simp [S]]; exact hd) (by simpa [S] using ne) (by rw [SX.S_len]; omega), ?_, ?_⟩
    all_goals rw [show (S x).cps.toList = x from by simp [S]]
    all_goals omega
  · exact ⟨_, PySem.intText_neg (x := S (45 :: cs)) (cs := cs) (by simp [S]) hd ne (by rw [SX.S_len, List.length_cons]; omega), by omega, by omega⟩
/-- what integer_of gives of a word -/
def IntW (x : List Nat) (v : V) : Prop := (∃ i, -ten60 < i ∧ i < ten60 ∧ x = intL i ∧ v = .int i) ∨ (v = .non ∧ ∀ i, -ten60 < i → i < ten60 → x ≠ intL i)
def spIntOf : Sp := fun vs H Q _ => ∃ x : List Nat, vs = [.str (S x)] ∧ x.length ≤ 400000 ∧ ∀ H' v, Same H H' → IntW x v → Q v H'
theorem digit_iff {c : Nat} : c ∈ (Str.ofString "0123456789").cps.toList ↔ 48 ≤ c ∧ c ≤ 57 := by
  have e : (Str.ofString "0123456789").cps.toList = [48, 49, 50, 51, 52, 53, 54, 55, 56, 57] := by decide +kernel
  rw [e]
  simp
  omega
theorem starts_S (x : List Nat) : Txt.startswith (S x) (S [45]) = decide (x.head? = some 45) := by
  unfold Txt.startswith
  rw [StrLaws.subAt_eq]
  cases x with
  | nil => rfl
  | cons c r =>
    have e : (0 + (S [45]).length ≤ (S (c :: r)).length) = True := by
      rw [SX.S_len, SX.S_len]
      simp
    rw [show decide (0 + (S [45]).length ≤ (S (c :: r)).length) = true from by rw [decide_eq_true_iff, e]; trivial, Bool.true_and]
    show (((S (c :: r)).cps.toList.drop 0).take (S [45]).length == (S [45]).cps.toList) = decide (some c = some 45)
    rw [show (S (c :: r)).cps.toList = c :: r from by simp [S], show (S [45]).cps.toList = [45] from rfl, show (S [45]).length = 1 from rfl]
    show ([c] == [45]) = _
    by_cases h : c = 45
    · subst h
      rfl
    · rw [decide_eq_false (fun e => h (by injection e))]
      exact beq_eq_false_iff_ne.mpr fun e => h (by injection e)
structure DTxt (mg : Str → Option Value) : Prop where
  md : ∃ u, mg "MAX_DIGITS" = some u ∧ RelV (.int 60) u
  dg : ∃ u, mg "DIGITS" = some u ∧ RelV (.str (Str.ofString "0123456789")) u
section
variable {P : Program} {w : World} {K : PySem.W.Frag} {mg : Str → Option Value} {base : Heap} {fI fL : Addr}
abbrev nIOf : List Str := ["word", "digits", "value", "sign"]
theorem scIOf : FnScope nIOf ["word"] (defScope sIntegerOf) := ⟨rfl, rfl, rfl, by decide +kernel, rfl, by decide +kernel, by decide +kernel⟩
theorem ok_integer_of {f : Addr} {fd : FuncData} (F : Fun K "integer_of" "integer_of" sIntegerOf f fd) (X : WTxt mg fI fL) (Z : DTxt mg) : FnOk P w K mg base CX0 1 f fd ["word"] spIntOf := by
  refine F.ok scIOf (fun vs H Q E h => ?_) (fun cdv Ao outer s H vs Q E hr h => ?_)
  · obtain ⟨x, rfl, _⟩ := h
    rfl
  · obtain ⟨x, rfl, lx, q⟩ := h
    have nd := scIOf.nd
    refine ⟨_, pss_cons (ps_set (i := 1) nd rfl (Or.inl rfl) (pe_ifExp (pt_val (pe_m1 PySem.F.slot_str_startswith PySem.F.type_str_startswith mt_startswith (pv 0) pe_str)) (pe_slice C8.sl_txt (pv 0) (po_some pe_int) po_none) (pv 0)))
      (pss_cons (ps_if (PW.pt (pw_or (pt_not (pt_chain op_le op_le pe_int (pe_callB call_len_str (by rfl) X.len PySem.boot_len (pa_cons (pv 1) pa_nil)) (pe_gcon rfl Z.md))) (pw_or1 (pt_not (pt_val (pe_callB (cr_all rfl) (by rfl) X.all (by decide +kernel) (pa_cons (pe_lc (own := [("sign", 3)]) (g := gName 3) (tt := tYes) rfl nd (pi_str (pv 1)) (blkOk_by (N := nIOf) (sc := defScope sIntegerOf) (by decide +kernel)) (fun _ _ _ _ _ => pg_name (i := 3) nd rfl (Or.inl rfl)) (fun _ _ _ _ _ => pts_nil) (fun _ _ _ _ _ => (pe_cmpR op_in_sign (pv 3) (pe_gcon rfl Z.dg) (by rfl)))) pa_nil))))))) (pss_one (ps_ret pe_non)) pss_nil)
      (pss_cons (ps_set (i := 2) nd rfl (Or.inl rfl) (pe_callTy call_int_str (by rfl) X.int (by decide +kernel) (pa_cons (pv 0) pa_nil)))
      (pss_one (ps_ret (pe_ifExp (pt_cmpR op_eq (pe_callTy call_str_int (by rfl) X.str (by decide +kernel) (pa_cons (pv 2) pa_nil)) (pv 0) (nomark _)) (pv 2) pe_non))))), ?_⟩
    have big : (400000 : Nat) ≤ sizeLine := by decide
    have lS : (S x).length = x.length := SX.S_len _
    obtain ⟨ds, hd, hv⟩ : ∃ ds, ((x = ds ∧ x.head? ≠ some 45) ∨ x = 45 :: ds) ∧ ∀ Q' : V → Hp → Prop, Q' (.str (S ds)) H → tIf (tB (tM1 (fun x xs H Q => ∃ a b, x = V.str a ∧ xs = [V.str b] ∧ Q (V.bl (Txt.startswith a b)) H) (tVar 0) (tC (V.str (Str.ofString "-"))))) (tSl C8.rSlX (tVar 0) (tPart (tC (V.int 1))) tNoPart) (tVar 0) (L2.start nIOf [V.str (S x)]) H Q' := by
      have sw := starts_S x
      by_cases h45 : x.head? = some 45
      · obtain ⟨r, rfl⟩ : ∃ r, x = 45 :: r := by
          cases x with
          | nil => cases h45
          | cons c r => cases h45; exact ⟨r, rfl⟩
        refine ⟨r, .inr rfl, fun Q' hq => ⟨_, rfl, ⟨_, rfl⟩, _, _, rfl, rfl, _, rfl, ?_⟩⟩
        rw [show Str.ofString "-" = S [45] from rfl, sw, decide_eq_true h45]
        refine iteT ⟨_, rfl, _, rfl, _, rfl, by rw [lS]; omega, ?_⟩
        rw [SX.slice_from (by omega)]
        exact hq
      · refine ⟨x, .inl ⟨rfl, h45⟩, fun Q' hq => ⟨_, rfl, ⟨_, rfl⟩, _, _, rfl, rfl, _, rfl, ?_⟩⟩
        rw [show Str.ofString "-" = S [45] from rfl, sw, decide_eq_false h45]
        exact iteF ⟨_, rfl, hq⟩
    have lD : ds.length ≤ x.length := by
      rcases hd with ⟨rfl, _⟩ | rfl
      · exact Nat.le_refl _
      · simp
    have no : ∀ H1, Same H H1 → ¬ ((∀ c ∈ ds, 48 ≤ c ∧ c ≤ 57) ∧ 1 ≤ ds.length ∧ ds.length ≤ 60) → Q .non H1 := fun H1 s1 h => q _ _ s1 (.inr ⟨rfl, fun i h1 h2 e => by
      obtain ⟨cs, hc, dg, l1, l60, _⟩ := intL_dig h1 h2
      rw [← e] at hc
      have : cs = ds := by
        rcases hc with hc | hc
        · rcases hd with ⟨hd, _⟩ | hd
          · rw [← hc, hd]
          · rw [hd] at hc
            have := dg 45 (by rw [← hc]; simp)
            omega
        · rcases hd with ⟨hd, h45⟩ | hd
          · exact absurd (by rw [hc]; rfl) h45
          · rw [hd] at hc
            injection hc with _ hc
            exact hc.symm
      rw [this] at dg l1 l60
      exact h ⟨dg, l1, l60⟩⟩)
    refine hv _ ?_
    have lS2 : (S ds).length = ds.length := SX.S_len _
    refine ⟨_, rfl, _, rfl, by rw [lS2]; omega, _, _, rfl, rfl, _, rfl, ?_⟩
    refine ite2 (fun c1 => ?_) (fun c1 => ?_)
    · refine ⟨_, _, rfl, rfl, _, rfl, ?_⟩
      refine ite2 (fun c2 => ?_) (fun c2 => ?_)
      · refine no _ (Same.refl _) fun h => ?_
        simp at c2
        rw [lS2] at c2
        omega
      · have c1' : (1 : Int) ≤ (S ds).length := of_decide_eq_true c1
        have c2' : ((S ds).length : Int) ≤ 60 := by simpa using c2
        rw [lS2] at c1' c2'
        refine ⟨_, rfl, _, rfl, fun D hD => ?_⟩
        refine lc_bools (walk_str (z := S ds)) (fun i => ∃ c, ds[i]? = some c ∧ 48 ≤ c ∧ c ≤ 57) hD (by show ds.length ≤ 400000; omega) (fun _ _ => trivial) ?_ ?_
        · rintro i y H1 H' kk hi s1 ⟨rfl, c, hc, rfl⟩ h
          have hc' : ds[i]? = some c := by simpa [S] using hc
          refine ⟨rfl, _, rfl, c, _, rfl, rfl, h _ _ (Same.refl _) ?_⟩
          refine at_one hc' ?_
          rw [decide_eq_true_iff]
          exact digit_iff
        · rintro H1 bs s1 hD1 hb
          rw [show (S ds).cps.size = ds.length from rfl, all_at] at hb
          refine ⟨D, bs, rfl, SqL.of hD1, _, rfl, ?_⟩
          by_cases hdg : ∀ c ∈ ds, 48 ≤ c ∧ c ≤ 57
          · rw [hb.mpr hdg]
            have hx : x = ds ∨ x = 45 :: ds := hd.elim (fun h => .inl h.1) .inr
            obtain ⟨i, ei, i1, i2⟩ := int_some hx hdg (by omega) (by omega)
            have lx62 : x.length ≤ 61 := by
              rcases hx with rfl | rfl
              · omega
              · rw [List.length_cons]; omega
            refine iteF ⟨_, rfl, _, i, rfl, ei, by rw [lS]; omega, ?_⟩
            refine ⟨_, rfl, i, rfl, int_small i1 i2, _, rfl, rfl, _, rfl, ?_⟩
            by_cases hc : x = intL i
            · rw [decide_eq_true (show V.str (Str.ofString (toString i)) = V.str (S x) from by rw [hc, intL_text])]
              exact iteT ⟨_, rfl, q _ _ s1 (.inl ⟨i, i1, i2, hc, rfl⟩)⟩
            · rw [decide_eq_false (show V.str (Str.ofString (toString i)) ≠ V.str (S x) from fun e => hc (by rw [← intL_text] at e; exact (V_S.mp e).symm))]
              refine iteF (q _ _ s1 (.inr ⟨rfl, fun j j1 j2 e => ?_⟩))
              have := int_back j1 j2
              rw [← e, ei] at this
              injection this with this
              rw [this] at hc
              exact hc e
          · rw [Bool.eq_false_iff.mpr fun z => hdg (hb.mp z)]
            exact iteT (no _ s1 fun h => hdg h.1)
    · refine ⟨_, rfl, iteT (no _ (Same.refl _) fun h => c1 (decide_eq_true (by rw [lS2]; omega)))⟩
end
end Wd

set_option Elab.async false
set_option linter.all false
set_option maxRecDepth 100000
set_option maxHeartbeats 4000000
set_option pp.maxSteps 400
set_option pp.deepTerms false
namespace Wd
open PySem L2 TL
open SX (S)

open PySem.Spec PyProof.Rows
/-! ### items in texts -/
mutual
/-- no lists, no dicts -/
def pureB : PyData → Bool
  | .tuple ds => pureL ds
  | .list _ => false
  | .dict _ => false
  | .none => true
  | .bool _ => true
  | .int _ => true
  | .str _ => true
def pureL : List PyData → Bool
  | [] => true
  | d :: ds => pureB d && pureL ds
end
theorem pureL_iff : ∀ {ds : List PyData}, pureL ds = true ↔ ∀ d ∈ ds, pureB d = true
  | [] => ⟨(fun _ d h => nomatch h), fun _ => rfl⟩
  | e :: ds => by
    show (pureB e && pureL ds) = true ↔ _
    rw [Bool.and_eq_true, pureL_iff (ds := ds)]
    constructor
    · rintro ⟨a, b⟩ d hd
      rcases List.mem_cons.mp hd with rfl | hd
      · exact a
      · exact b d hd
    · exact fun h => ⟨h e (by simp), fun d hd => h d (by simp [hd])⟩
section
variable {A : List Addr} {H H' : Hp}
mutual
theorem DA.tk (k : TK H H') : ∀ {d : PyData} {v : V}, DA A H d v → pureB d = true → DA [] H' d v
  | _, _, .non, _ => .non
  | _, _, .bl b, _ => .bl b
  | _, _, .int i, _ => .int i
  | _, _, .str z, _ => .str z
  | _, _, .tup n e l, h => .tup (fun z => nomatch z) (k _ _ e) (l.tk k h)
theorem DAL.tk (k : TK H H') : ∀ {ds : List PyData} {xs : List V}, DAL A H ds xs → pureL ds = true → DAL [] H' ds xs
  | _, _, .nil, _ => .nil
  | _, _, .cons (d := d) (ds := ds) a as, h => by
    have h : (pureB d && pureL ds) = true := h
    rw [Bool.and_eq_true] at h
    exact .cons (a.tk k h.1) (as.tk k h.2)
end
end
def intD (x : List Nat) : PyData := match PySem.intText? (S x) with
  | some i => if x = intL i ∧ -ten60 < i ∧ i < ten60 then .int i else .none
  | none => .none
theorem intD_of {x : List Nat} {v : V} {A : List Addr} {H : Hp} (h : IntW x v) : DA A H (intD x) v := by
  unfold intD
  rcases h with ⟨i, h1, h2, rfl, rfl⟩ | ⟨rfl, h⟩
  · rw [int_back h1 h2]
    show DA A H (if intL i = intL i ∧ -ten60 < i ∧ i < ten60 then .int i else .none) _
    rw [if_pos ⟨rfl, h1, h2⟩]
    exact .int i
  · split
    · rename_i i _
      rw [if_neg fun z => h i z.2.1 z.2.2 z.1]
      exact .non
    · exact .non
theorem intD_pure (x : List Nat) : pureB (intD x) = true := by
  unfold intD
  split
  · split <;> rfl
  · rfl
def itemW (x : List Nat) : PyData := if wordB (.str (S x)) = true then .str (S x) else intD x
theorem itemW_pure (x : List Nat) : pureB (itemW x) = true := by
  unfold itemW
  split
  · rfl
  · exact intD_pure x
def stepI (st : List (List PyData)) (f : PyData) (x : List Nat) : Option (List (List PyData) × PyData) :=
  if x = [40] then some ([] :: st, f)
  else match st with
    | [] => if x = [] then some ([], f) else none
    | t :: r => if x = [41] then (match r with
        | [] => some ([], .tuple t)
        | u :: r' => some ((u ++ [.tuple t]) :: r', .tuple t))
      else if x = [] then some (t :: r, f) else some ((t ++ [itemW x]) :: r, f)
def runI : List (List PyData) → PyData → List (List Nat) → PyData
  | st, f, [] => match st with
    | [] => f
    | _ :: _ => .none
  | st, f, x :: xs => match stepI st f x with
    | none => .none
    | some p => runI p.1 p.2 xs
def spItemOf : Sp := fun vs H Q _ => ∃ (a : Addr) (ws : List (List Nat)), vs = [.ref a] ∧ H a = some (.lst (wV ws)) ∧ ws.length ≤ 1000000 ∧ (∀ x ∈ ws, x.length ≤ 390000 ∧ PyData.strOk (S x) = true) ∧ ∀ H' v, Same H H' → DA [] H' (runI [] .none ws) v → Q v H'
/-- the lists that have begun, the newest first -/
structure StAt (H0 : Hp) (O : Addr) (H : Hp) (st : List (List PyData × Addr)) : Prop where
  l : H O = some (.lst ((st.map (·.2)).reverse.map V.ref))
  it : ∀ p ∈ st, ∃ xs, H p.2 = some (.lst xs) ∧ DAL [] H p.1 xs
  pu : ∀ p ∈ st, pureL p.1 = true
  nd : (st.map (·.2)).Nodup
  nl : O ∉ st.map (·.2)
  nw : ∀ p ∈ st, H0 p.2 = none
theorem StAt.keep {H0 H H' : Hp} {O : Addr} {st : List (List PyData × Addr)} (m : StAt H0 O H st) (s : Same H H') : StAt H0 O H' st :=
  ⟨s _ _ m.l, fun p hp => let ⟨xs, h1, h2⟩ := m.it p hp; ⟨xs, s _ _ h1, h2.same s⟩, m.pu, m.nd, m.nl, m.nw⟩
theorem StAt.push {H0 H : Hp} {O p : Addr} {st : List (List PyData × Addr)} (m : StAt H0 O H st) (hp : H p = none) (h0 : H0 p = none) :
    StAt H0 O (upd (upd H p (.lst [])) O (.lst ((st.map (·.2)).reverse.map V.ref ++ [.ref p]))) (([], p) :: st) ∧ TK H (upd (upd H p (.lst [])) O (.lst ((st.map (·.2)).reverse.map V.ref ++ [.ref p]))) := by
  have npO : p ≠ O := fun e => by rw [e, m.l] at hp; cases hp
  have s1 : Same H (upd H p (.lst [])) := same_new hp
  have e1 := s1 _ _ m.l
  have k : TK H (upd (upd H p (.lst [])) O (.lst ((st.map (·.2)).reverse.map V.ref ++ [.ref p]))) := (TK.of s1).trans (TK.lst e1)
  have npa : p ∉ st.map (·.2) := fun e => by
    obtain ⟨x, hx, e⟩ := List.mem_map.mp e
    obtain ⟨xs, h, _⟩ := m.it x hx
    rw [e, hp] at h
    cases h
  refine ⟨⟨?_, fun x hx => ?_, fun x hx => ?_, ?_, ?_, fun x hx => ?_⟩, k⟩
  · rw [upd_same]
    show _ = some (HO.lst ((p :: st.map (·.2)).reverse.map V.ref))
    rw [List.reverse_cons, List.map_append]
    rfl
  · rcases List.mem_cons.mp hx with rfl | hx
    · refine ⟨[], ?_, .nil⟩
      rw [upd_ne npO]
      exact upd_same
    · obtain ⟨xs, h1, h2⟩ := m.it x hx
      refine ⟨xs, ?_, h2.tk k (m.pu x hx)⟩
      rw [upd_ne (fun z => m.nl (by rw [← z]; exact List.mem_map_of_mem hx))]
      exact s1 _ _ h1
  · rcases List.mem_cons.mp hx with rfl | hx
    · rfl
    · exact m.pu x hx
  · exact List.nodup_cons.mpr ⟨npa, m.nd⟩
  · intro e
    rcases List.mem_cons.mp e with e | e
    · exact npO e.symm
    · exact m.nl e
  · rcases List.mem_cons.mp hx with rfl | hx
    · exact h0
    · exact m.nw x hx
theorem StAt.item {H0 H : Hp} {O b : Addr} {t : List PyData} {st : List (List PyData × Addr)} {xs : List V} {d : PyData} {v : V} (m : StAt H0 O H ((t, b) :: st)) (hb : H b = some (.lst xs)) (da : DA [] H d v) (pd : pureB d = true) :
    StAt H0 O (upd H b (.lst (xs ++ [v]))) ((t ++ [d], b) :: st) ∧ TK H (upd H b (.lst (xs ++ [v]))) := by
  have k : TK H (upd H b (.lst (xs ++ [v]))) := TK.lst hb
  have nbO : O ≠ b := fun e => m.nl (by rw [e]; exact List.mem_cons_self)
  obtain ⟨xs', h1, h2⟩ := m.it (t, b) (by simp)
  have h1 : H b = some (.lst xs') := h1
  rw [hb] at h1
  cases h1
  refine ⟨⟨?_, fun x hx => ?_, fun x hx => ?_, m.nd, m.nl, fun x hx => ?_⟩, k⟩
  · rw [upd_ne nbO]
    exact m.l
  · rcases List.mem_cons.mp hx with rfl | hx
    · exact ⟨_, upd_same, (h2.tk k (m.pu (t, b) (by simp))).app (.cons (da.tk k pd) .nil)⟩
    · obtain ⟨ys, g1, g2⟩ := m.it x (List.mem_cons_of_mem _ hx)
      have nd := (List.nodup_cons.mp m.nd).1
      refine ⟨ys, ?_, g2.tk k (m.pu x (List.mem_cons_of_mem _ hx))⟩
      rw [upd_ne (fun z => nd (by show b ∈ _; rw [← z]; exact List.mem_map_of_mem hx))]
      exact g1
  · rcases List.mem_cons.mp hx with rfl | hx
    · refine pureL_iff.mpr fun e he => ?_
      rcases List.mem_append.mp he with he | he
      · exact pureL_iff.mp (m.pu (t, b) (by simp)) e he
      · rw [List.mem_singleton.mp he]
        exact pd
    · exact m.pu x (List.mem_cons_of_mem _ hx)
  · rcases List.mem_cons.mp hx with rfl | hx
    · exact m.nw (t, b) (by simp)
    · exact m.nw x (List.mem_cons_of_mem _ hx)
theorem StAt.pop {H0 H : Hp} {O b p : Addr} {t : List PyData} {st : List (List PyData × Addr)} {xs : List V} (m : StAt H0 O H ((t, b) :: st)) (hb : H b = some (.lst xs)) (hp : H p = none) :
    StAt H0 O (upd (upd H O (.lst ((st.map (·.2)).reverse.map V.ref))) p (.tup xs)) st ∧ DA [] (upd (upd H O (.lst ((st.map (·.2)).reverse.map V.ref))) p (.tup xs)) (.tuple t) (.ref p) := by
  have npO : p ≠ O := fun e => by rw [e, m.l] at hp; cases hp
  obtain ⟨xs', h1, h2⟩ := m.it (t, b) (by simp)
  have h1 : H b = some (.lst xs') := h1
  rw [hb] at h1
  cases h1
  have hp1 : (upd H O (.lst ((st.map (·.2)).reverse.map V.ref))) p = none := by rw [upd_ne npO]; exact hp
  have k : TK H (upd (upd H O (.lst ((st.map (·.2)).reverse.map V.ref))) p (.tup xs)) := (TK.lst m.l).trans (TK.of (same_new hp1))
  refine ⟨⟨?_, fun x hx => ?_, fun x hx => m.pu x (List.mem_cons_of_mem _ hx), (List.nodup_cons.mp m.nd).2, fun h => m.nl (List.mem_cons_of_mem _ h), fun x hx => m.nw x (List.mem_cons_of_mem _ hx)⟩, ?_⟩
  · rw [upd_ne (Ne.symm npO)]
    exact upd_same
  · obtain ⟨ys, g1, g2⟩ := m.it x (List.mem_cons_of_mem _ hx)
    refine ⟨ys, ?_, g2.tk k (m.pu x (List.mem_cons_of_mem _ hx))⟩
    rw [upd_ne (fun z => by rw [z, hp] at g1; cases g1), upd_ne (fun z => m.nl (by rw [← z]; exact List.mem_cons_of_mem _ (List.mem_map_of_mem hx)))]
    exact g1
  · exact .tup (fun h => nomatch h) upd_same (h2.tk k (m.pu (t, b) (by simp)))
section
variable {P : Program} {w : World} {K : PySem.W.Frag} {mg : Str → Option Value} {base : Heap} {fI fL fW fG : Addr} {dW dG : FuncData}
abbrev nItO : List Str := ["words", "begun", "found", "word"]
theorem scItO : FnScope nItO ["words"] (defScope sItemOf) := ⟨rfl, rfl, rfl, by decide +kernel, rfl, by decide +kernel, by decide +kernel⟩
theorem ok_item_of {f : Addr} {fd : FuncData} (F : Fun K "item_of" "item_of" sItemOf f fd) (X : WTxt mg fI fL) (W : At P w K mg base 2 "is_word" fW dW ["value"] (spB wordB)) (G : At P w K mg base 1 "integer_of" fG dG ["word"] spIntOf) : FnOk P w K mg base CX0 3 f fd ["words"] spItemOf := by
  refine F.ok scItO (fun vs H Q E h => ?_) (fun cdv Ao outer s H vs Q E hr h => ?_)
  · obtain ⟨a, ws, rfl, _⟩ := h
    rfl
  · obtain ⟨a0, ws, rfl, e0, lw0, okw, q⟩ := h
    have nd := scItO.nd
    have hr1 : Room 1 _ := hr.mono (by decide)
    refine ⟨_, pss_cons (ps_set (i := 1) nd rfl (Or.inl rfl) (pe_lst pa_nil))
      (pss_cons (ps_set (i := 2) nd rfl (Or.inl rfl) pe_non)
      (pss_cons (ps_for PassesOwn.never rfl (pi_list (pv 0)) (pg_name (i := 3) nd rfl (Or.inl rfl)) (pss_one (ps_if (pt_cmpR op_eq (pv 3) pe_str (nomark _)) (pss_one (ps_expr (pe_bm PySem.F.plainAttrs_list PySem.F.slot_list_append PySem.F.type_list_append mt_append (pv 1) (pa_cons (pe_lst pa_nil) pa_nil)))) (pss_one (ps_if (PW.pt (pw_and (pt_cmpR op_ne (pv 3) pe_str (nomark _)) (pw_and1 (pt_cmpR op_eq (pe_callB call_len_seq (by rfl) X.len PySem.boot_len (pa_cons (pv 1) pa_nil)) pe_int (nomark _))))) (pss_one (ps_ret pe_non)) (pss_one (ps_if (pt_cmpR op_eq (pv 3) pe_str (nomark _)) (pss_cons (ps_set (i := 2) nd rfl (Or.inl rfl) (pe_callTy call_tuple_of (by rfl) X.tup (by decide +kernel) (pa_cons (pe_bm0 PySem.F.plainAttrs_list PySem.F.slot_list_pop PySem.F.type_list_pop mt_pop (pv 1)) pa_nil)))
      (pss_one (ps_if (pt_cmpR op_gt (pe_callB call_len_seq (by rfl) X.len PySem.boot_len (pa_cons (pv 1) pa_nil)) pe_int (nomark _)) (pss_one (ps_expr (pe_bm PySem.F.plainAttrs_list PySem.F.slot_list_append PySem.F.type_list_append mt_append (pe_ix ix_list (pv 1) (pe_un un_neg pe_int) (fun _ _ => rfl)) (pa_cons (pv 2) pa_nil)))) pss_nil))) (pss_one (ps_if (pt_cmpR op_ne (pv 3) pe_str (nomark _)) (pss_one (ps_expr (pe_bm PySem.F.plainAttrs_list PySem.F.slot_list_append PySem.F.type_list_append mt_append (pe_ix ix_list (pv 1) (pe_un un_neg pe_int) (fun _ _ => rfl)) (pa_cons (pe_ifExp (pt_val (pe_call W.g hr rfl W.m W.kp W.b .nil pass0 (pa_cons (pv 3) pa_nil))) (pv 3) (pe_call G.g hr1 rfl G.m G.kp G.b .nil pass0 (pa_cons (pv 3) pa_nil))) pa_nil)))) pss_nil)))))))))
      (pss_one (ps_ret (pe_ifExp (pt_cmpR op_eq (pe_callB call_len_seq (by rfl) X.len PySem.boot_len (pa_cons (pv 1) pa_nil)) pe_int (nomark _)) (pv 2) pe_non))))), ?_⟩
    refine ⟨by show 0 ≤ sizeLine; decide, fun O hO => ?_⟩
    have sO := same_new (o := .lst []) hO
    have eO : (upd H O (.lst [])) O = some (.lst []) := upd_same
    have e1 := sO _ _ e0
    generalize upd H O (.lst []) = H1 at sO eO e1
    have noO : ∀ {H' : Hp} {o : HO}, Same H H' → Same H (upd H' O o) := fun {H' o} s b ob e => by
      rw [upd_ne (ne_of_none e hO)]
      exact s b ob e
    have sm : ∀ {k : Nat}, k ≤ 2000000 → k < sizeLine := fun {k} h => Nat.lt_of_le_of_lt h (by decide)
    refine ⟨_, rfl, a0, rfl, ⟨_, SqL.of e1⟩, ?_⟩
    have lw := wV_len ws
    refine for_it (n := (wV ws).length) (walk_list (K := K) (xs := wV ws) (a := a0)) (fun i σ H' => ∃ (st : List (List PyData × Addr)) (fo : PyData) (vf : V) (v3 : Option V), σ = [some (.ref a0), some (.ref O), some vf, v3] ∧ Same H H' ∧ StAt H O H' st ∧ DA [] H' fo vf ∧ pureB fo = true ∧ st.length ≤ i ∧ (∀ p ∈ st, p.1.length ≤ i) ∧ runI [] .none ws = runI (st.map (·.1)) fo (ws.drop i))
      ⟨[], .none, _, _, rfl, sO, ⟨eO, (fun p h => nomatch h), (fun p h => nomatch h), List.nodup_nil, (fun h => nomatch h), fun p h => nomatch h⟩, .non, rfl, Nat.le_refl _, (fun p h => nomatch h), rfl⟩ (fun _ _ _ _ ⟨_, _, _, _, _, s, _⟩ => SqL.of (s _ _ e0)) ?_ ?_
    · rintro i y σ Hx H2 hi ⟨st, fo, vf, v3, rfl, s2, m, df, pf, ls, lp, run⟩ ⟨rfl, hy⟩
      rw [lw] at hi
      rw [wV_get hi] at hy
      cases hy
      obtain ⟨lx, ox⟩ := okw _ (List.getElem_mem hi)
      have rc : runI (st.map (·.1)) fo (ws.drop i) = match stepI (st.map (·.1)) fo ws[i] with | none => .none | some p => runI p.1 p.2 (ws.drop (i + 1)) := by rw [List.drop_eq_getElem_cons hi]; rfl
      generalize ws[i] = x at lx ox rc ⊢
      refine ⟨_, rfl, rfl, _, rfl, ?_⟩
      have fit : fitB 400000 (.str (S x)) = true := by
        unfold fitB
        rw [Bool.and_eq_true, decide_eq_true_eq, SX.S_len]
        exact ⟨by omega, ox⟩
      have fresh : ∀ {H' : Hp} {p : Addr}, Same H H' → H' p = none → H p = none := fun {H' p} s h => by
        cases e : H p with
        | none => rfl
        | some o => rw [s _ _ e] at h; cases h
      by_cases h40 : x = [40]
      · rw [decide_eq_true (show V.str (S x) = V.str (Str.ofString "(") from by rw [h40]; rfl)]
        refine iteT ⟨_, rfl, .inl ⟨rfl, _, SqL.of m.l⟩, by show 0 ≤ sizeLine; decide, fun p hp => ?_⟩
        have hp0 := fresh s2 hp
        obtain ⟨m', k⟩ := m.push hp hp0
        have s3 := same_new (o := .lst []) hp
        refine ⟨O, _, .ref p, rfl, rfl, s3 _ _ m.l, sm (by simp; omega), ?_⟩
        refine ⟨([], p) :: st, fo, vf, _, rfl, noO (s2.trans s3), m', df.tk k pf, pf, by simp; omega, fun p' hp' => ?_, ?_⟩
        · rcases List.mem_cons.mp hp' with rfl | hp'
          · exact Nat.zero_le _
          · have := lp p' hp'
            omega
        · rw [run, rc]
          have : stepI (st.map (·.1)) fo x = some ([] :: st.map (·.1), fo) := if_pos h40
          rw [this]
          rfl
      · rw [decide_eq_false (show V.str (S x) ≠ V.str (Str.ofString "(") from fun e => h40 (V_S.mp (show V.str (S x) = V.str (S [40]) from e)))]
        refine iteF ⟨_, rfl, rfl, _, rfl, ?_⟩
        have st1 : stepI (st.map (·.1)) fo x = (match st.map (·.1) with
            | [] => if x = [] then some ([], fo) else none
            | t :: r => if x = [41] then (match r with
                | [] => some ([], .tuple t)
                | u :: r' => some ((u ++ [.tuple t]) :: r', .tuple t))
              else if x = [] then some (t :: r, fo) else some ((t ++ [itemW x]) :: r, fo)) := if_neg h40
        by_cases h0 : x = []
        · rw [decide_eq_true (show V.str (S x) = V.str (Str.ofString "") from by rw [h0]; rfl)]
          refine iteF ⟨_, rfl, rfl, _, rfl, ?_⟩
          rw [decide_eq_false (show V.str (S x) ≠ V.str (Str.ofString ")") from fun e => by
            have := V_S.mp (show V.str (S x) = V.str (S [41]) from e)
            rw [h0] at this
            cases this)]
          refine iteF ⟨_, rfl, rfl, _, rfl, ?_⟩
          rw [decide_eq_true (show V.str (S x) = V.str (Str.ofString "") from by rw [h0]; rfl)]
          refine iteF ⟨st, fo, vf, _, rfl, s2, m, df, pf, by omega, fun p hp => by have := lp p hp; omega, ?_⟩
          rw [run, rc, st1]
          have n41 : x ≠ [41] := fun e => by rw [h0] at e; cases e
          cases st with
          | nil => simp [h0]
          | cons p r => simp [h0]
        · rw [decide_eq_false (show V.str (S x) ≠ V.str (Str.ofString "") from fun e => h0 (V_S.mp (show V.str (S x) = V.str (S []) from e)))]
          refine iteT ⟨_, rfl, O, _, rfl, .inl (SqL.of m.l), rfl, _, rfl, ?_⟩
          cases st with
          | nil =>
            refine iteT (q _ _ s2 ?_)
            rw [run, rc, st1]
            show DA [] H2 (match (if x = [] then some (([] : List (List PyData)), fo) else none) with | none => PyData.none | some p => runI p.1 p.2 (ws.drop (i + 1))) .non
            rw [if_neg h0]
            exact .non
          | cons p r =>
            obtain ⟨t, b⟩ := p
            rw [decide_eq_false (by intro e; injection e with e; simp at e; omega)]
            have eO2 : H2 O = some (.lst ((r.map (·.2)).reverse.map V.ref ++ [.ref b])) := by
              rw [m.l]
              show some (HO.lst ((b :: r.map (·.2)).reverse.map V.ref)) = _
              rw [List.reverse_cons, List.map_append]
              rfl
            obtain ⟨xs, eb, dl⟩ := m.it (t, b) (by simp)
            have eb : H2 b = some (.lst xs) := eb
            have lxs : t.length = xs.length := dl.length
            have lt : t.length ≤ i := lp (t, b) (by simp)
            have nbO : b ≠ O := fun e => m.nl (by rw [← e]; exact List.mem_cons_self)
            refine iteF ⟨_, rfl, rfl, _, rfl, ?_⟩
            by_cases h41 : x = [41]
            · rw [decide_eq_true (show V.str (S x) = V.str (Str.ofString ")") from by rw [h41]; rfl)]
              refine iteT ⟨_, rfl, .inl ⟨rfl, _, SqL.of eO2⟩, O, _, .ref b, rfl, rfl, eO2, by simp, ?_⟩
              rw [List.dropLast_concat]
              have eb6 : (upd H2 O (.lst ((r.map (·.2)).reverse.map V.ref))) b = some (.lst xs) := by
                rw [upd_ne nbO]
                exact eb
              refine ⟨b, xs, rfl, .inl ⟨SqL.of eb6, fun p hp => ?_⟩⟩
              have npO : p ≠ O := fun e => by rw [e, upd_same] at hp; cases hp
              have hp2 : H2 p = none := by rw [upd_ne npO] at hp; exact hp
              obtain ⟨m', df'⟩ := m.pop eb hp2
              have s3 : Same H (upd (upd H2 O (.lst ((r.map (·.2)).reverse.map V.ref))) p (.tup xs)) := (noO s2).trans (same_new hp)
              generalize upd (upd H2 O (.lst ((r.map (·.2)).reverse.map V.ref))) p (.tup xs) = H3 at m' df' s3
              have pt : pureB (.tuple t) = true := m.pu (t, b) (by simp)
              refine ⟨_, rfl, O, _, rfl, .inl (SqL.of m'.l), _, _, rfl, rfl, _, rfl, ?_⟩
              cases r with
              | nil =>
                refine iteF ⟨[], .tuple t, .ref p, _, rfl, s3, m', df', pt, Nat.zero_le _, (fun p h => nomatch h), ?_⟩
                rw [run, rc, st1]
                show (match (if x = [41] then some (([] : List (List PyData)), PyData.tuple t) else _) with | none => PyData.none | some p => runI p.1 p.2 (ws.drop (i + 1))) = _
                rw [if_pos h41]
                rfl
              | cons u r' =>
                obtain ⟨u, c⟩ := u
                have eO3 : H3 O = some (.lst ((r'.map (·.2)).reverse.map V.ref ++ [.ref c])) := by
                  rw [m'.l]
                  show some (HO.lst ((c :: r'.map (·.2)).reverse.map V.ref)) = _
                  rw [List.reverse_cons, List.map_append]
                  rfl
                obtain ⟨us, ec, dl2⟩ := m'.it (u, c) (by simp)
                have ec : H3 c = some (.lst us) := ec
                have lus : u.length = us.length := dl2.length
                have lu : u.length ≤ i := lp (u, c) (by simp)
                rw [decide_eq_true (by simp)]
                obtain ⟨m'', k2⟩ := m'.item ec df' pt
                refine iteT ⟨_, rfl, _, rfl, O, _, _, _, rfl, rfl, SqL.of eO3, atI_last _ _, .inl ⟨rfl, _, SqL.of ec⟩, _, rfl, c, us, .ref p, rfl, rfl, ec, sm (by omega), ?_⟩
                have c0 : H c = none := m.nw (u, c) (by simp)
                refine ⟨(u ++ [.tuple t], c) :: r', .tuple t, .ref p, _, rfl, fun d o e => ?_, m'', df'.tk k2 pt, pt, by simp at ls ⊢; omega, fun p' hp' => ?_, ?_⟩
                · rw [upd_ne (ne_of_none e c0)]
                  exact s3 _ _ e
                · rcases List.mem_cons.mp hp' with rfl | hp'
                  · show (u ++ [PyData.tuple t]).length ≤ i + 1
                    rw [List.length_append, List.length_singleton]
                    omega
                  · have := lp p' (List.mem_cons_of_mem _ (List.mem_cons_of_mem _ hp'))
                    omega
                · rw [run, rc, st1]
                  show (match (if x = [41] then some ((u ++ [PyData.tuple t]) :: r'.map (·.1), PyData.tuple t) else _) with | none => PyData.none | some p => runI p.1 p.2 (ws.drop (i + 1))) = _
                  rw [if_pos h41]
                  rfl
            · rw [decide_eq_false (show V.str (S x) ≠ V.str (Str.ofString ")") from fun e => h41 (V_S.mp (show V.str (S x) = V.str (S [41]) from e)))]
              refine iteF ⟨_, rfl, rfl, _, rfl, ?_⟩
              rw [decide_eq_false (show V.str (S x) ≠ V.str (Str.ofString "") from fun e => h0 (V_S.mp (show V.str (S x) = V.str (S []) from e)))]
              have b0 : H b = none := m.nw (t, b) (by simp)
              have fin : ∀ (H3 : Hp) (v : V), Same H2 H3 → DA [] H3 (itemW x) v → ∃ (st : List (List PyData × Addr)) (fo' : PyData) (vf' : V) (v3 : Option V), [some (.ref a0), some (.ref O), some vf, some (.str (S x))] = [some (.ref a0), some (.ref O), some vf', v3] ∧ Same H (upd H3 b (.lst (xs ++ [v]))) ∧ StAt H O (upd H3 b (.lst (xs ++ [v]))) st ∧ DA [] (upd H3 b (.lst (xs ++ [v]))) fo' vf' ∧ pureB fo' = true ∧ st.length ≤ i + 1 ∧ (∀ p ∈ st, p.1.length ≤ i + 1) ∧ runI [] .none ws = runI (st.map (·.1)) fo' (ws.drop (i + 1)) := fun H3 v s3 dv => by
                have m3 := m.keep s3
                obtain ⟨m', k⟩ := m3.item (s3 _ _ eb) dv (itemW_pure x)
                refine ⟨(t ++ [itemW x], b) :: r, fo, vf, _, rfl, fun d o e => ?_, m', (df.same s3).tk k pf, pf, by simp at ls ⊢; omega, fun p' hp' => ?_, ?_⟩
                · rw [upd_ne (ne_of_none e b0)]
                  exact s3 _ _ (s2 _ _ e)
                · rcases List.mem_cons.mp hp' with rfl | hp'
                  · show (t ++ [itemW x]).length ≤ i + 1
                    rw [List.length_append, List.length_singleton]
                    omega
                  · have := lp p' (List.mem_cons_of_mem _ hp')
                    omega
                · rw [run, rc, st1]
                  show (match (if x = [41] then _ else if x = [] then some (t :: r.map (·.1), fo) else some ((t ++ [itemW x]) :: r.map (·.1), fo)) with | none => PyData.none | some p => runI p.1 p.2 (ws.drop (i + 1))) = _
                  rw [if_neg h41, if_neg h0]
                  rfl
              refine iteT ⟨_, rfl, _, rfl, O, _, _, _, rfl, rfl, SqL.of eO2, atI_last _ _, .inl ⟨rfl, _, SqL.of eb⟩, _, rfl, [], _, .str (S x), rfl, .str _, fit, fun H3 s3 => ⟨_, rfl, ?_⟩⟩
              cases hw : wordB (.str (S x)) with
              | true =>
                refine iteT ⟨_, rfl, b, xs, _, rfl, rfl, s3 _ _ eb, sm (by omega), fin H3 _ s3 ?_⟩
                unfold itemW
                rw [if_pos hw]
                exact .str _
              | false =>
                refine iteF ⟨_, rfl, x, rfl, by omega, fun H4 v s4 iw => ⟨b, xs, _, rfl, rfl, s4 _ _ (s3 _ _ eb), sm (by omega), fin H4 _ (s3.trans s4) ?_⟩⟩
                unfold itemW
                rw [if_neg (by rw [hw]; decide)]
                exact intD_of iw
    · rintro σ H2 ⟨st, fo, vf, v3, rfl, s2, m, df, pf, ls, lp, run⟩
      rw [lw, List.drop_of_length_le (Nat.le_refl _)] at run
      refine ⟨_, rfl, O, _, rfl, .inl (SqL.of m.l), rfl, _, rfl, ?_⟩
      cases st with
      | nil =>
        refine iteT ⟨_, rfl, q _ _ s2 ?_⟩
        rw [run]
        exact df
      | cons p r =>
        rw [decide_eq_false (by intro e; injection e with e; simp at e; omega)]
        refine iteF (q _ _ s2 ?_)
        rw [run]
        exact .non
end
end Wd

set_option Elab.async false
set_option linter.all false
set_option maxRecDepth 100000
set_option maxHeartbeats 4000000
set_option pp.maxSteps 400
set_option pp.deepTerms false
namespace Wd
open PySem L2 TL
open SX (S)

open PySem.Spec PyProof.Rows CwR
/-! ### the words of a text -/
/-- a text with blanks around its parentheses -/
def wide : List Nat → List Nat
  | [] => []
  | c :: r => (if c = 40 then [32, 40, 32] else if c = 41 then [32, 41, 32] else [c]) ++ wide r
theorem wide_app : ∀ (a b : List Nat), wide (a ++ b) = wide a ++ wide b
  | [], b => rfl
  | c :: r, b => by
    show _ ++ wide (r ++ b) = (_ ++ wide r) ++ wide b
    rw [wide_app r b, List.append_assoc]
theorem wide_len : ∀ a : List Nat, (wide a).length ≤ 3 * a.length
  | [] => Nat.le_refl _
  | c :: r => by
    have h := wide_len r
    show (_ ++ wide r).length ≤ 3 * (r.length + 1)
    rw [List.length_append]
    split
    · show 3 + _ ≤ _
      omega
    · split
      · show 3 + _ ≤ _
        omega
      · show 1 + _ ≤ _
        omega
theorem repl_one (c : Nat) (z : List Nat) : ∀ l : List Nat, StrLaws.replL [c] z l = l.flatMap fun x => if x = c then z else [x]
  | [] => StrLaws.replL_nil
  | d :: r => by
    rw [List.flatMap_cons, ← repl_one c z r]
    by_cases h : d = c
    · subst h
      rw [StrLaws.replL_hit (by simp) (by simp), if_pos rfl]
      rfl
    · rw [StrLaws.replL_miss (by simpa using h), if_neg h]
      rfl
theorem wide_two : ∀ l : List Nat, StrLaws.replL [41] [32, 41, 32] (StrLaws.replL [40] [32, 40, 32] l) = wide l
  | [] => by
    rw [StrLaws.replL_nil, StrLaws.replL_nil]
    rfl
  | c :: r => by
    have ih := wide_two r
    rw [repl_one, repl_one] at ih ⊢
    rw [List.flatMap_cons, List.flatMap_append, ih]
    show _ = _ ++ wide r
    by_cases h : c = 40
    · subst h
      rfl
    · rw [if_neg h, if_neg h]
      by_cases h1 : c = 41
      · subst h1
        rfl
      · rw [if_neg h1]
        show ([c].flatMap fun x => if x = 41 then [32, 41, 32] else [x]) ++ _ = _
        rw [List.flatMap_cons, if_neg h1]
        rfl
/-- the words between blanks, those that are not empty -/
def wordsL (l : List Nat) : List (List Nat) := (spl [32] 0 [] l).filter (· != [])
theorem spl_join_app {P R : List (List Nat)} (h1 : P ≠ []) (h2 : R ≠ []) : joinL [32] P ++ 32 :: joinL [32] R = joinL [32] (P ++ R) := by
  induction P with
  | nil => exact absurd rfl h1
  | cons p P ih =>
    cases P with
    | nil =>
      cases R with
      | nil => exact absurd rfl h2
      | cons r R => rfl
    | cons q P =>
      show (p ++ ([32] ++ joinL [32] (q :: P))) ++ _ = p ++ ([32] ++ joinL [32] ((q :: P) ++ R))
      rw [← ih (by simp)]
      simp
/-- every list is its parts, joined -/
theorem parts_of_list : ∀ l : List Nat, ∃ P : List (List Nat), P ≠ [] ∧ (∀ p ∈ P, 32 ∉ p) ∧ l = joinL [32] P
  | [] => ⟨[[]], by simp, by simp, rfl⟩
  | c :: r => by
    obtain ⟨P, h1, h2, h3⟩ := parts_of_list r
    by_cases h : c = 32
    · refine ⟨[] :: P, by simp, fun p hp => ?_, ?_⟩
      · rcases List.mem_cons.mp hp with rfl | hp
        · simp
        · exact h2 p hp
      · rw [h, h3]
        exact spl_join_app (P := [[]]) (by simp) h1
    · cases P with
      | nil => exact absurd rfl h1
      | cons p P =>
        refine ⟨(c :: p) :: P, by simp, fun q hq => ?_, ?_⟩
        · rcases List.mem_cons.mp hq with rfl | hq
          · have := h2 p (by simp)
            simp [Ne.symm h, this]
          · exact h2 q (by simp [hq])
        · rw [h3]
          cases P with
          | nil => rfl
          | cons q P => rfl
theorem wordsL_join {P : List (List Nat)} (h1 : P ≠ []) (h2 : ∀ p ∈ P, 32 ∉ p) : wordsL (joinL [32] P) = P.filter (· != []) := by
  unfold wordsL
  rw [spl_join h1 h2]
theorem wordsL_app (a b : List Nat) : wordsL (a ++ 32 :: b) = wordsL a ++ wordsL b := by
  obtain ⟨P, p1, p2, p3⟩ := parts_of_list a
  obtain ⟨R, r1, r2, r3⟩ := parts_of_list b
  rw [p3, r3, spl_join_app p1 r1, wordsL_join p1 p2, wordsL_join r1 r2, wordsL_join (by simp [p1]) (fun p hp => (List.mem_append.mp hp).elim (p2 p) (r2 p)), List.filter_append]
theorem wordsL_nil : wordsL [] = [] := rfl
theorem wordsL_one {w : List Nat} (h : w ≠ []) (hw : 32 ∉ w) : wordsL w = [w] := by
  have e := wordsL_join (P := [w]) (by simp) (by simpa using hw)
  rw [show joinL [32] [w] = w from rfl] at e
  rw [e, List.filter_cons_of_pos (by simpa using h)]
  rfl
/-! ### words and their text -/
/-- the text of words; the truth says whether a blank is due -/
def jw : Bool → List (List Nat) → List Nat
  | _, [] => []
  | b, w :: ws => (if b = true ∧ w ≠ [41] then [32] else []) ++ (w ++ jw (decide (w ≠ [40])) ws)
/-- a word that is no parenthesis and without any, and without blanks -/
def Plain (w : List Nat) : Prop := w ≠ [] ∧ 32 ∉ w ∧ 40 ∉ w ∧ 41 ∉ w
def Tok8 (w : List Nat) : Prop := w = [40] ∨ w = [41] ∨ Plain w
theorem wide_plain : ∀ {w : List Nat}, 40 ∉ w → 41 ∉ w → wide w = w
  | [], _, _ => rfl
  | c :: r, h1, h2 => by
    have a : c ≠ 40 := fun e => h1 (by simp [e])
    have b : c ≠ 41 := fun e => h2 (by simp [e])
    show (if c = 40 then [32, 40, 32] else if c = 41 then [32, 41, 32] else [c]) ++ wide r = _
    rw [if_neg a, if_neg b, wide_plain (fun e => h1 (by simp [e])) (fun e => h2 (by simp [e]))]
    rfl
/-- behind a word there is nothing, or a blank -/
theorem wide_next : ∀ ws : List (List Nat), (∀ w ∈ ws, Tok8 w) → wide (jw true ws) = [] ∨ ∃ r, wide (jw true ws) = 32 :: r
  | [], _ => .inl rfl
  | w :: ws, h => by
    right
    show ∃ r, wide ((if true = true ∧ w ≠ [41] then [32] else []) ++ (w ++ jw (decide (w ≠ [40])) ws)) = 32 :: r
    by_cases e : w = [41]
    · rw [if_neg (fun q => q.2 e), e]
      exact ⟨_, rfl⟩
    · rw [if_pos ⟨rfl, e⟩]
      exact ⟨_, rfl⟩
theorem words_sep (b : Bool) (w : List Nat) (x : List Nat) : wordsL (wide ((if b = true ∧ w ≠ [41] then [32] else []) ++ x)) = wordsL (wide x) := by
  split
  · show wordsL ([] ++ 32 :: wide x) = _
    rw [wordsL_app]
    rfl
  · rfl
/-- THE READ-BACK: the words of the text of words -/
theorem words_back : ∀ (ws : List (List Nat)) (b : Bool), (∀ w ∈ ws, Tok8 w) → wordsL (wide (jw b ws)) = ws
  | [], _, _ => rfl
  | w :: ws, b, h => by
    have hw := h w (by simp)
    have hs : ∀ v ∈ ws, Tok8 v := fun v hv => h v (by simp [hv])
    show wordsL (wide (_ ++ (w ++ jw (decide (w ≠ [40])) ws))) = _
    rw [words_sep]
    have ih := words_back ws (decide (w ≠ [40])) hs
    rcases hw with e | e | ⟨h1, h2, h3, h4⟩
    · subst e
      show wordsL ([] ++ 32 :: ([40] ++ 32 :: wide (jw (decide (([40] : List Nat) ≠ [40])) ws))) = _
      rw [wordsL_app, wordsL_app, ih]
      rfl
    · subst e
      show wordsL ([] ++ 32 :: ([41] ++ 32 :: wide (jw (decide (([41] : List Nat) ≠ [40])) ws))) = _
      rw [wordsL_app, wordsL_app, ih]
      rfl
    · have n40 : w ≠ [40] := fun e => h3 (by simp [e])
      rw [decide_eq_true n40] at ih ⊢
      rw [wide_app, wide_plain h3 h4]
      rcases wide_next ws hs with e | ⟨r, e⟩
      · rw [e] at ih ⊢
        rw [List.append_nil, wordsL_one h1 h2, ← ih]
        rfl
      · rw [e] at ih ⊢
        rw [wordsL_app, wordsL_one h1 h2]
        have : wordsL (32 :: r) = wordsL r := by
          have := wordsL_app [] r
          exact this
        rw [this] at ih
        rw [ih]
        rfl
/-! ### units: words that stand together -/
def Unit8 (u : List (List Nat)) (x : List Nat) : Prop := ∀ (b : Bool) (rest : List (List Nat)), jw b (u ++ rest) = (if b = true then [32] else []) ++ (x ++ jw true rest)
theorem unit_word {w : List Nat} (h : Plain w) : Unit8 [w] w := fun b rest => by
  have n40 : w ≠ [40] := fun e => h.2.2.1 (by simp [e])
  have n41 : w ≠ [41] := fun e => h.2.2.2 (by simp [e])
  show (if b = true ∧ w ≠ [41] then [32] else []) ++ (w ++ jw (decide (w ≠ [40])) rest) = _
  rw [decide_eq_true n40]
  cases b with
  | true => rw [if_pos ⟨rfl, n41⟩, if_pos rfl]
  | false => rw [if_neg (fun q => Bool.noConfusion q.1), if_neg Bool.false_ne_true]
theorem units_join : ∀ {us : List (List (List Nat))} {xs : List (List Nat)}, Paired Unit8 us xs → xs ≠ [] → ∀ rest, jw false (us.flatten ++ rest) = joinL [32] xs ++ jw true rest
  | _, _, .nil, h, _ => absurd rfl h
  | _, _, @Paired.cons _ _ _ u x us xs hu hs, _, rest => by
    rw [List.flatten_cons, List.append_assoc, hu false, if_neg Bool.false_ne_true, List.nil_append]
    have more : ∀ {us : List (List (List Nat))} {xs : List (List Nat)}, Paired Unit8 us xs → ∀ x, x ++ jw true (us.flatten ++ rest) = joinL [32] (x :: xs) ++ jw true rest := by
      intro us xs h
      induction h with
      | nil => intro x; rfl
      | @cons u y us ys hu hs ih =>
        intro x
        rw [List.flatten_cons, List.append_assoc, hu true, if_pos rfl, ih y]
        show _ = (x ++ ([32] ++ joinL [32] (y :: ys))) ++ _
        rw [List.append_assoc, List.append_assoc]
    exact more hs x
/-- words in parentheses -/
theorem unit_par {us : List (List (List Nat))} {xs : List (List Nat)} (h : Paired Unit8 us xs) (ne : xs ≠ []) : Unit8 ([40] :: (us.flatten ++ [[41]])) ([40] ++ (joinL [32] xs ++ [41])) := fun b rest => by
  show (if b = true ∧ ([40] : List Nat) ≠ [41] then [32] else []) ++ ([40] ++ jw (decide (([40] : List Nat) ≠ [40])) ((us.flatten ++ [[41]]) ++ rest)) = _
  rw [show (decide (([40] : List Nat) ≠ [40])) = false by decide, List.append_assoc, units_join h ne]
  show _ ++ ([40] ++ (joinL [32] xs ++ ((if true = true ∧ ([41] : List Nat) ≠ [41] then [32] else []) ++ ([41] ++ jw (decide (([41] : List Nat) ≠ [40])) rest)))) = _
  rw [show (decide (([41] : List Nat) ≠ [40])) = true by decide, if_neg (show ¬ (true = true ∧ ([41] : List Nat) ≠ [41]) from fun q => q.2 rfl)]
  cases b with
  | true =>
    rw [if_pos ⟨rfl, by decide⟩, if_pos rfl]
    simp
  | false =>
    rw [if_neg (fun q => Bool.noConfusion q.1), if_neg Bool.false_ne_true]
    simp
def tSplitC (to : TE) (b : Str) : TE := fun σ H Q => to σ H fun v H1 => ∃ a, v = .str a ∧ a.length + 2 ≤ sizeLine ∧ ∀ p, H1 p = none → Q (.ref p) (upd H1 p (.lst ((Txt.split a b).map V.str)))
/-- e.split(..) of a written text, where e wants a token -/
theorem pet_split {X : Cx} {o : Expr} {to : TE} {b : Str} {j : Nat} {c0 apos pos : Pos} (ho : PET X o to) (hb : (b.length == 0) = false := by decide)
    (hst : starEach [.Constant (.str b) j c0] X.env = [(false, eval (.Constant (.str b) j c0) X.env)] := by rfl)
    (hbase : attributeBase o "split" X.env (eval o X.env) = eval o X.env := by rfl) (hline : (apos.endLine == pos.line) = true := by rfl) :
    PET X (.Call (.Attribute o "split" apos) [.Constant (.str b) j c0] [] pos) (tSplitC to b) := by
  intro pins s σ H Q h0 I h
  refine PySem.Call_method1 hbase hst hline (thn (ho pins s σ H _ h0 I h) fun v s1 ⟨x, H1, I1, r1, a, e, hz, q⟩ => ?_)
  subst e
  obtain ⟨t, e⟩ := r1
  subst e
  refine ⟨"str", _, PySem.F.plainAttrs_str, PySem.F.slot_str_split, PySem.F.type_str_split, typeIs_str _ _ _, (fun _ e => nomatch e), Calls.callWith_builtin rfl (Calls.evalArgs_plain (Calls.spliced_cons (Calls.Constant_str (Calls.spliced_nil ?_))))⟩
  exact mt_split pins _ σ H1 (.str a) [.str b] _ _ Q (I1.tok _) ⟨t, rfl⟩ (.cons ⟨_, rfl⟩ .nil) ⟨a, b, rfl, rfl, hb, hz, q⟩
theorem split_words {x : List Nat} : ((Txt.split (S x) (S [32])).filter (· != S [])) = (wordsL x).map S := by
  rw [SX.split_S (by simp) (by decide)]
  unfold wordsL
  rw [List.filter_map]
  congr 1
  refine List.filter_congr fun p _ => ?_
  show (S p != S []) = (p != [])
  unfold bne
  rw [SX.S_beq]
theorem wide_repl (x : List Nat) : Txt.replace (Txt.replace (S x) (S [40]) (S [32, 40, 32])) (S [41]) (S [32, 41, 32]) = S (wide x) := by
  refine TL.ext_tl ?_
  show (Txt.replace _ _ _).cps.toList = wide x
  rw [StrLaws.replace_list (by decide), StrLaws.replace_list (by decide)]
  exact wide_two x
theorem repl_len (x : List Nat) : (Txt.replace (S x) (S [40]) (S [32, 40, 32])).length ≤ 4 * x.length + 3 := by
  have h := TK.replace_len (S x) (S [40]) (S [32, 40, 32])
  have a : (S x).length = x.length := SX.S_len x
  have b : (S [32, 40, 32]).length = 3 := rfl
  rw [a, b] at h
  omega
theorem pst_set {X : Cx} {i : Nat} {x : Str} {e : Expr} {te : TE} {pos pos' : Pos} (hN : X.N.Nodup) (hi : X.N[i]? = some x) (hx : Loc X.env.scope x) (he : PET X e te) (hs : swapsWith e (some (.Name x pos')) pos.line X.env = pure false := by rfl) (hf : X.fn x = true ∨ X.env.scope.names.lookup x = some .local := by first | exact .inl rfl | exact .inr rfl | assumption) :
    PST X (.Assign [.Name x pos'] e pos) (tAsg te (gName i)) := by
  intro pins s σ H D h0 I h
  refine wpAny_Assign_Name (thn (he pins s σ H _ h0 I h) fun v s1 ⟨y, H1, I1, r1, q1⟩ => ?_) hs
  exact store_ok I1 hN hi hx r1 (fun s2 I2 => ⟨_, H1, I2, q1⟩) hf

/-- f(..) of one written argument that wants a token -/
theorem pet_call {X : Cx} {CX : CXT} {k : Nat} {f : Addr} {fd : FuncData} {ps : List Str} {sp : Sp} {dvs : List V} {ds : List Value} {E : XK} {x : Str} {p pos : Pos} {e : Expr} {es : List Expr} {t : TA} (F : FnOk X.prog X.w X.K X.mg X.base CX k f fd ps sp) (hr : Room k X.A) (hg : Gl X x) (hm : X.mg x = some (.ref f)) (hk : PySem.W.keepIn X.K (.ref f) = true) (hb : Binds X.K fd ps ds) (hd : Vals dvs ds) (hx : Passes CX X E)
    (ha : PAT X (e :: es) t) (hdb : (x == ("__debug__" : Str)) = false := by decide) (he : starEach (e :: es) X.env = (false, eval e X.env) :: starEach es X.env := by rfl) (hpl : (backTo pos (starEach es X.env)).any (·.1) = false := by rfl) :
    PET X (.Call (.Name x p) (e :: es) [] pos) (tCall sp dvs E t) := by
  intro pins s σ H Q h0 I h
  refine wpAny_Call_Name_kw (ld_glob I hg hm ?_ hdb)
  refine PySem.W.callWith_K (h₀ := X.base) I.ok.mod.kin hk (thn (ha pos pins s σ H _ h0 I h) fun us s1 ⟨vs, H1, I1, r, q⟩ => ⟨I1.kIn, ?_⟩) he hpl
  exact run_fn F hr hb hd hx I1 r q
end Wd

set_option Elab.async false
set_option linter.all false
set_option maxRecDepth 100000
set_option maxHeartbeats 4000000
set_option pp.maxSteps 400
set_option pp.deepTerms false
namespace Wd
open PySem L2 TL
open SX (S)

open PySem.Spec PyProof.Rows CwR
/-! ### items written and read again -/
mutual
/-- the words of an item -/
def itemWs : PyData → List (List Nat)
  | .tuple ds => [40] :: (itemWL ds ++ [[41]])
  | .none => [[45]]
  | .str z => [tl z]
  | .int i => [intL i]
  | .bool _ => [[]]
  | .list _ => [[]]
  | .dict _ => [[]]
def itemWL : List PyData → List (List Nat)
  | [] => []
  | d :: ds => itemWs d ++ itemWL ds
end
theorem itemWL_flat : ∀ ds : List PyData, itemWL ds = (ds.map itemWs).flatten
  | [] => rfl
  | d :: ds => by
    show itemWs d ++ itemWL ds = _
    rw [itemWL_flat ds]
    rfl
theorem plain_word {z : Str} (h : wordB (.str z) = true) : Plain (tl z) ∧ wordB (.str (S (tl z))) = true := by
  have e : S (tl z) = z := SX.S_tl z
  refine ⟨?_, by rw [e]; exact h⟩
  have h : (decide (z.cps.toList ≠ []) && z.cps.toList.all lowB) = true := h
  rw [Bool.and_eq_true, decide_eq_true_eq, all_low] at h
  refine ⟨h.1, fun q => ?_, fun q => ?_, fun q => ?_⟩ <;> · have := (h.2 _ q).1; omega
theorem plain_int {i : Int} (h1 : -ten60 < i) (h2 : i < ten60) : Plain (intL i) := by
  obtain ⟨cs, h, dg, l1, _⟩ := intL_dig h1 h2
  have sg : ∀ c ∈ intL i, c = 45 ∨ 48 ≤ c := fun c hc => by
    rcases h with e | e
    · rw [e] at hc
      exact .inr (dg c hc).1
    · rw [e] at hc
      rcases List.mem_cons.mp hc with rfl | hc
      · exact .inl rfl
      · exact .inr (dg c hc).1
  refine ⟨fun e => ?_, fun q => ?_, fun q => ?_, fun q => ?_⟩
  · rcases h with h | h
    · rw [e] at h
      rw [← h] at l1
      exact absurd l1 (by decide)
    · rw [e] at h
      cases h
  all_goals · have := sg _ q; omega
theorem int_noword {i : Int} (h1 : -ten60 < i) (h2 : i < ten60) : wordB (.str (S (intL i))) = false := by
  cases hw : wordB (.str (S (intL i))) with
  | false => rfl
  | true =>
    have hw : (decide ((intL i) ≠ []) && (intL i).all lowB) = true := hw
    rw [Bool.and_eq_true, all_low] at hw
    obtain ⟨cs, h, dg, l1, _⟩ := intL_dig h1 h2
    have : ∃ c ∈ cs, True := by
      cases cs with
      | nil => exact absurd l1 (by decide)
      | cons c r => exact ⟨c, by simp, trivial⟩
    obtain ⟨c, hc, _⟩ := this
    have hm : c ∈ intL i := by
      rcases h with h | h <;> rw [h]
      · exact hc
      · exact List.mem_cons_of_mem _ hc
    have a := (hw.2 c hm).1
    have b := (dg c hc).2
    omega
theorem itemW_int {i : Int} (h1 : -ten60 < i) (h2 : i < ten60) : itemW (intL i) = .int i := by
  unfold itemW
  rw [int_noword h1 h2, if_neg (by decide)]
  unfold intD
  rw [int_back h1 h2]
  show (if intL i = intL i ∧ -ten60 < i ∧ i < ten60 then PyData.int i else .none) = _
  rw [if_pos ⟨rfl, h1, h2⟩]
theorem itemW_no : itemW [45] = .none := by
  unfold itemW
  rw [if_neg (by decide)]
  unfold intD
  split
  · rename_i i _
    rw [if_neg]
    rintro ⟨e, h1, h2⟩
    obtain ⟨cs, h, dg, l1, _⟩ := intL_dig h1 h2
    rw [← e] at h
    rcases h with h | h
    · subst h
      have := (dg 45 (by simp)).1
      omega
    · cases cs with
      | nil => exact absurd l1 (by decide)
      | cons c r => cases h
  · rfl
theorem itemW_word {z : Str} (h : wordB (.str z) = true) : itemW (tl z) = .str z := by
  unfold itemW
  rw [if_pos (plain_word h).2, show S (tl z) = z from SX.S_tl z]
/-- an item without parts -/
theorem flat_item {d : PyData} (no : ∀ ds, d ≠ .tuple ds) {k : Nat} (h : itemB k d = true) : itemWs d = [itemT d] ∧ Plain (itemT d) ∧ itemW (itemT d) = d := by
  by_cases hn : d = .none
  · subst hn
    exact ⟨rfl, ⟨by decide, by decide, by decide, by decide⟩, itemW_no⟩
  · rw [itemB_no no hn, Bool.or_eq_true] at h
    cases d with
    | str z =>
      have h : wordB (.str z) = true := h.elim id fun z => nomatch z
      exact ⟨rfl, (plain_word h).1, itemW_word h⟩
    | int i =>
      have hi : (decide (-ten60 < i) && decide (i < ten60)) = true := h.elim (fun z => nomatch z) id
      rw [Bool.and_eq_true, decide_eq_true_eq, decide_eq_true_eq] at hi
      exact ⟨rfl, plain_int hi.1 hi.2, itemW_int hi.1 hi.2⟩
    | none => exact absurd rfl hn
    | tuple ds => exact absurd rfl (no ds)
    | bool b => exact (h.elim (fun z => nomatch z) fun z => nomatch z)
    | list ds => exact (h.elim (fun z => nomatch z) fun z => nomatch z)
    | dict ds => exact (h.elim (fun z => nomatch z) fun z => nomatch z)
theorem itemB_parts {k : Nat} {ds : List PyData} (h : itemB k (.tuple ds) = true) : ∀ d ∈ ds, itemB (k - 1) d = true := by
  rw [itemB_tup, Bool.and_eq_true] at h
  exact List.all_eq_true.mp h.2
theorem no_parts {d : PyData} : (∃ ds, d = .tuple ds) ∨ ∀ ds, d ≠ .tuple ds := by
  cases d with
  | tuple ds => exact .inl ⟨ds, rfl⟩
  | _ => exact .inr fun ds e => nomatch e
theorem unit_empty : Unit8 [[40], [41]] [40, 41] := fun b rest => by
  cases b <;> rfl
theorem item_unit : ∀ (k : Nat) {d : PyData}, itemB k d = true → Unit8 (itemWs d) (itemT d)
  | k, d, h => by
    rcases no_parts (d := d) with ⟨ds, rfl⟩ | no
    · have hb := itemB_parts h
      have hk : 0 < k := by
        rw [itemB_tup, Bool.and_eq_true, decide_eq_true_eq] at h
        exact h.1
      show Unit8 ([40] :: (itemWL ds ++ [[41]])) _
      rw [itemWL_flat, itemT_tup]
      have pr : ∀ {es : List PyData}, (∀ d ∈ es, itemB (k - 1) d = true) → Paired Unit8 (es.map itemWs) (es.map itemT) := by
        intro es
        induction es with
        | nil => exact fun _ => .nil
        | cons e es ih => exact fun h => .cons (item_unit (k - 1) (h e (by simp))) (ih fun x hx => h x (by simp [hx]))
      cases ds with
      | nil => exact unit_empty
      | cons e es => exact unit_par (pr hb) (by simp)
    · obtain ⟨a, b, _⟩ := flat_item no h
      rw [a]
      exact unit_word b
termination_by k => k
theorem item_tok : ∀ (k : Nat) {d : PyData}, itemB k d = true → ∀ w ∈ itemWs d, Tok8 w ∧ w.length ≤ (itemT d).length
  | k, d, h => by
    rcases no_parts (d := d) with ⟨ds, rfl⟩ | no
    · have hb := itemB_parts h
      have hk : 0 < k := by
        rw [itemB_tup, Bool.and_eq_true, decide_eq_true_eq] at h
        exact h.1
      intro w hw
      have hw : w ∈ [40] :: (itemWL ds ++ [[41]]) := hw
      rw [itemT_tup, List.length_cons, List.length_append, List.length_singleton]
      rw [itemWL_flat] at hw
      rcases List.mem_cons.mp hw with rfl | hw
      · exact ⟨.inl rfl, by show 1 ≤ _; omega⟩
      · rcases List.mem_append.mp hw with hw | hw
        · obtain ⟨l, hl, hw⟩ := List.mem_flatten.mp hw
          obtain ⟨e, he, rfl⟩ := List.mem_map.mp hl
          have z := item_tok (k - 1) (hb e he) w hw
          have y := join_ge (s := 32) (itemT e) (List.mem_map_of_mem (f := itemT) he)
          exact ⟨z.1, by omega⟩
        · rw [List.mem_singleton.mp hw]
          exact ⟨.inr (.inl rfl), by show 1 ≤ _; omega⟩
    · obtain ⟨a, b, _⟩ := flat_item no h
      rw [a]
      intro w hw
      rw [List.mem_singleton.mp hw]
      exact ⟨.inr (.inr b), Nat.le_refl _⟩
termination_by k => k
/-- how the words of an item are read -/
theorem item_run : ∀ (k : Nat) {d : PyData}, itemB k d = true → ∀ (t : List PyData) (r : List (List PyData)) (f : PyData) (rest : List (List Nat)), ∃ f', runI (t :: r) f (itemWs d ++ rest) = runI ((t ++ [d]) :: r) f' rest
  | k, d, h => by
    rcases no_parts (d := d) with ⟨ds, rfl⟩ | no
    · have hb := itemB_parts h
      have hk : 0 < k := by
        rw [itemB_tup, Bool.and_eq_true, decide_eq_true_eq] at h
        exact h.1
      intro t r f rest
      have many : ∀ (es : List PyData), (∀ d ∈ es, itemB (k - 1) d = true) → ∀ (t : List PyData) (r : List (List PyData)) (f : PyData) (rest : List (List Nat)), ∃ f', runI (t :: r) f (itemWL es ++ rest) = runI ((t ++ es) :: r) f' rest := by
        intro es
        induction es with
        | nil => exact fun _ t r f rest => ⟨f, by rw [List.append_nil]; rfl⟩
        | cons e es ih =>
          intro h t r f rest
          show ∃ f', runI (t :: r) f ((itemWs e ++ itemWL es) ++ rest) = _
          rw [List.append_assoc]
          obtain ⟨f1, e1⟩ := item_run (k - 1) (h e (by simp)) t r f (itemWL es ++ rest)
          obtain ⟨f2, e2⟩ := ih (fun x hx => h x (by simp [hx])) (t ++ [e]) r f1 rest
          refine ⟨f2, ?_⟩
          rw [e1, e2, List.append_assoc]
          rfl
      obtain ⟨f', e⟩ := many ds hb [] (t :: r) f ([41] :: rest)
      refine ⟨.tuple ds, ?_⟩
      show runI (t :: r) f (([40] :: (itemWL ds ++ [[41]])) ++ rest) = _
      rw [show ([40] :: (itemWL ds ++ [[41]])) ++ rest = [40] :: (itemWL ds ++ ([41] :: rest)) from by simp]
      show runI ([] :: t :: r) f (itemWL ds ++ ([41] :: rest)) = _
      rw [e, List.nil_append]
      rfl
    · obtain ⟨a, ⟨p0, p1, p2, p3⟩, b⟩ := flat_item no h
      intro t r f rest
      rw [a]
      refine ⟨f, ?_⟩
      have n40 : itemT d ≠ [40] := fun e => p2 (by rw [e]; simp)
      have n41 : itemT d ≠ [41] := fun e => p3 (by rw [e]; simp)
      have st : stepI (t :: r) f (itemT d) = some ((t ++ [d]) :: r, f) := by
        unfold stepI
        rw [if_neg n40]
        show (if itemT d = [41] then _ else if itemT d = [] then _ else some ((t ++ [itemW (itemT d)]) :: r, f)) = _
        rw [if_neg n41, if_neg p0, b]
      show (match stepI (t :: r) f (itemT d) with | none => PyData.none | some p => runI p.1 p.2 rest) = _
      rw [st]
termination_by k => k
theorem run_skip : ∀ (ws : List (List Nat)) (st : List (List PyData)) (f : PyData), runI st f ws = runI st f (ws.filter (· != []))
  | [], _, _ => rfl
  | w :: ws, st, f => by
    by_cases h : w = []
    · subst h
      rw [List.filter_cons_of_neg (by simp)]
      rw [← run_skip ws]
      show (match stepI st f [] with | none => PyData.none | some p => runI p.1 p.2 ws) = _
      cases st <;> rfl
    · rw [List.filter_cons_of_pos (by simpa using h)]
      show (match stepI st f w with | none => PyData.none | some p => runI p.1 p.2 ws) = match stepI st f w with | none => PyData.none | some p => runI p.1 p.2 _
      cases stepI st f w with
      | none => rfl
      | some p => exact run_skip ws _ _
/-- what a text says -/
def readI (x : List Nat) : PyData := runI [] .none (spl [32] 0 [] (wide x))
theorem read_words {k : Nat} {d : PyData} (h : itemB k d = true) : wordsL (wide (itemT d)) = itemWs d := by
  have u := item_unit k h false []
  rw [List.append_nil, if_neg (by decide), List.nil_append, show jw true [] = ([] : List Nat) from rfl, List.append_nil] at u
  rw [← u]
  exact words_back _ _ fun w hw => (item_tok k h w hw).1
theorem read_item {k : Nat} {ds : List PyData} (h : itemB k (.tuple ds) = true) : readI (itemT (.tuple ds)) = .tuple ds := by
  unfold readI
  rw [run_skip]
  show runI [] .none (wordsL (wide (itemT (.tuple ds)))) = _
  rw [read_words h]
  show runI [[]] .none (itemWL ds ++ [[41]]) = _
  have hb := itemB_parts h
  have many : ∀ (es : List PyData), (∀ d ∈ es, itemB (k - 1) d = true) → ∀ (t : List PyData) (r : List (List PyData)) (f : PyData) (rest : List (List Nat)), ∃ f', runI (t :: r) f (itemWL es ++ rest) = runI ((t ++ es) :: r) f' rest := by
    intro es
    induction es with
    | nil => exact fun _ t r f rest => ⟨f, by rw [List.append_nil]; rfl⟩
    | cons e es ih =>
      intro h t r f rest
      show ∃ f', runI (t :: r) f ((itemWs e ++ itemWL es) ++ rest) = _
      rw [List.append_assoc]
      obtain ⟨f1, e1⟩ := item_run (k - 1) (h e (by simp)) t r f (itemWL es ++ rest)
      obtain ⟨f2, e2⟩ := ih (fun x hx => h x (by simp [hx])) (t ++ [e]) r f1 rest
      refine ⟨f2, ?_⟩
      rw [e1, e2, List.append_assoc]
      rfl
  obtain ⟨f', e⟩ := many ds hb [] [] .none [[41]]
  rw [e]
  rfl
theorem stand_item {d : PyData} (h : standB d = true) : itemB 20 d = true ∧ ∃ ds, d = .tuple ds := by
  rcases no_parts (d := d) with ⟨ds, rfl⟩ | no
  · refine ⟨?_, _, rfl⟩
    have h4 : ds.length = 4 := by
      by_cases h4 : ds.length = 4
      · exact h4
      · rw [standB_four h4] at h
        cases h
    have hin : ∀ {d : PyData}, intB d = true → ∀ k, itemB k d = true := fun {d} h k => by
      cases d with
      | int i =>
        rw [itemB_no (d := .int i) (fun ds e => (by cases e)) (fun e => (by cases e)), h, Bool.or_true]
      | _ => cases h
    match ds, h4 with
    | [a, b, c, r], _ =>
      have h : (itemB 19 a && (itemB 19 b && (intsB c && rowsB r))) = true := h
      rw [Bool.and_eq_true, Bool.and_eq_true, Bool.and_eq_true] at h
      obtain ⟨h1, h2, h3, h4⟩ := h
      rw [itemB_tup, Bool.and_eq_true, decide_eq_true_eq]
      refine ⟨by decide, List.all_eq_true.mpr fun x hx => ?_⟩
      have hx : x = a ∨ x = b ∨ x = c ∨ x = r := by simpa using hx
      rcases hx with rfl | rfl | rfl | rfl
      · exact h1
      · exact h2
      · cases x with
        | tuple es =>
          have h3 : es.all intB = true := h3
          rw [itemB_tup, Bool.and_eq_true, decide_eq_true_eq]
          exact ⟨by decide, List.all_eq_true.mpr fun y hy => hin (List.all_eq_true.mp h3 y hy) _⟩
        | _ => cases h3
      · cases x with
        | tuple es =>
          have h4 : (decide (1 ≤ es.length) && (decide (es.length ≤ 13) && es.all (areB (es.length : Nat)))) = true := h4
          rw [Bool.and_eq_true, Bool.and_eq_true] at h4
          rw [itemB_tup, Bool.and_eq_true, decide_eq_true_eq]
          refine ⟨by decide, List.all_eq_true.mpr fun y hy => ?_⟩
          have hr := List.all_eq_true.mp h4.2.2 y hy
          cases y with
          | tuple gs =>
            have hr : (decide ((gs.length : Int) = _) && gs.all intB) = true := hr
            rw [Bool.and_eq_true] at hr
            rw [itemB_tup, Bool.and_eq_true, decide_eq_true_eq]
            exact ⟨by decide, List.all_eq_true.mpr fun y hy => hin (List.all_eq_true.mp hr.2 y hy) _⟩
          | _ => cases hr
        | _ => cases h4
  · cases d with
    | tuple ds => exact absurd rfl (no ds)
    | _ => cases h
theorem read_stand {d : PyData} (h : standB d = true) : readI (itemT d) = d := by
  obtain ⟨a, ds, rfl⟩ := stand_item h
  exact read_item a
end Wd

set_option Elab.async false
set_option linter.all false
set_option maxRecDepth 100000
set_option maxHeartbeats 4000000
set_option pp.maxSteps 400
set_option pp.deepTerms false
namespace Wd
open PySem L2 TL
open SX (S)

open PySem.Spec PyProof.Rows CwR
/-! ### stands in texts -/
def standD (x : List Nat) : PyData := if (standB (readI x) && decide (itemT (readI x) = x)) = true then readI x else .none
/-- a text of which the parts are not too long -/
structure TextOk (x : List Nat) : Prop where
  l : x.length ≤ 320000
  w : ∀ p ∈ spl [32] 0 [] (wide x), p.length ≤ 390000 ∧ PyData.strOk (S p) = true
  f : fitB 400000 (readI x) = true
  t : (itemT (readI x)).length ≤ 1000000
def spStandOf : Sp := fun vs H Q _ => ∃ x : List Nat, vs = [.str (S x)] ∧ TextOk x ∧ ∀ H' v, Same H H' → DA [] H' (standD x) v → Q v H'
section
variable {P : Program} {w : World} {K : PySem.W.Frag} {mg : Str → Option Value} {base : Heap} {fO fT fG : Addr} {dO dT dG : FuncData}
abbrev nSOf : List Str := ["text", "value"]
theorem scSOf : FnScope nSOf ["text"] (defScope sStandOf) := ⟨rfl, rfl, rfl, by decide +kernel, rfl, by decide +kernel, by decide +kernel⟩
theorem ok_stand_of {f : Addr} {fd : FuncData} (F : Fun K "stand_of" "stand_of" sStandOf f fd) (O : At P w K mg base 3 "item_of" fO dO ["words"] spItemOf) (T : At P w K mg base 24 "has_stand_form" fT dT ["value"] (spB standB)) (G : At P w K mg base 22 "item_text" fG dG ["value"] (spIText 21)) : FnOk P w K mg base CX0 25 f fd ["text"] spStandOf := by
  obtain ⟨oc, od, kV, doc, pm, an, cdv, ct, osl, rfl, lk, hcd⟩ := F.ex
  refine fn_ofT lk hcd scSOf (by decide +kernel) (by decide) (fun vs H Q E h => ?_) (fun A outer s H vs Q E hr h => ?_)
  · obtain ⟨x, rfl, _⟩ := h
    rfl
  · obtain ⟨x, rfl, ok, q⟩ := h
    have nd := scSOf.nd
    have hr3 : Room 3 _ := hr.mono (by decide)
    have hr22 : Room 22 _ := hr.mono (by decide)
    refine ⟨_, psst_cons (pst_set (i := 1) nd rfl (Or.inl rfl) (pet_call O.g hr3 rfl O.m O.kp O.b .nil pass0 (pat_cons (pet_split (pet_replT (pet_replC (pv 0)))) pat_nil))) (PSsT.of (pss_one (ps_ret (pe_ifExp (PW.pt (pw_and (pt_val (pe_call T.g hr rfl T.m T.kp T.b .nil pass0 (pa_cons (pv 1) pa_nil))) (pw_and1 (pt_cmpR op_eq (pe_call G.g hr22 rfl G.m G.kp G.b .nil pass0 (pa_cons (pv 1) pa_nil)) (pv 0) (nomark _))))) (pv 1) pe_non)))), ?_⟩
    have lx := ok.l
    have l1 := repl_len x
    have ln : (S x).length = x.length := SX.S_len x
    have w3 := wide_len x
    have big : (16777216 : Nat) ≤ sizeLine := by decide
    refine ⟨_, rfl, S x, rfl, ?_, _, rfl, ?_, ?_⟩
    · show (S x).length + ((S x).length + 1) * 3 ≤ _
      omega
    · show (Txt.replace (S x) (S [40]) (S [32, 40, 32])).length + ((Txt.replace (S x) (S [40]) (S [32, 40, 32])).length + 1) * 3 ≤ _
      omega
    have ew : Txt.replace (Txt.replace (S x) (Str.ofString "(") (Str.ofString " ( ")) (Str.ofString ")") (Str.ofString " ) ") = S (wide x) := wide_repl x
    rw [ew]
    have sp : Txt.split (S (wide x)) (S [32]) = (spl [32] 0 [] (wide x)).map S := by rw [SX.split_S (by simp) (by decide)]
    have lsp : (spl [32] 0 [] (wide x)).length ≤ 1000000 := by
      obtain ⟨P, h1, h2, h3⟩ := parts_of_list (wide x)
      have z := join_sum (s := 32) (xs := P)
      rw [← h3] at z
      rw [h3, spl_join h1 h2]
      omega
    refine ⟨_, rfl, (by rw [SX.S_len]; omega), fun p hp => ?_⟩
    have s1 := same_new (o := .lst ((Txt.split (S (wide x)) (S [32])).map V.str)) hp
    have e1 : (upd H p (.lst ((Txt.split (S (wide x)) (S [32])).map V.str))) p = some (.lst (wV (spl [32] 0 [] (wide x)))) := by
      rw [upd_same, sp, wV_eq]
    show _
    have e1' : (upd H p (.lst ((Txt.split (S (wide x)) (Str.ofString " ")).map V.str))) p = some (.lst (wV (spl [32] 0 [] (wide x)))) := e1
    have s1' : Same H (upd H p (.lst ((Txt.split (S (wide x)) (Str.ofString " ")).map V.str))) := s1
    generalize upd H p (.lst ((Txt.split (S (wide x)) (Str.ofString " ")).map V.str)) = H1 at e1' s1' ⊢
    refine ⟨p, spl [32] 0 [] (wide x), rfl, e1', lsp, ok.w, fun H2 v s2 dv => ?_⟩
    have s2 := s1'.trans s2
    have dv : DA [] H2 (readI x) v := dv
    refine ⟨_, rfl, [], v, readI x, rfl, dv, ok.f, fun H3 s3 => ⟨_, rfl, ?_⟩⟩
    unfold standD at q
    cases hb : standB (readI x) with
    | false =>
      rw [hb, Bool.false_and, if_neg (by decide)] at q
      exact iteF (q _ _ (s2.trans s3) .non)
    | true =>
      rw [hb, Bool.true_and] at q
      refine iteT ⟨_, rfl, [], v, readI x, 20, by decide, rfl, dv.same s3, ok.f, (stand_item hb).1, ok.t, fun H4 s4 => ?_⟩
      refine ⟨_, rfl, rfl, _, rfl, ?_⟩
      have s4 := (s2.trans s3).trans s4
      by_cases hx : itemT (readI x) = x
      · rw [decide_eq_true (show V.str (S (itemT (readI x))) = V.str (S x) from by rw [hx])]
        rw [decide_eq_true hx, if_pos rfl] at q
        exact iteT ⟨_, rfl, q _ _ s4 (dv.same (s3.trans ‹_›))⟩
      · rw [decide_eq_false (show V.str (S (itemT (readI x))) ≠ V.str (S x) from fun e => hx (V_S.mp e))]
        rw [decide_eq_false hx, if_neg (by decide)] at q
        exact iteF (q _ _ s4 .non)
end
end Wd

set_option Elab.async false
set_option linter.all false
set_option maxRecDepth 100000
set_option maxHeartbeats 4000000
/-! An own exception class whose base's new and init come from two built-in classes (KeyError has LookupError's new and an init of its own); also all that have both from one. -/
namespace Ek
open PySem PySem.W PySem.Calls PyProof.Rows PySem.HandSPX
open PySem.Builtin PySem.Builtin.ObjectAttr
/-- the init of the built-in class B -/
structure InitF (B initId : String) : Prop where
  slot : Slot B "__init__" initId
  entry : entryFor table initId = some Builtin.«BaseException.__init__»
  split : splitId initId = some (B, "__init__")
  kind : builtinKind initId = some .slot
  row : Manifest.signature? initId = some ⟨.positional, "*", B, .self, [⟨"args", .varPos, false⟩]⟩
  star : (B != "*") = true
theorem InitF.of {B n i : String} (F : ExcCallFacts B n i) : InitF B i :=
  ⟨F.init, F.initEntry, F.initSplit, F.initKind, F.initRow, F.noStar⟩
theorem initKey : InitF "KeyError" "KeyError.__init__" where
  slot := .of (owner := "KeyError") (n := "__init__")
    (by rw [typeLookup_type, builtinLookup_eq_fast]; kernel_rfl)
    (by decide +kernel) (by decide +kernel) (by decide +kernel)
    (by first | exact .inr (by decide +kernel) | exact .inl (by decide +kernel))
    (by rw [isSubtype_type]; kernel_rfl)
  entry := entryFor_alias (id' := "BaseException.__init__")
    (by rw [fastTable_eq_tree]; kernel_rfl)
    (by first | rfl | decide +kernel) (by decide +kernel)
    (by rw [fastTable_eq_tree]; kernel_rfl)
  split := by kernel_rfl
  kind := by kernel_rfl
  row := by kernel_rfl
  star := by decide +kernel
abbrev kTail : List Value := [.type "KeyError", .type "LookupError", .type "Exception", .type "BaseException", .type "object"]
theorem storeKey : StoreFacts "KeyError" kTail "object.__setattr__" "object" where
  mro := by kernel_rfl
  slot := .of (owner := "object") (n := "__setattr__")
    (by rw [typeLookup_type, builtinLookup_eq_fast]; kernel_rfl)
    (by decide +kernel) (by decide +kernel) (by decide +kernel)
    (by first | exact .inr (by decide +kernel) | exact .inl (by decide +kernel))
    (by rw [isSubtype_type]; kernel_rfl)
  entry := F.entry_object_sa
  kind := by decide +kernel
  split := by decide +kernel
  hasOwner := by decide +kernel
  args := fun a b c => by unfold argsOk; kernel_rfl
  passes := fun _ => by kernel_rfl
/-- what the bases of the class are: one has the new, one the init; none is of the two that ask for more -/
structure Above (bm : List Value) (BN BI : String) : Prop where
  n : bm.contains (.type BN) = true
  i : bm.contains (.type BI) = true
  a : bm.contains (.type "AttributeError") = false
  u : bm.contains (.type "NameError") = false
section
variable {M : Model} {A : Around} {E : Value → Shared → Prop} {hp : Heap} {gs : Array GenState} {dr : Drawn} {tk : Nat} {os : OsState}
variable {nm qn : Str} {C N : Addr} {bs bm bmB : List Value} {hd : Bool} {sn : List Str} {sub : List Value} {ab : Bool} {col : Option Bool} {dd : Option Addr}
variable {s0 s1 s2 s3 s5 : Option Value} {B B' newId initId initId' : String}

theorem seesNew (F : ExcBaseFacts B newId initId bmB) (hb : bm.contains (.type B) = true) {us : List Value} {Q : Unit → Shared → Prop}
    (at_ : hp.get? C = some (excClassObj nm qn C N bs bm hd sn sub ab col dd s0 s1 s2 s3 s5 newId)) (q : Q () ⟨hp, gs, dr, tk, os⟩) :
    wpAny M A (checkBuiltinCall newId ⟨.ref C :: us, []⟩) Q E ⟨hp, gs, dr, tk, os⟩ := by
  have in_ : (Value.ref C :: bm).contains (.type B) = true := by rw [List.contains_cons, hb, Bool.or_true]
  have star := F.noStar
  simp only [checkBuiltinCall, F.newKind, F.newSplit, F.newRow]
  repeat (first
    | refine wpAny_loadPart_at at_ ?_
    | (refine wpAny_isSubtype_exc at_ ?_; rw [in_])
    | refine wpAny_staticBase_exc at_ ?_
    | refine wpAny_madeBy_exc at_ ?_
    | simp only [bne_self_eq_false, Bool.false_eq_true, if_false]
    | wp_step)
  exact q
theorem seesInit (F : InitF B' initId') (hb : bm.contains (.type B') = true) {e : Addr} {oe : Obj} {us : List Value} {Q : Unit → Shared → Prop}
    (at_ : hp.get? C = some (excClassObj nm qn C N bs bm hd sn sub ab col dd s0 s1 s2 s3 s5 newId)) (ate : hp.get? e = some oe) (hc : oe.cls = .ref C)
    (q : Q () ⟨hp, gs, dr, tk, os⟩) : wpAny M A (checkBuiltinCall initId' ⟨.ref e :: us, []⟩) Q E ⟨hp, gs, dr, tk, os⟩ := by
  have in_ : (Value.ref C :: bm).contains (.type B') = true := by rw [List.contains_cons, hb, Bool.or_true]
  have star := F.star
  simp only [checkBuiltinCall, F.kind, F.split, F.row]
  repeat (first
    | (with_reducible refine wpAny_loadPart_at ate ?_; rw [hc])
    | with_reducible refine wpAny_loadPart_at at_ ?_
    | (with_reducible refine wpAny_isSubtype_exc at_ ?_; rw [in_])
    | wp_step)
  refine wpAny_onRaise ?_
  have z : ∀ (a b : String) (n : Nat), Bind.check ⟨.positional, "*", B', .self, [⟨"args", .varPos, false⟩]⟩ a b n
      (List.map (fun x => x.fst) ({ pos := Value.ref e :: us } : Args).kw) = pure () := fun a b n => check_star_args _ _ _ _ _ _
  rw [z]
  exact wpAny_pure q
end
section
variable {prog : Program} {w : World} {A : Around} {E : Value → Shared → Prop} {R : Result → Shared → Prop} {hp : Heap} {gs : Array GenState} {dr : Drawn} {tk : Nat} {os : OsState}
variable {nm qn : Str} {C N : Addr} {bs bm bmB : List Value} {hd : Bool} {sn : List Str} {sub : List Value} {ab : Bool} {col : Option Bool} {dd : Option Addr}
variable {s0 s1 s2 s3 s5 : Option Value} {B B' newId initId initId' : String}
theorem runsNew (F : ExcBaseFacts B newId initId bmB) (U : Above bm B B') {us : List Value}
    (at_ : hp.get? C = some (excClassObj nm qn C N bs bm hd sn sub ab col dd s0 s1 s2 s3 s5 newId)) (hl : us.length ≤ sizeLine)
    (q : R (.ok (.ret (.ref (hp.objs.size + 1)))) ⟨(hp.push (kdv_tup us)).push (excO C hp.objs.size), gs, dr, tk, os⟩) :
    codeAny (model prog w) A (.builtin newId ⟨.ref C :: us, []⟩) R ⟨hp, gs, dr, tk, os⟩ := by
  have ends := F.ends
  have inB : (Value.ref C :: bm).contains (.type B) = true := by rw [List.contains_cons, U.n, Bool.or_true]
  have inA : (Value.ref C :: bm).contains (.type "AttributeError") = false := by rw [List.contains_cons, U.a]; rfl
  have inN : (Value.ref C :: bm).contains (.type "NameError") = false := by rw [List.contains_cons, U.u]; rfl
  refine codeAny_builtinAt F.entry ?_
  unfold Builtin.«BaseException.__new__»
  refine PySem.wpAt_bind ?_
  show PySem.wpAt _ _ _ (stack >>= _) _ _ _
  refine PySem.wpAt_bind (PySem.wpAt_stack fun p below => PySem.wpAt_of_wpAny ?_)
  wp_walk
  refine PySem.wpAt_of_wpAny ?_
  rw [F.owner]
  repeat (first
    | with_reducible refine wpAny_madeHere_exc F.canon at_ ?_
    | with_reducible refine wpAny_loadPart_at at_ ?_
    | (with_reducible refine wpAny_isSubtype_exc at_ ?_; first | rw [inB] | rw [inA] | rw [inN])
    | wp_step)
  show R _ _
  rw [Heap.size_push]
  exact q
theorem typeCalls (F : ExcBaseFacts B newId initId bmB) (U : Above bm B B') {us : List Value} {fI : Addr} {Q : Fin → Shared → Prop}
    (at_ : hp.get? C = some (excClassObj nm qn C N bs bm hd sn sub ab col dd s0 s1 s2 s3 s5 newId))
    (li : Looks (model prog w) hp (typeLookup (.ref C) "__init__") (some (.ref fI))) (lb : ∀ self, Looks (model prog w) hp (bindSpecial (.ref fI) self) (.ref fI, [self]))
    (hl : us.length ≤ sizeLine)
    (q : codeAny (model prog w) A (.call (.ref fI) ⟨.ref (hp.objs.size + 1) :: us, []⟩)
      (fun r s' => match r with | .ok (.ret v) => v = .none ∧ Q (.done (.ret (.ref (hp.objs.size + 1)))) s' | .ok _ => False | .error x => E x s')
      ⟨(hp.push (kdv_tup us)).push (excO C hp.objs.size), gs, dr, tk, os⟩) :
    wpAny (model prog w) A (Builtin.«type.__call__» ⟨.ref C :: us, []⟩) Q E ⟨hp, gs, dr, tk, os⟩ := by
  repeat (first
    | with_reducible refine wpAny_loadPart_at at_ ?_
    | with_reducible refine wpAny_madeBy_exc at_ ?_
    | wp_step)
  refine codeAny_call_builtin_code (Code.quiet_builtin _ F.quiet) (seesNew F U.n at_ (runsNew F U at_ hl ?_))
  show wpAny _ _ _ _ _ _
  have kp : ∀ b o, hp.get? b = some o → ((hp.push (kdv_tup us)).push (excO C hp.objs.size)).get? b = some o :=
    fun b o e => Heap.get?_push_of_some _ (Heap.get?_push_of_some _ e)
  have at1 := kp _ _ at_
  have atE : ((hp.push (kdv_tup us)).push (excO C hp.objs.size)).get? (hp.objs.size + 1) = some (excO C hp.objs.size) := by heap_get
  have inC : (Value.ref C :: bm).contains (.ref C) = true := by simp
  have li1 := li.keeps kp
  have lb1 := (lb (.ref (hp.objs.size + 1))).keeps kp
  unfold isInstance
  repeat (first
    | with_reducible refine wpAny_loadPart_at atE ?_
    | (with_reducible refine wpAny_isSubtype_exc at1 ?_; rw [inC])
    | wp_step)
  show wpAny _ _ (typeLookup (.ref C) _) _ _ _
  refine li1.at (wpAny_holding (wpAny_bind (lb1.at (wpAny_bind (wpAny_call (codeAny_mono q fun r s' z => ?_))))))
  rcases r with x | (v | _ | _ | _) <;> first | exact z | exact z.elim | skip
  obtain ⟨rfl, z⟩ := z
  first
    | exact wpAny_pure (wpAny_pure z)
    | (wp_walk; exact z)
theorem clsCalls (F : ExcBaseFacts B newId initId bmB) (U : Above bm B B') {us : List Value} {fI : Addr}
    (at_ : hp.get? C = some (excClassObj nm qn C N bs bm hd sn sub ab col dd s0 s1 s2 s3 s5 newId))
    (li : Looks (model prog w) hp (typeLookup (.ref C) "__init__") (some (.ref fI))) (lb : ∀ self, Looks (model prog w) hp (bindSpecial (.ref fI) self) (.ref fI, [self]))
    (hl : us.length ≤ sizeLine)
    (q : codeAny (model prog w) (A.under (.builtin "type.__call__" ⟨.ref C :: us, []⟩)) (.call (.ref fI) ⟨.ref (hp.objs.size + 1) :: us, []⟩)
      (InitBack (hp.objs.size + 1) R) ⟨(hp.push (kdv_tup us)).push (excO C hp.objs.size), gs, dr, tk, os⟩) :
    codeAny (model prog w) A (.call (.ref C) ⟨us, []⟩) R ⟨hp, gs, dr, tk, os⟩ := by
  have l1 := tc_lookup
  have l2 := tc_bind (.ref C)
  have ty : (⟨hp, gs, dr, tk, os⟩ : Shared).TypeIs (.ref C) "type" := ⟨_, at_, rfl⟩
  refine codeAny_of_tree ?_
  show wpAny _ _ (callAny (.ref C) _) _ _ _
  repeat (any_goals (first
    | assumption
    | with_reducible refine wpAny_loadPart_at at_ ?_
    | wp_step))
  refine ⟨rfl, codeAny_call_builtin_at (Code.quiet_builtin _ (by decide +kernel)) entry_typeCall
    (wpAny_check_type_call_sub at_ (typeCalls F U at_ li lb hl (codeAny_mono q fun r s' z => ?_)))⟩
  rcases r with x | (v | _ | _ | _) <;> exact z
theorem runsInit (F : InitF B' initId') (hb : bm.contains (.type B') = true) {e t0 : Addr} {us : List Value}
    (at_ : hp.get? C = some (excClassObj nm qn C N bs bm hd sn sub ab col dd s0 s1 s2 s3 s5 newId)) (ate : hp.get? e = some (excO C t0)) (hl : us.length ≤ sizeLine)
    (q : ∀ h' t1, (∀ b o, b ≠ e → hp.get? b = some o → h'.get? b = some o) → h'.get? e = some (excO C t1) → R (.ok (.ret .none)) ⟨h', gs, dr, tk, os⟩) :
    codeAny (model prog w) A (.call (.builtin initId') ⟨.ref e :: us, []⟩) R ⟨hp, gs, dr, tk, os⟩ := by
  refine codeAny_call_builtin F.slot.plain F.entry (seesInit F hb at_ ate rfl ?_)
  wp_walk
  refine q _ hp.objs.size (fun b o hne ho => ?_) ?_
  · rw [Heap.get?_update_other _ _ (Ne.symm hne)]
    exact Heap.get?_push_of_some _ ho
  · rw [Heap.get?_update_self _ (Heap.get?_push_of_some _ ate) rfl] <;> rfl
end
end Ek

set_option Elab.async false
set_option linter.all false
set_option maxRecDepth 100000
set_option maxHeartbeats 4000000
namespace Ek
open PySem PySem.Spec PyProof.Rows L2
open PySem.W (Frag findIn subIn mroIn keepIn hasDictIn clsIn takerIn specialIn takesIn readsIn findCls kitOne excInitIn excOver)
/-- an own exception class at C whose mro behind itself ends with bmB -/
structure EC (K : Frag) (C : Addr) (bmB : List Value) (newId : String) : Prop where
  q : excInitIn K C bmB newId = true
  ov : excOver K C bmB = true
  hd : hasDictIn K C = true
  kC : keepIn K (.ref C) = true
  sa : findIn K (.ref C) "__setattr__" = some (some (.builtin "object.__setattr__"))
/-- how an instance of it is read, and what isinstance asks -/
structure ER (K : Frag) (C : Addr) : Prop where
  hd : hasDictIn K C = true
  ga : findIn K (.ref C) "__getattribute__" = some (some (.builtin "BaseException.__getattribute__"))
  gt : findIn K (.ref C) "__getattr__" = some none
  ex : subIn K (.ref C) (.type "BaseException") = some true
  ca : findIn K (.ref C) "__class__" = some (some (.builtin "object.__class__"))
  ob : mroIn K C (.type "object") = some true
structure ObC (K : Frag) : Prop where
  gn : specialIn K (.builtin "object.__class__") "__get__" = some (some (.builtin "getset_descriptor.__get__"))
  tk : takesIn K (.builtin "object.__class__") = some true
theorem ER.ic {K : Frag} {C : Addr} (R : ER K C) : (clsIn K C).isSome = true := by
  obtain ⟨cd, e, _⟩ := PySem.W.any_some R.hd
  rw [e]
  rfl
section
variable {X : Cx} {pins : List (Addr × Obj)} {σ : L2.St} {H : Hp} {s : Shared} {a C : Addr} {f : Str} {y : V} {u : Value} {bmB : List Value} {B newId : String}
variable {Q : Unit → Shared → Prop} {E : Value → Shared → Prop} {A : Around}
/-- the first attribute of an exception without a dict -/
theorem putFirst (SF : StoreFacts B bmB "object.__setattr__" "object") (T : EC X.K C bmB newId) (I : L2.Inv X pins σ H s) (e : H a = some (exo a C none))
    (nt : takerIn X.K C f = some none) (ry : RelV y u)
    (h : ∀ d s', H d = none → d ≠ a → L2.Inv X pins σ (upd (upd H a (exo a C (some d))) d (exd d [(f, y)])) s' → Q () s') :
    wpAny (model X.prog X.w) A (setAttr (.ref a) f u) Q E s := by
  obtain ⟨t1, ho⟩ := exo_at I.hok e
  obtain ⟨cd, hc, hdct⟩ := PySem.W.any_some T.hd
  obtain ⟨hp, g, dr, t, os⟩ := s
  have lc : ∀ M h, X.K.In h → PySem.W.Looks M h (classData C) cd := fun M h Y => PySem.W.looks_clsIn Y hc
  have lt : a ≠ hp.objs.size := Nat.ne_of_lt (Heap.lt_size ho)
  refine PySem.W.set_plain I.kIn (ox := { cls := .ref C, dict := none, data := .fields #[.ref t1, .none, .none, .none, .bool false, .none] }) (od := none) ⟨ho, rfl, rfl, trivial⟩ T.sa ?_
  refine PySem.W.osa_openX (od := none) SF I.kIn ⟨ho, rfl, rfl, trivial⟩ T.ov nt fun b => ?_
  have hcls := lc (model X.prog X.w) hp I.kIn
  show wpAny _ _ (Builtin.ObjectAttr.storeInOwnDict (.ref a) (.ref C) (.str f t) f u b) _ _ _
  obtain ⟨nm, bs, mro, ns, qn, hd, sn, sb, ab, col, del⟩ := cd
  dsimp only at hdct
  subst hdct
  unfold Builtin.ObjectAttr.storeInOwnDict Builtin.ObjectAttr.ownDictForStores
  repeat (first
    | with_reducible refine PySem.HandSPX.store_in_new ?_ ?_
    | with_reducible refine wpAny_loadPart_at ho ?_
    | with_reducible refine hcls.at ?_
    | wp_step)
  · refine ⟨_, #[], _, (Heap.get?_update_ne _ _ _ _ lt.symm).trans (Heap.get?_push_at rfl rfl), rfl, fun z hz => ?_, fun _ => rfl⟩
    exact absurd hz (by simp)
  · intro h' tk' hn hs
    have ha0 : (hp.push { cls := .type "dict", data := .dict #[] }).get? a = some { cls := .ref C, data := .fields #[.ref t1, .none, .none, .none, .bool false, .none] } := Heap.get?_push_of_some _ ho
    have ha : h'.get? a = some { cls := .ref C, dict := some hp.objs.size, data := .fields #[.ref t1, .none, .none, .none, .bool false, .none] } := by
      rw [hs.2 a lt, Heap.get?_update_self _ ha0 rfl] <;> rfl
    have kp : ∀ b o, b ≠ a → hp.get? b = some o → h'.get? b = some o := fun b o hb ho' => by
      have nb : b ≠ hp.objs.size := Nat.ne_of_lt (Heap.lt_size ho')
      rw [hs.2 b nb, Heap.get?_update_other _ _ (Ne.symm hb)]
      exact Heap.get?_push_of_some _ ho'
    obtain ⟨G, g1, g2⟩ := L2.restrict h' fun b => decide (b ≠ hp.objs.size)
    have gk : ∀ b, b ≠ hp.objs.size → G.get? b = h'.get? b := fun b hb => g1 b (decide_eq_true hb)
    have gd : G.get? hp.objs.size = none := g2 _ (by simp)
    have hn0 : H hp.objs.size = none := I.hok.fresh (Nat.le_refl _)
    have J := I.write (h' := G) (t' := tk') (x := a) (e := a) (o := exo a C (some hp.objs.size)) (by rw [e]; exact True.intro) (.inl rfl)
      (fun b o hb ho' => by rw [gk b (Nat.ne_of_lt (Heap.lt_size ho'))]; exact kp b o hb ho') ⟨_, (gk a lt).trans ha⟩ (exo_ok ((gk a lt).trans ha))
    have nd : (upd H a (exo a C (some hp.objs.size))) hp.objs.size = none := by rw [upd_ne (Ne.symm lt)]; exact hn0
    refine h _ _ hn0 (Ne.symm lt) (J.laidN (h' := h') (t' := tk') (a := hp.objs.size) (fun b o q => ?_) gd nd (exd_ok hn (relO_put (fs := []) ry fun g => True.intro)))
    have q' : G.get? b = some o := q
    by_cases hb : b = hp.objs.size
    · rw [hb, gd] at q'
      cases q'
    · rw [← gk b hb]
      exact q'
/-- the init of a built-in base: nothing of it is told -/
theorem baseInit {B' initId : String} {us : List Value} {Q : Value → Shared → Prop} (F : InitF B' initId) (hB : bmB.contains (.type B') = true) (T : EC X.K C bmB newId) (I : L2.Inv X pins σ H s)
    (e : H a = some (exo a C none)) (hl : us.length ≤ sizeLine) (h : ∀ s', L2.Inv X pins σ H s' → Q .none s') :
    wpAny (model X.prog X.w) A (call (.builtin initId) (.ref a :: us)) Q E s := by
  obtain ⟨nm, N, qn, bs, bm, hd, sn, sub, ab, col, dd, k0, k1, k2, k3, k5, hC, hT⟩ := PySem.W.excInit_of I.kIn T.q
  obtain ⟨t1, ho⟩ := exo_at I.hok e
  obtain ⟨hp, g, dr, t, os⟩ := s
  refine wpAny_call (runsInit F ((hT B').trans hB) hC ho hl fun h' t2 kp hx => ?_)
  have same : upd H a (exo a C none) = H := funext fun b => by
    by_cases hb : b = a
    · rw [hb, upd_same, e]
    · exact upd_ne hb
  have J := I.write (h' := h') (t' := t) (x := a) (e := a) (o := exo a C none) (by rw [e]; exact True.intro) (.inl rfl) kp ⟨_, hx⟩ (exo_ok hx)
  rw [same] at J
  exact h _ J
end

/-- Base.__init__(self, ..) -/
def tBaseI (K : Frag) (bmB : List Value) (newId : String) (ta : TA) : TE := fun σ H Q => ta σ H fun vs H1 =>
  ∃ (a C : Addr) (ws : List V), vs = .ref a :: ws ∧ ws.length ≤ 1000 ∧ EC K C bmB newId ∧ H1 a = some (exo a C none) ∧ Q .non H1
/-- self.f = e, the first -/
def tPut (K : Frag) (bmB : List Value) (newId : String) (f : Str) (to te : TE) : TS := fun D σ H => te σ H fun y H1 => to σ H1 fun x H2 =>
  ∃ a C : Addr, x = .ref a ∧ EC K C bmB newId ∧ takerIn K C f = some none ∧ H2 a = some (exo a C none) ∧
    ∀ d, H2 d = none → d ≠ a → D.nx σ (upd (upd H2 a (exo a C (some d))) d (exd d [(f, y)]))
/-- C(e, ..) by its own __init__ -/
def tMkE (C : Addr) (sp : Sp) (ta : TA) : TE := fun σ H Q => ta σ H fun vs H1 => vs.length ≤ 1000 ∧ ∀ a, H1 a = none →
  sp (.ref a :: vs) (upd H1 a (exo a C none)) (fun v H2 => v = .non ∧ Q (.ref a) H2) fun _ _ _ => False
/-- e.f, f held by the exception's own dict -/
def tAtE (K : Frag) (f : Str) (te : TE) : TE := fun σ H Q => te σ H fun x H1 => ∃ (a C d : Addr) (fs : List (Str × V)) (v : V),
  x = .ref a ∧ ER K C ∧ findIn K (.ref C) f = some none ∧ H1 a = some (exo a C (some d)) ∧ H1 d = some (exd d fs) ∧ fs.lookup f = some v ∧ Q v H1
/-- at a stands an exception of the class at C -/
def ErrAt (H : Hp) (a C : Addr) : Prop := H a = some (ExO (.ref C) a) ∨ ∃ d fs, H a = some (exo a C (some d)) ∧ H d = some (exd d fs)
def rIsX (K : Frag) : List V → Hp → VK → Prop := fun xs H Q => ∃ (a C : Addr) (c : V) (u : Value) (b : Bool), xs = [.ref a, c] ∧ ClsV c u ∧ ErrAt H a C ∧ ER K C ∧ ObC K ∧ kitOne K (.ref C) u = some b ∧ Q (.bl b) H
section
variable {X : Cx} {o e : Expr} {es : List Expr} {to te : TE} {ta : TA} {f : Str} {p p' p1 p2 pos : Pos} {bmB : List Value} {B newId : String}
theorem pe_baseT {B' initId : String} {x : Str} {pl : Sem Bool} (F : InitF B' initId) (hB : bmB.contains (.type B') = true) (hg : Gl X x) (hm : X.mg x = none) (hbt : bootBuiltins x = some (.type B'))
    (typ : typeOf (.type B') = pure (.type "type")) (stub : Manifest.isStub B' = false) (vV : findCls X.K (.type B') (.type "type") "__init__" = some (.val (.builtin initId))) (ha : PA X (e :: es) ta) (hh : PySem.W.handedIn (.builtin initId) = true := by decide +kernel)
    (hn : x ≠ "__name__" := by decide) (hdb : (x == ("__debug__" : Str)) = false := by decide)
    (hc : eval (.Call (.Attribute (.Name x p1) "__init__" p2) (e :: es) [] pos) X.env = (do
      let ov ← eval (.Name x p1) X.env
      standAt p2.atName
      let (f, first) ← holding [ov] (getMethod ov "__init__" pl)
      callWith pos f first (backTo pos (starEach (e :: es) X.env)) (backToKw pos (keywordEach [] X.env))) := by rfl)
    (he : starEach (e :: es) X.env = (false, eval e X.env) :: starEach es X.env := by rfl) (hpl : (backTo pos (starEach es X.env)).any (·.1) = false := by rfl) :
    PE X (.Call (.Attribute (.Name x p1) "__init__" p2) (e :: es) [] pos) (tBaseI X.K bmB newId ta) := by
  refine ⟨fun pins s σ H Q I h => PySem.W.methodCall_KW (ld_blt I hg hm hbt ?_ hn hdb) hc⟩
  obtain ⟨m, fr⟩ := I.fr
  refine PySem.W.method_type fr I.ok.mod.kin typ stub vV hh ?_
  show wpAny _ _ (callWith pos (Value.builtin initId) [] (backTo pos (starEach (e :: es) X.env)) []) _ _ _
  refine PyProof.Rows.callWith_method1 (thn (ha.run pos pins _ σ H _ (I.tok _) h) fun us s1 ⟨vs, H1, I1, r1, a, C, ws, ev, hl, T, ea, q⟩ => ?_) he hpl
  subst ev
  cases r1 with
  | @cons _ u0 _ ur ra rw' =>
    obtain rfl : u0 = Value.ref a := ra
    have hl2 : ur.length ≤ sizeLine := by
      rw [← Paired.length rw', sizeLine_eq]
      omega
    exact baseInit F hB T I1 ea hl2 fun s' J => ⟨.non, H1, J, rfl, q⟩
theorem pe_baseC {B' initId : String} {x : Str} {CB : Addr} {pl : Sem Bool} (F : InitF B' initId) (hB : bmB.contains (.type B') = true) (hg : Gl X x) (hm : X.mg x = some (.ref CB))
    (gg : specialIn X.K (.ref CB) "__getattribute__" = some (some (.builtin "type.__getattribute__"))) (rd : readsIn X.K CB (.type "type") = true)
    (vV : findCls X.K (.ref CB) (.type "type") "__init__" = some (.val (.builtin initId))) (ha : PA X (e :: es) ta) (hh : PySem.W.handedIn (.builtin initId) = true := by decide +kernel)
    (hdb : (x == ("__debug__" : Str)) = false := by decide)
    (hc : eval (.Call (.Attribute (.Name x p1) "__init__" p2) (e :: es) [] pos) X.env = (do
      let ov ← eval (.Name x p1) X.env
      standAt p2.atName
      let (f, first) ← holding [ov] (getMethod ov "__init__" pl)
      callWith pos f first (backTo pos (starEach (e :: es) X.env)) (backToKw pos (keywordEach [] X.env))) := by rfl)
    (he : starEach (e :: es) X.env = (false, eval e X.env) :: starEach es X.env := by rfl) (hpl : (backTo pos (starEach es X.env)).any (·.1) = false := by rfl) :
    PE X (.Call (.Attribute (.Name x p1) "__init__" p2) (e :: es) [] pos) (tBaseI X.K bmB newId ta) := by
  refine ⟨fun pins s σ H Q I h => PySem.W.methodCall_KW (ld_glob I hg hm ?_ hdb) hc⟩
  refine PySem.W.method_cls I.kIn gg (PySem.W.cls_value I.kIn rd vV hh ?_)
  show wpAny _ _ (callWith pos (Value.builtin initId) [] (backTo pos (starEach (e :: es) X.env)) []) _ _ _
  refine PyProof.Rows.callWith_method1 (thn (ha.run pos pins _ σ H _ (I.tok _) h) fun us s1 ⟨vs, H1, I1, r1, a, C, ws, ev, hl, T, ea, q⟩ => ?_) he hpl
  subst ev
  cases r1 with
  | @cons _ u0 _ ur ra rw' =>
    obtain rfl : u0 = Value.ref a := ra
    have hl2 : ur.length ≤ sizeLine := by
      rw [← Paired.length rw', sizeLine_eq]
      omega
    exact baseInit F hB T I1 ea hl2 fun s' J => ⟨.non, H1, J, rfl, q⟩
theorem ps_put (SF : StoreFacts B bmB "object.__setattr__" "object") (ho : PE X o to) (he : PE X e te) (hs : swapsWith e (some (.Attribute o f p')) pos.line X.env = pure false := by rfl) :
    PS X (.Assign [.Attribute o f p'] e pos) (tPut X.K bmB newId f to te) := by
  refine ⟨fun pins s σ H D I h => ?_⟩
  refine plainObj_wpAny_Assign_Attribute (thn (he.run pins s σ H _ I h) fun v s1 ⟨y, H1, I1, r1, q1⟩ => thn (ho.run pins s1 σ H1 _ I1 q1) fun u s2 ⟨x, H2, I2, r2, a, C, ex, T, nt, ea, q⟩ => ?_) hs
  subst ex
  obtain rfl : u = Value.ref a := r2
  exact putFirst SF T I2 ea nt r1 fun d s' n ne J => ⟨σ, _, J, q d n ne⟩
theorem pe_mkE {CX : CXT} {x : Str} {C fI : Addr} {k : Nat} {fd : FuncData} {ps : List Str} {sp : Sp} {BN BI initId : String} {bN : List Value} (FN : ExcBaseFacts BN newId initId bN)
    (U : Above bmB BN BI) (T : EC X.K C bmB newId) (iC : findIn X.K (.ref C) "__init__" = some (some (.ref fI))) (tI : PySem.W.typeIn X.K (.ref fI) = some (.type "function"))
    (F1 : FnOk X.prog X.w X.K X.mg X.base CX k fI fd ps sp) (hr : Room (k + 1) X.A) (hb : Binds X.K fd ps []) (hx : Passes CX X (fun _ _ _ => False)) (hg : Gl X x) (hm : X.mg x = some (.ref C)) (ha : PA X (e :: es) ta)
    (hdb : (x == ("__debug__" : Str)) = false := by decide) (he : starEach (e :: es) X.env = (false, eval e X.env) :: starEach es X.env := by rfl) (hpl : (backTo pos (starEach es X.env)).any (·.1) = false := by rfl) :
    PE X (.Call (.Name x p) (e :: es) [] pos) (tMkE C sp ta) := by
  refine ⟨fun pins s σ H Q I h => ?_⟩
  refine wpAny_Call_Name_kw (ld_glob I hg hm ?_ hdb)
  refine PySem.W.callWith_K (h₀ := X.base) I.ok.mod.kin T.kC (thn (ha.run pos pins s σ H _ I h) fun us s1 ⟨vs, H1, I1, r1, hz, q1⟩ => ⟨I1.kIn, ?_⟩) he hpl
  show wpAny _ _ (call (.ref C) us) _ _ _
  obtain ⟨nm, N, qn, bs, bm, hd, sn, sub, ab, col, dd, k0, k1, k2, k3, k5, hC, hT⟩ := PySem.W.excInit_of I1.kIn T.q
  have U' : Above bm BN BI := ⟨(hT _).trans U.n, (hT _).trans U.i, (hT _).trans U.a, (hT _).trans U.u⟩
  obtain ⟨hp, g, dr, tk, os⟩ := s1
  have up : hp.objs.size ≤ hp.objs.size + 1 := Nat.le_succ _
  have hn : H1 (hp.objs.size + 1) = none := I1.hok.fresh up
  have hq := q1 (hp.objs.size + 1) hn
  have kk : ∀ b o, hp.get? b = some o → ((hp.push (PySem.W.kdv_tup us)).push (PySem.HandSPX.excO C hp.objs.size)).get? b = some o := fun b o e => Heap.get?_push_of_some _ (Heap.get?_push_of_some _ e)
  have hget : ((hp.push (PySem.W.kdv_tup us)).push (PySem.HandSPX.excO C hp.objs.size)).get? (hp.objs.size + 1) = some (PySem.HandSPX.excO C hp.objs.size) := by heap_get
  have I2 := I1.laid (t' := tk) (a := hp.objs.size + 1) (o := exo (hp.objs.size + 1) C none) (h' := (hp.push (PySem.W.kdv_tup us)).push (PySem.HandSPX.excO C hp.objs.size)) kk up (exo_ok hget)
  have r2 : Vals (V.ref (hp.objs.size + 1) :: vs) (Value.ref (hp.objs.size + 1) :: us) := .cons rfl r1
  have r3 : Vals (V.ref (hp.objs.size + 1) :: vs) (Value.ref (hp.objs.size + 1) :: us ++ []) := by rw [List.append_nil]; exact r2
  have hl : (Value.ref (hp.objs.size + 1) :: us ++ []).length = ps.length := r3.length.symm.trans (F1.len _ _ _ _ hq)
  have hus : us.length ≤ sizeLine := by
    rw [← Paired.length r1, sizeLine_eq]
    omega
  refine wpAny_call (clsCalls FN U' hC (PySem.W.looks_findIn I1.kIn iC) (fun self => PySem.W.bind_fn I1.kIn self tI) hus
    (codeAny_mono (F1.run _ X.stack _ _ ⟨Value.ref (hp.objs.size + 1) :: us, []⟩ (Value.ref (hp.objs.size + 1) :: us ++ []) _ _ (fun _ _ _ => False) (hr.make C us []) (I2.env0.make C us [])
      (hb _ (Value.ref (hp.objs.size + 1) :: us) I2.kIn hl) r3 hq) fun r s' hq' => ?_))
  cases r with
  | error er => exact hx pins σ _ _ er s' I2 hq'
  | ok fl =>
    cases fl with
    | ret u =>
      obtain ⟨v, H2, I3, rv, ev, q2⟩ := I2.after hq'
      subst ev
      exact ⟨rv, ⟨V.ref (hp.objs.size + 1), H2, I3, rfl, q2⟩⟩
    | next => exact False.elim hq'
    | brk => exact False.elim hq'
    | cont => exact False.elim hq'
theorem pe_atE (he : PE X e te) (hb : attributeBase e f X.env (eval e X.env) = eval e X.env := by rfl) : PE X (.Attribute e f pos) (tAtE X.K f te) := by
  refine ⟨fun pins s σ H Q I h => attr_of hb (thn (he.run pins s σ H _ I h) fun u s1 hh => ?_)⟩
  obtain ⟨x, H1, I1, rx, a, C, d, fs, v, ex, R, no, ea, ed, hl, q⟩ := hh
  subst ex
  obtain rfl : u = Value.ref a := rx
  obtain ⟨t1, ho⟩ := exo_at I1.hok ea
  obtain ⟨mA, hns, rel⟩ := exd_at I1.hok ed
  obtain ⟨od, hod, lk⟩ := lookIn_ns hns
  obtain ⟨u, hu, ru⟩ := RelO.some_of (v := v) (o := mA f) (by rw [← hl]; exact rel f)
  refine PySem.HandSPX.exc_get I1.kIn (od := some od) ⟨ho, rfl, rfl, hod⟩ R.ga R.gt R.ex (PySem.W.findObj_own R.hd no rfl (by rw [lk, hu])) (handed_of ru) ?_
  exact ⟨v, H1, I1.tok _, ru, q⟩
theorem call_isX : CallR X (.builtin "isinstance") (rIsX X.K) := by
  intro pins s σ H xs us Q I r h
  obtain ⟨a, C, c, u, b, rfl, kc, ea, R, O, kb, q⟩ := h
  obtain ⟨u1, u2, rfl, r1, r2⟩ := vals2 r
  obtain rfl : u1 = Value.ref a := r1
  obtain rfl := kc.eq r2
  rcases ea with ea | ⟨d, fs, ea, ed⟩
  · have z : ObjOk X.prog X.w H s.heap a (ExO (.ref C) a) := I.hok a _ ea
    obtain ⟨⟨oe, vs, ho, hz, hv, _⟩, _⟩ := z
    have J : PySem.W.InstAt s.heap a oe C none := ⟨ho, hz.1, by unfold PySem.W.notCls; rw [hv] <;> rfl, by rw [hz.2]; exact trivial⟩
    exact PySem.W.kia_one (PySem.W.kitx_exc R.ic R.ga R.gt R.ex R.ca O.gn O.tk R.ob) I.kIn J kb (fun z => nomatch z) fun tk => ⟨.bl b, H, I.tok tk, rfl, q⟩
  · obtain ⟨t1, ho⟩ := exo_at I.hok ea
    obtain ⟨mA, hns, rel⟩ := exd_at I.hok ed
    obtain ⟨od, hod, lk⟩ := lookIn_ns hns
    have J : PySem.W.InstAt s.heap a { cls := .ref C, dict := some d, data := .fields #[.ref t1, .none, .none, .none, .bool false, .none] } C (some od) := ⟨ho, rfl, rfl, hod⟩
    exact PySem.W.kia_one (PySem.W.kitx_exc R.ic R.ga R.gt R.ex R.ca O.gn O.tk R.ob) I.kIn J kb (fun z => nomatch z) fun tk => ⟨.bl b, H, I.tok tk, rfl, q⟩
end
end Ek

set_option Elab.async false
set_option linter.all false
set_option maxRecDepth 100000
set_option maxHeartbeats 4000000
/-! raise X(e), X an own class over any built-in exception, with its own __init__ -/
namespace Ek
open PySem PySem.Spec PyProof.Rows L2
open PySem.W (Frag findIn subIn mroIn keepIn hasDictIn clsIn takerIn specialIn takesIn readsIn findCls kitOne excInitIn excOver)
/-- at a stands a new error of the class at C whose own dict, new too, holds v under f -/
def AttrNew (H0 H : Hp) (a C : Addr) (f : Str) (v : V) : Prop := ∃ d, H0 d = none ∧ d ≠ a ∧ H a = some (exo a C (some d)) ∧ H d = some (exd d [(f, v)])
/-- the promise of __init__(self, e): .. ; self.f = e -/
def spInitX (C : Addr) (f : Str) : Sp := fun vs H Q _ => ∃ (a : Addr) (y : V) (H0 : Hp), vs = [.ref a, y] ∧ H = upd H0 a (exo a C none) ∧ H0 a = none ∧ ∀ H', Same H0 H' → AttrNew H0 H' a C f y → Q .non H'
theorem init_endX {H0 : Hp} {a C d : Addr} {f : Str} {y : V} (h0 : H0 a = none) (hd : (upd H0 a (exo a C none)) d = none) (ne : d ≠ a) :
    Same H0 (upd (upd (upd H0 a (exo a C none)) a (exo a C (some d))) d (exd d [(f, y)])) ∧ AttrNew H0 (upd (upd (upd H0 a (exo a C none)) a (exo a C (some d))) d (exd d [(f, y)])) a C f y := by
  have hd0 : H0 d = none := by rwa [upd_ne ne] at hd
  refine ⟨fun b o e => ?_, d, hd0, ne, ?_, upd_same⟩
  · rw [upd_ne (ne_of_none e hd0), upd_ne (ne_of_none e h0), upd_ne (ne_of_none e h0)]
    exact e
  · rw [upd_ne (Ne.symm ne)]
    exact upd_same
section
variable {X : Cx} {o e : Expr} {es : List Expr} {to te : TE} {ta : TA} {f : Str} {p p' p1 p2 pos : Pos} {bmB : List Value} {B newId : String}
/-- raise X(e): the error leaves with its own dict, new, that holds e's value -/
def tRaiseE (C : Addr) (f : Str) (te : TE) : L2.St → Hp → XK → Prop := fun σ H Q => te σ H fun y H1 => ∀ d H', H1 d = none → Same H1 H' → H' d = some (.xd [(f, y)]) → Q (.ref C) (some d) H'
theorem pmk_raise {x f : Str} {C fI : Addr} {k : Nat} {fd : FuncData} {ps : List Str} {BN BI initId : String} {bN : List Value} (FN : ExcBaseFacts BN newId initId bN)
    (U : Above bmB BN BI) (T : EC X.K C bmB newId) (rs : Raises X (.ref C)) (iC : findIn X.K (.ref C) "__init__" = some (some (.ref fI))) (tI : PySem.W.typeIn X.K (.ref fI) = some (.type "function"))
    (F1 : FnOk X.prog X.w X.K X.mg X.base CX0 k fI fd ps (spInitX C f)) (hr : Room (k + 1) X.A) (hb : Binds X.K fd ps []) (hg : Gl X x) (hm : X.mg x = some (.ref C)) (he : PE X e te)
    (hdb : (x == ("__debug__" : Str)) = false := by decide) (hs : starEach [e] X.env = (false, eval e X.env) :: starEach [] X.env := by rfl) (hpl : (backTo pos (starEach [] X.env)).any (·.1) = false := by rfl) :
    PMk X (.Call (.Name x p) [e] [] pos) (tRaiseE C f te) := by
  intro pins s σ H Q I h
  refine wpAny_Call_Name_kw (ld_glob I hg hm ?_ hdb)
  refine PySem.W.callWith_K (h₀ := X.base) I.ok.mod.kin T.kC (thn ((pa_cons he pa_nil hs).run pos pins s σ H (fun vs H1 => match vs with
    | [y] => ∀ d H', H1 d = none → Same H1 H' → H' d = some (.xd [(f, y)]) → Q (.ref C) (some d) H'
    | _ => False) I h) fun us s1 ⟨vs, H1, I1, r1, q1⟩ => ⟨I1.kIn, ?_⟩) hs hpl
  dsimp only at q1
  split at q1
  case h_2 => exact q1.elim
  rename_i y
  show wpAny _ _ (call (.ref C) us) _ _ _
  obtain ⟨nm, N, qn, bs, bm, hd, sn, sub, ab, col, dd, k0, k1, k2, k3, k5, hC, hT⟩ := PySem.W.excInit_of I1.kIn T.q
  have U' : Above bm BN BI := ⟨(hT _).trans U.n, (hT _).trans U.i, (hT _).trans U.a, (hT _).trans U.u⟩
  obtain ⟨hp, g, dr, tk, os⟩ := s1
  have up : hp.objs.size ≤ hp.objs.size + 1 := Nat.le_succ _
  have hn : H1 (hp.objs.size + 1) = none := I1.hok.fresh up
  have grow : ∀ b o, hp.get? b = some o → ((hp.push (PySem.W.kdv_tup us)).push (PySem.HandSPX.excO C hp.objs.size)).get? b = some o := fun b o e => Heap.get?_push_of_some _ (Heap.get?_push_of_some _ e)
  have there : ((hp.push (PySem.W.kdv_tup us)).push (PySem.HandSPX.excO C hp.objs.size)).get? (hp.objs.size + 1) = some (PySem.HandSPX.excO C hp.objs.size) := by heap_get
  have I2 := I1.laid (t' := tk) (a := hp.objs.size + 1) (o := exo (hp.objs.size + 1) C none) (h' := (hp.push (PySem.W.kdv_tup us)).push (PySem.HandSPX.excO C hp.objs.size)) grow up (exo_ok there)
  have r2 : Vals (V.ref (hp.objs.size + 1) :: [y]) (Value.ref (hp.objs.size + 1) :: us) := .cons rfl r1
  have hq : spInitX C f (V.ref (hp.objs.size + 1) :: [y]) (upd H1 (hp.objs.size + 1) (exo (hp.objs.size + 1) C none)) (fun v H2 => v = .non ∧ ∃ (d : Addr) (fs : List (Str × V)), H2 (hp.objs.size + 1) = some (exo (hp.objs.size + 1) C (some d)) ∧ H2 d = some (exd d fs) ∧
      H1 d = none ∧ Q (.ref C) (some d) (upd (del H2 (hp.objs.size + 1)) d (.xd fs))) (fun _ _ _ => False) :=
    ⟨_, y, H1, rfl, rfl, hn, fun H2 s2 ⟨d, d0, ne, e1, e2⟩ => ⟨rfl, d, _, e1, e2, d0, q1 d _ d0 (fun b o e => by
      rw [upd_ne (ne_of_none e d0), del_ne (ne_of_none e hn)]
      exact s2 _ _ e) upd_same⟩⟩
  have hl : (Value.ref (hp.objs.size + 1) :: us ++ []).length = ps.length := by
    rw [List.append_nil, ← r2.length]
    exact F1.len _ _ _ _ hq
  have hus : us.length ≤ sizeLine := by
    rw [← Paired.length r1, sizeLine_eq]
    show 1 ≤ _
    omega
  have bd := hb ⟨(hp.push (PySem.W.kdv_tup us)).push (PySem.HandSPX.excO C hp.objs.size), g, dr, tk, os⟩ (Value.ref (hp.objs.size + 1) :: us) I2.kIn hl
  rw [List.append_nil] at bd
  refine wpAny_call (clsCalls FN U' hC (PySem.W.looks_findIn I1.kIn iC) (fun self => PySem.W.bind_fn I1.kIn self tI) hus
    (codeAny_mono (F1.run _ X.stack _ _ ⟨Value.ref (hp.objs.size + 1) :: us, []⟩ (Value.ref (hp.objs.size + 1) :: us) _ _ (fun _ _ _ => False) (hr.make C us []) (I2.env0.make C us []) bd r2 hq) fun r s' hq' => ?_))
  cases r with
  | error er => exact hq'.elim
  | ok fl =>
    cases fl with
    | ret u =>
      obtain ⟨v, H2, os2, bare2, un2, hok2, rv, ev, d, fs, ea, ed, hd1, q2⟩ := hq'
      subst ev
      obtain ⟨h2, g2, d2, t2, os'⟩ := s'
      exact ⟨rv, mk_end rs I1 up grow un2 hok2 os2 bare2 ea ed hd1 q2⟩
    | next => exact False.elim hq'
    | brk => exact False.elim hq'
    | cont => exact False.elim hq'
end
end Ek

set_option Elab.async false
set_option linter.all false
set_option maxRecDepth 100000
set_option maxHeartbeats 4000000
/-! several except clauses, some of them with a name -/
namespace TM
open PySem PySem.Spec PyProof.Rows L2
abbrev Cl := Value × Option Nat × (Addr → Value → Option Addr → TS)
/-- where a suite goes on whose name (slot i) goes behind it -/
def drop (o : Option Nat) (D : Ends) : Ends := match o with
  | none => D
  | some i => { nx := fun z H' => D.nx (z.set i none) H', rt := D.rt, bk := fun z H' => D.bk (z.set i none) H', ct := fun z H' => D.ct (z.set i none) H' }
def give (o : Option Nat) (a : Addr) (σ : L2.St) : L2.St := match o with
  | none => σ
  | some i => σ.set i (some (.ref a))
def wMix (K : PySem.W.Frag) (Wo : WX) (D : Ends) : List Cl → WX
  | [] => Wo
  | c :: r => fun cls d σ H => ∃ b, PySem.W.exmOne K cls c.1 = some b ∧ (b = true → ∀ a, H a = none → c.2.2 a cls d (drop c.2.1 D) (give c.2.1 a σ) H) ∧ (b = false → wMix K Wo D r cls d σ H)
/-- the suite of a clause keeps its reading -/
def SuiteOk (X : Cx) (body : List Stmt) (ts : Addr → Value → Option Addr → TS) : Prop :=
  ∀ (a : Addr) (oe : Obj) (cls : Value) (d : Option Addr) (pn : List (Addr × Obj)), Zc cls d oe → (∃ vs, oe.data = .fields vs) → PSs (X.suite a ((a, oe) :: pn)) body (ts a cls d)
inductive Hds (X : Cx) : List ExceptHandler → List Cl → Prop
  | nil : Hds X [] []
  | bare {x : Str} {c : Value} {ts} {b₀ : Stmt} {su : List Stmt} {np q : Pos} {hs : List ExceptHandler} {l : List Cl} (hc : Names X x c) (s : SuiteOk X (b₀ :: su) ts) (r : Hds X hs l) :
      Hds X (.ExceptHandler (some (.Name x np)) none (b₀ :: su) q :: hs) ((c, none, ts) :: l)
  | named {x n : Str} {c : Value} {i : Nat} {ts} {b₀ : Stmt} {su : List Stmt} {np q : Pos} {hs : List ExceptHandler} {l : List Cl} (nd : X.N.Nodup) (hi : X.N[i]? = some n) (hl : X.env.kindOf n = some .local) (hc : Names X x c) (s : SuiteOk X (b₀ :: su) ts) (r : Hds X hs l) :
      Hds X (.ExceptHandler (some (.Name x np)) (some n) (b₀ :: su) q :: hs) ((c, some i, ts) :: l)
section
variable {X : Cx}
theorem nameRead {x : Str} {c : Value} {np : Pos} {a : Addr} {oe : Obj} {pn : List (Addr × Obj)} {σ : L2.St} {H : Hp} {s : Shared} {Q E : Value → Shared → Prop} (hc : Names X x c) (S : Inv (X.suite a ((a, oe) :: pn)) [] σ H s)
    (q : Q c s) : wpAny (model X.prog X.w) (X.A.mark (some (.ref a))) (eval (.Name x np) X.env) Q E s := by
  rcases hc with ⟨g, nb, own | ⟨no, bv, nn⟩⟩
  · exact ld_glob (X := X.suite a ((a, oe) :: pn)) S g own q nb
  · exact ld_blt (X := X.suite a ((a, oe) :: pn)) S g no bv q nn nb
/-- no clause takes it -/
theorem passes {B : Heap} {Z : Obj → Prop} {a : Addr} {Q : Flow → Shared → Prop} {E : Value → Shared → Prop} {s' : Shared} {h3 : Heap} (hf : X.env.frame = some X.env.locals) (fl : HandSPX.FlyingZ B (X.env :: X.outer) a Z h3)
    (k : ∀ h4, HandSPX.HeldZ B (X.env :: X.outer) a Z X.env.locals h4 → h3.UpToSlots h4 → E (.ref a) { s' with heap := h4 }) :
    wpAny (model X.prog X.w) X.A (handleBy (.ref a) X.env []) Q E { s' with heap := h3 } := by
  refine wpAny_handleBy_nil ?_
  obtain ⟨_, _, _, _, _, T, _, _, he, _, hd, h1, _⟩ := id fl
  unfold PySem.passOn
  refine wpAny_bind (wpAny_field he hd h1 ?_)
  rw [if_neg (by simp : ¬ ((Value.ref T == Value.none) = true))]
  have out : wpAny (model X.prog X.w) X.A (setFlight (.ref a) X.env.frame) (fun _ s4 => wpAny (model X.prog X.w) X.A (throw (.ref a) : Sem Flow) Q E s4) E { s' with heap := h3 } := by
    rw [hf]
    exact HandSPX.setFlight_upZ fl fun h4 f4 u4 => wpAny_throw (k h4 f4 u4)
  first | exact wpAny_bind (wpAny_pure (wpAny_bind out)) | exact wpAny_bind out
theorem ps_try_mix {body : List Stmt} {h₀ : ExceptHandler} {hds : List ExceptHandler} {l : List Cl} {pos : Pos} {tb : WX → TS} {Wo : WX} (hs : X.stack = X.env :: X.outer) (hf : X.env.frame = some X.env.locals) (tk : Takes X Wo)
    (hb : ∀ (W : WX) (pn : List (Addr × Obj)) (xe : Value → Shared → Prop), Takes (X.tr pn xe) W → PassesOwn (model X.prog X.w) X.A X.env xe → PSs (X.tr pn xe) body (tb W)) (hh : Hds X (h₀ :: hds) l) :
    PS X (.Try body (h₀ :: hds) [] [] pos) (fun D σ H => tb (wMix X.K Wo D l) D σ H) := by
  refine ⟨fun pins s σ H D I h => ?_⟩
  have ok := I.ok
  have fr : X.A.frames = some (X.env :: X.outer) := by rw [ok.frames, hs]
  refine wpAny_Try_except (wpAny_mono ((hb (wMix X.K Wo D l) (X.pn ++ pins) _ ?caught PassesOwn.looking).run [] s σ H D (I.toTry _) h) (fun f s1 fin => ?done) fun _ _ z => z)
  case done =>
    cases f with
    | next => exact let ⟨z, Hz, J, q⟩ := fin; wpAny_execs_nil ⟨z, Hz, J.ofTry ok, q⟩
    | brk => exact let ⟨z, Hz, J, q⟩ := fin; ⟨z, Hz, J.ofTry ok, q⟩
    | cont => exact let ⟨z, Hz, J, q⟩ := fin; ⟨z, Hz, J.ofTry ok, q⟩
    | ret u => exact let ⟨v, z, Hz, J, r, q⟩ := fin; ⟨v, z, Hz, J.ofTry ok, r, q⟩
  case caught =>
    rintro u s' ⟨a, B, sI, _, z, Hz, cls, d, rfl, Jt, nb, up, sky, na, os, ag, w⟩
    have J : Inv X pins z Hz sI := Jt.ofTry ok
    rw [hs] at sky
    refine Sky.land Zc.steady fr hf sky fun h3 f3 u3 => ?_
    have J3 : Inv X pins z Hz { s' with heap := h3 } := J.landed nb f3.1 (up.trans u3) os ag
    have apart : ∀ {h : Heap} {o : Obj} {vs : Array Value}, h.FunFrames B (X.env :: X.outer) → h.get? a = some o → o.data = .fields vs → a ∉ frs (X.env :: X.outer) := fun ff e dd hm => by
      obtain ⟨_, o', e', hn⟩ := ff.mem hm
      cases e.symm.trans e'
      exact hn _ dd
    obtain ⟨o3, v3, e3, z3, d3⟩ := f3.there
    have nf := apart f3.2.2.1 e3 d3
    have nl : a ≠ X.env.locals := fun q => nf (List.mem_filterMap.mpr ⟨X.env, List.mem_cons_self, by rw [hf, q]⟩)
    have no : a ∉ X.fs := fun hm => let ⟨e, he, q⟩ := List.mem_filterMap.mp hm; nf (List.mem_filterMap.mpr ⟨e, List.mem_cons_of_mem _ he, q⟩)
    have S3 := J3.suite e3 d3 na nl no
    have LT : PySem.W.Looks (model X.prog X.w) h3 (typeOf (.ref a)) cls := fun A Q E s k q => wpAny_typeOf_ref (k _ _ e3) (by rw [z3.1]; exact q)
    -- once more held by the frame, with the suite's invariant
    have again : ∀ {h4 : Heap}, HandSPX.FlyingZ B (X.env :: X.outer) a (Zc cls d) h4 → h3.UpToSlots h4 → ∃ o4, Inv (X.suite a ((a, o4) :: (X.pn ++ pins))) [] z Hz { s' with heap := h4 } ∧ Zc cls d o4 ∧ ∃ vs, o4.data = .fields vs := fun {h4} f4 u4 => by
      obtain ⟨o4, v4, e4, z4, d4⟩ := f4.there
      have J4 : L2.Inv X pins z Hz { s' with heap := h4 } := J.landed nb f4.1 ((up.trans u3).trans u4) os ag
      exact ⟨o4, J4.suite e4 d4 na nl no, z4, _, d4⟩
    have go : ∀ {hs' : List ExceptHandler} {l' : List Cl}, Hds X hs' l' → wMix X.K Wo D l' cls d z Hz → wpAny (model X.prog X.w) X.A (handleBy (.ref a) X.env hs') (SP X pins D) X.xe { s' with heap := h3 } := by
      intro hs' l' hk
      induction hk with
      | nil =>
        intro w
        refine passes hf f3 fun h4 f4 u4 => tk _ _ ?_
        exact ⟨a, B, sI, pins, z, Hz, cls, d, rfl, J, nb, (up.trans u3).trans u4, .inr (.inr (by rw [hs]; exact f4)), na, os, ag, w⟩
      | bare hc hsu r ih =>
        rintro ⟨b, hb1, yes, nope⟩
        refine wpAny_handleBy_cons (codeAny_handlers_test (nameRead hc S3 ((PySem.W.exm_one (M := model X.prog X.w) J3.kIn LT hb1).here ?_))) (by intro q; cases q)
        cases b with
        | false => exact ih (nope rfl)
        | true =>
          refine codeAny_handlers_suite (HandSPX.lands_againZ f3 fun h4 f4 u4 => ?_)
          obtain ⟨o4, S4, z4, w4⟩ := again f4 u4
          refine wpAny_mono ((hsu a o4 cls d (X.pn ++ pins) z4 w4).run [] _ _ Hz _ S4 (yes rfl a na)) (fun f s6 fin => ?_) fun _ _ x => x.elim
          cases f with
          | next => exact let ⟨y, Hy, S, q⟩ := fin; ⟨y, Hy, S.unsuite ok, q⟩
          | brk => exact let ⟨y, Hy, S, q⟩ := fin; ⟨y, Hy, S.unsuite ok, q⟩
          | cont => exact let ⟨y, Hy, S, q⟩ := fin; ⟨y, Hy, S.unsuite ok, q⟩
          | ret u => exact let ⟨v, y, Hy, S, r, q⟩ := fin; ⟨v, y, Hy, S.unsuite ok, r, q⟩
      | @named x n c i ts b₀ su np pq hs2 l2 nd hi hl hc hsu r ih =>
        rintro ⟨b, hb1, yes, nope⟩
        refine wpAny_handleBy_cons (codeAny_handlers_test (nameRead hc S3 ((PySem.W.exm_one (M := model X.prog X.w) J3.kIn LT hb1).here ?_))) (by intro q; cases q)
        cases b with
        | false => exact ih (nope rfl)
        | true =>
          refine codeAny_handlers_suite_as (HandSPX.lands_againZ f3 fun h4 f4 u4 => ?_)
          obtain ⟨o4, S4, z4, w4⟩ := again f4 u4
          refine store_ok (X := X.suite a ((a, o4) :: (X.pn ++ pins))) (v := .ref a) S4 nd hi (.inl hl) rfl (fun s5 S5 => ?_) (.inr hl)
          refine wpAny_mono ((hsu a o4 cls d (X.pn ++ pins) z4 w4).run [] s5 _ Hz _ S5 (yes rfl a na)) (fun f s6 fin => ?_) fun _ _ x => x.elim
          have gone : ∀ {y : L2.St} {Hy : Hp} {Q : Shared → Prop}, Inv (X.suite a ((a, o4) :: (X.pn ++ pins))) [] y Hy s6 → (∀ s7, Inv X pins (y.set i none) Hy s7 → Q s7) →
              wpAny (model X.prog X.w) X.A (do bindName X.env n .none; unbindBehindTheSuite X.env n pq) (fun _ s7 => Q s7) X.xe s6 := fun S q => gone_ok (S.unsuite ok) nd hi hl q
          cases f with
          | next => exact let ⟨y, Hy, S, q⟩ := fin; gone S fun s7 J7 => ⟨_, _, J7, q⟩
          | brk => exact let ⟨y, Hy, S, q⟩ := fin; gone S fun s7 J7 => ⟨_, _, J7, q⟩
          | cont => exact let ⟨y, Hy, S, q⟩ := fin; gone S fun s7 J7 => ⟨_, _, J7, q⟩
          | ret u => exact let ⟨v, y, Hy, S, r, q⟩ := fin; gone S fun s7 J7 => ⟨_, _, _, J7, r, q⟩
    exact go hh w
end
end TM

set_option Elab.async false
set_option linter.all false
set_option maxRecDepth 100000
set_option maxHeartbeats 4000000
set_option pp.maxSteps 400
set_option pp.deepTerms false
namespace Wd
open PySem L2 TL
open SX (S)

open PySem.Spec PyProof.Rows
/-! ### errors -/
/-- an own error that keeps its one argument -/
structure ErrE (P : Program) (w : World) (K : PySem.W.Frag) (mg : Str → Option Value) (base : Heap) (x f : Str) (C : Addr) (BN BI initId newId : String) (bN bmB : List Value) (ps : List Str) : Prop where
  g : mg x = some (.ref C)
  FN : ExcBaseFacts BN newId initId bN
  U : Ek.Above bmB BN BI
  T : Ek.EC K C bmB newId
  b : PySem.W.subIn K (.ref C) (.type "BaseException") = some true
  t : PySem.W.typeIn K (.ref C) = some (.type "type")
  i : ∃ fI fd, PySem.W.findIn K (.ref C) "__init__" = some (some (.ref fI)) ∧ PySem.W.typeIn K (.ref fI) = some (.type "function") ∧ FnOk P w K mg base CX0 1 fI fd ps (Ek.spInitX C f) ∧ Binds K fd ps []
/-- what an error told under E: its own dict holds the value -/
def Told (E : XK) (H : Hp) (C : Addr) (f : Str) (y : V) : Prop := ∀ d H', H d = none → Same H H' → H' d = some (.xd [(f, y)]) → E (.ref C) (some d) H'
theorem Told.at_ {E : XK} {H H1 : Hp} {C : Addr} {f : Str} {y : V} (t : Told E H C f y) (s : Same H H1) : Told E H1 C f y := fun d H' hd s' e => t d H' (by
  cases h : H d with
  | none => rfl
  | some o => rw [s _ _ h] at hd; cases hd) (s.trans s') e
abbrev ErrP (P : Program) (w : World) (K : PySem.W.Frag) (mg : Str → Option Value) (base : Heap) (C : Addr) : Prop := ∃ BN BI initId newId, ∃ bN bmB, ErrE P w K mg base "ParseError" "index" C BN BI initId newId bN bmB ["self", "index"]
abbrev anyE (W : WX) (n : Nat) : XK := fun cls d H => ∀ σ : L2.St, σ.length = n → W cls d σ H
theorem passLen {X : Cx} {W : WX} {n : Nat} (tk : Takes X W) (hn : X.N.length = n) : Passes (L2.CX X.prog X.w) X (anyE W n) := fun pins σ H s e s' I c => tk e s' (XE.of_call I (fun cls d H' h => h σ (I.len.trans hn)) c)
/-- a def that stands at its name and may raise -/
structure AtX (P : Program) (w : World) (K : PySem.W.Frag) (mg : Str → Option Value) (base : Heap) (k : Nat) (x : Str) (f : Addr) (fd : FuncData) (ps : List Str) (sp : Sp) : Prop where
  m : mg x = some (.ref f)
  kp : PySem.W.keepIn K (.ref f) = true
  b : Binds K fd ps []
  g : FnOk P w K mg base (L2.CX P w) k f fd ps sp
/-- an own error without more -/
structure ErrT (K : PySem.W.Frag) (mg : Str → Option Value) (x : Str) (C : Addr) : Prop where
  g : mg x = some (.ref C)
  x : PySem.W.excIn K C [.type "ValueError", .type "Exception", .type "BaseException", .type "object"] "ValueError.__new__" = true
  k : PySem.W.keepIn K (.ref C) = true
  b : PySem.W.subIn K (.ref C) (.type "BaseException") = some true
  t : PySem.W.typeIn K (.ref C) = some (.type "type")
end Wd

set_option Elab.async false
set_option linter.all false
set_option maxRecDepth 100000
set_option maxHeartbeats 4000000
set_option pp.maxSteps 400
set_option pp.deepTerms false
namespace Wd
open PySem L2 TL
open SX (S)

open PySem.Spec PyProof.Rows CwR
/-! ### stands that are written -/
theorem sign_ok {cs : List Nat} (h : ∀ c ∈ cs, c < 128) : PyData.strOk (S cs) = true := by
  unfold PyData.strOk
  rw [Array.all_eq_true']
  intro c hc
  have := h c (by simpa [S] using hc)
  have : c < 1114112 := by omega
  simpa using this
mutual
theorem fit_up {m n : Nat} (h : m ≤ n) : ∀ {d : PyData}, fitB m d = true → fitB n d = true
  | .str z, g => by
    unfold fitB at g ⊢
    rw [Bool.and_eq_true, decide_eq_true_eq] at g ⊢
    exact ⟨by omega, g.2⟩
  | .list ds, g => by
    unfold fitB at g ⊢
    rw [Bool.and_eq_true, decide_eq_true_eq] at g ⊢
    exact ⟨by omega, fit_upL h g.2⟩
  | .tuple ds, g => by
    unfold fitB at g ⊢
    rw [Bool.and_eq_true, decide_eq_true_eq] at g ⊢
    exact ⟨by omega, fit_upL h g.2⟩
  | .dict kvs, g => g
  | .none, _ => rfl
  | .bool _, _ => rfl
  | .int _, _ => rfl
theorem fit_upL {m n : Nat} (h : m ≤ n) : ∀ {ds : List PyData}, fitL m ds = true → fitL n ds = true
  | [], _ => rfl
  | d :: ds, g => by
    unfold fitL at g ⊢
    rw [Bool.and_eq_true] at g ⊢
    exact ⟨fit_up h g.1, fit_upL h g.2⟩
end
theorem mem_join {s c : Nat} : ∀ {P : List (List Nat)}, c ∈ joinL [s] P → c = s ∨ ∃ p ∈ P, c ∈ p
  | [], h => nomatch h
  | [p], h => .inr ⟨p, by simp, h⟩
  | p :: q :: r, h => by
    have h : c ∈ p ++ ([s] ++ joinL [s] (q :: r)) := h
    rcases List.mem_append.mp h with h | h
    · exact .inr ⟨p, by simp, h⟩
    · rcases List.mem_append.mp h with h | h
      · exact .inl (List.mem_singleton.mp h)
      · rcases mem_join h with h | ⟨x, hx, h⟩
        · exact .inl h
        · exact .inr ⟨x, by simp [hx], h⟩
theorem intL_sign {i : Int} (h1 : -ten60 < i) (h2 : i < ten60) : ∀ c ∈ intL i, c = 45 ∨ (48 ≤ c ∧ c ≤ 57) := by
  obtain ⟨cs, h, dg, l1, _⟩ := intL_dig h1 h2
  intro c hc
  rcases h with e | e
  · rw [e] at hc
    exact .inr (dg c hc)
  · rw [e] at hc
    rcases List.mem_cons.mp hc with rfl | hc
    · exact .inl rfl
    · exact .inr (dg c hc)
theorem intL_len {i : Int} (h1 : -ten60 < i) (h2 : i < ten60) : (intL i).length ≤ 61 := by
  obtain ⟨cs, h, dg, l1, l2, _⟩ := intL_dig h1 h2
  rcases h with e | e
  · rw [e]
    omega
  · rw [e, List.length_cons]
    omega
theorem word_sign {z : Str} (h : wordB (.str z) = true) : ∀ c ∈ tl z, 97 ≤ c ∧ c ≤ 122 := by
  have h : (decide (z.cps.toList ≠ []) && z.cps.toList.all lowB) = true := h
  rw [Bool.and_eq_true, all_low] at h
  exact fun c hc => h.2 c hc
theorem intB_i {i : Int} (h : intB (.int i) = true) : -ten60 < i ∧ i < ten60 := by
  have h : (decide (-ten60 < i) && decide (i < ten60)) = true := h
  rw [Bool.and_eq_true, decide_eq_true_eq, decide_eq_true_eq] at h
  exact h
/-- an item without parts is a word, an integer or None -/
theorem flat_is {d : PyData} (no : ∀ ds, d ≠ .tuple ds) {k : Nat} (h : itemB k d = true) : d = .none ∨ (∃ z, d = .str z ∧ wordB (.str z) = true) ∨ ∃ i, d = .int i ∧ -ten60 < i ∧ i < ten60 := by
  by_cases hn : d = .none
  · exact .inl hn
  · rw [itemB_no no hn, Bool.or_eq_true] at h
    cases d with
    | str z => exact .inr (.inl ⟨z, rfl, h.elim id fun z => nomatch z⟩)
    | int i => exact .inr (.inr ⟨i, rfl, intB_i (h.elim (fun z => nomatch z) id)⟩)
    | none => exact absurd rfl hn
    | tuple ds => exact absurd rfl (no ds)
    | bool b => exact (h.elim (fun z => nomatch z) fun z => nomatch z)
    | list ds => exact (h.elim (fun z => nomatch z) fun z => nomatch z)
    | dict ds => exact (h.elim (fun z => nomatch z) fun z => nomatch z)
theorem item_pure : ∀ (k : Nat) {d : PyData}, itemB k d = true → pureB d = true
  | k, d, h => by
    rcases no_parts (d := d) with ⟨ds, rfl⟩ | no
    · have hb := itemB_parts h
      have hk : 0 < k := by
        rw [itemB_tup, Bool.and_eq_true, decide_eq_true_eq] at h
        exact h.1
      exact pureL_iff.mpr fun e he => item_pure (k - 1) (hb e he)
    · rcases flat_is no h with rfl | ⟨z, rfl, _⟩ | ⟨i, rfl, _⟩ <;> rfl
termination_by k => k
theorem item_signs : ∀ (k : Nat) {d : PyData}, itemB k d = true → ∀ c ∈ itemT d, 32 ≤ c ∧ c < 128
  | k, d, h => by
    rcases no_parts (d := d) with ⟨ds, rfl⟩ | no
    · have hb := itemB_parts h
      have hk : 0 < k := by
        rw [itemB_tup, Bool.and_eq_true, decide_eq_true_eq] at h
        exact h.1
      intro c hc
      rw [itemT_tup] at hc
      rcases List.mem_cons.mp hc with rfl | hc
      · omega
      · rcases List.mem_append.mp hc with hc | hc
        · rcases mem_join hc with rfl | ⟨p, hp, hc⟩
          · omega
          · obtain ⟨e, he, rfl⟩ := List.mem_map.mp hp
            exact item_signs (k - 1) (hb e he) c hc
        · rw [List.mem_singleton.mp hc]
          omega
    · rcases flat_is no h with rfl | ⟨z, rfl, hz⟩ | ⟨i, rfl, h1, h2⟩
      · intro c hc
        rw [List.mem_singleton.mp (show c ∈ [45] from hc)]
        omega
      · intro c hc
        have := word_sign hz c hc
        omega
      · intro c hc
        have := intL_sign h1 h2 c hc
        omega
termination_by k => k
theorem item_small {m : Nat} (hm : 61 ≤ m) : ∀ (k : Nat) {d : PyData}, itemB k d = true → fitB m d = true → ∀ w ∈ itemWs d, w.length ≤ m ∧ PyData.strOk (S w) = true
  | k, d, h, ft => by
    rcases no_parts (d := d) with ⟨ds, rfl⟩ | no
    · have hb := itemB_parts h
      have hf := (fit_tup ft).2
      have hk : 0 < k := by
        rw [itemB_tup, Bool.and_eq_true, decide_eq_true_eq] at h
        exact h.1
      intro w hw
      have hw : w ∈ [40] :: (itemWL ds ++ [[41]]) := hw
      rw [itemWL_flat] at hw
      rcases List.mem_cons.mp hw with rfl | hw
      · exact ⟨by show 1 ≤ m; omega, by decide +kernel⟩
      · rcases List.mem_append.mp hw with hw | hw
        · obtain ⟨l, hl, hw⟩ := List.mem_flatten.mp hw
          obtain ⟨e, he, rfl⟩ := List.mem_map.mp hl
          exact item_small hm (k - 1) (hb e he) (hf e he) w hw
        · rw [List.mem_singleton.mp hw]
          exact ⟨by show 1 ≤ m; omega, by decide +kernel⟩
    · intro w hw
      have hw : w = itemT d := by
        rw [(flat_item no h).1] at hw
        exact List.mem_singleton.mp hw
      have sg := item_signs k h
      rw [hw]
      refine ⟨?_, sign_ok fun c hc => (sg c hc).2⟩
      rcases flat_is no h with rfl | ⟨z, rfl, hz⟩ | ⟨i, rfl, h1, h2⟩
      · show 1 ≤ m
        omega
      · unfold fitB at ft
        rw [Bool.and_eq_true, decide_eq_true_eq] at ft
        show (tl z).length ≤ m
        have : (tl z).length = z.length := Array.length_toList
        omega
      · have := intL_len h1 h2
        show (intL i).length ≤ m
        omega
termination_by k => k
/-- a stand whose text is not too long -/
structure StOk (d : PyData) : Prop where
  s : standB d = true
  f : fitB 390000 d = true
  l : (itemT d).length ≤ 320000
theorem StOk.pure {d : PyData} (h : StOk d) : pureB d = true := item_pure 20 (stand_item h.s).1
theorem stand_text {d : PyData} (h : StOk d) : TextOk (itemT d) := by
  obtain ⟨ib, _⟩ := stand_item h.s
  refine ⟨h.l, fun p hp => ?_, ?_, ?_⟩
  · by_cases e : p = []
    · subst e
      exact ⟨Nat.zero_le _, by decide +kernel⟩
    · have : p ∈ wordsL (wide (itemT d)) := List.mem_filter.mpr ⟨hp, by simpa using e⟩
      rw [read_words ib] at this
      exact item_small (by decide) 20 ib h.f p this
  · rw [read_stand h.s]
    exact fit_up (by decide) h.f
  · rw [read_stand h.s]
    have := h.l
    omega
theorem stand_back {d : PyData} (h : StOk d) : standD (itemT d) = d := by
  unfold standD
  rw [read_stand h.s, h.s, decide_eq_true rfl, Bool.and_self, if_pos rfl]
/-! ### rows of data -/
theorem DAL.get {A : List Addr} {H : Hp} {ds : List PyData} {xs : List V} (l : ds.length = xs.length) (h : ∀ (i : Nat) (hi : i < ds.length) y, xs[i]? = some y → DA A H ds[i] y) : DAL A H ds xs :=
  DAL.of l fun i d v e f => by
    have hi := (List.getElem?_eq_some_iff.mp e).1
    rw [List.getElem?_eq_getElem hi] at e
    cases e
    exact h i hi v f
/-- a comprehension whose elements are known data -/
theorem lc_data {J : It} {n : Nat} {G : Hp → Prop} {Y : Nat → Hp → V → Hp → Prop} (w : Walk J n G Y) (ds : List PyData) (hw : ds.length = n) (pu : ∀ d ∈ ds, pureB d = true) {g : TG} {te : TE} {vs : List Nat} {σ : L2.St} {H1 : Hp} {D : Addr} {Qd : Hp → Prop}
    (hD : H1 D = none) (hn : n ≤ 400000) (hG : ∀ H, Same H1 H → G H)
    (hs : ∀ i x H H' (kT : VK) (hi : i < ds.length), Same H1 H → Y i H x H' → (∀ H4 v, Same H H4 → DA [] H4 ds[i] v → kT v H4) → g x (wipe σ vs) H' fun σ2 H2 => wipe σ2 vs = wipe σ vs ∧ te σ2 H2 kT)
    (hd : ∀ H ys, Same H1 H → H D = some (.lst ys) → DAL [] H ds ys → Qd H) :
    ∃ W : Nat → Nat → Hp → Prop, (∃ m, W 0 m (upd H1 D (.lst []))) ∧ ∀ i m H, W i m H →
      (J.stop i H ∧ Qd H) ∨ (J.go i H ∧ ∃ Nx : Hp → Prop, (∀ H', Nx H' → ∃ m', m' < m ∧ W (i + 1) m' H') ∧ ∀ x H', J.yld i H x H' → g x (wipe σ vs) H' fun σ2 H2 => wipe σ2 vs = wipe σ vs ∧ tYes σ2 H2 fun b H3 =>
        if b = true then te σ2 H3 fun y H4 => ∃ acc, H4 D = some (.lst acc) ∧ acc.length < sizeLine ∧ Nx (upd H4 D (.lst (acc ++ [y]))) else Nx H3) :=
  lc_keepW w (fun i H y => ∃ hi : i < ds.length, DA [] H ds[i] y) (fun i H H' y k ⟨hi, h⟩ => ⟨hi, h.tk k (pu _ (List.getElem_mem hi))⟩) hD hn hG
    (fun i x H H' kT hi s y h => hs i x H H' kT (by omega) s y fun H4 v s4 dv => h v H4 s4 ⟨by omega, dv⟩)
    fun H ys s d l r => hd H ys s d (DAL.get (by omega) fun i hi y e => (r i y e).2)
end Wd

set_option Elab.async false
set_option linter.all false
set_option maxRecDepth 100000
set_option maxHeartbeats 4000000
set_option pp.maxSteps 400
set_option pp.deepTerms false
namespace Wd
open PySem L2 TL
open SX (S)

open PySem.Spec PyProof.Rows CwR
/-! ### lines of events -/
def evWs : PyData → List (List Nat)
  | .tuple [.int t, .str u, .str l, .int v] => [intL t, tl u, tl l, intL v]
  | _ => []
def evL (d : PyData) : List Nat := joinL [32] (evWs d)
def untW : List Nat := tl (Str.ofString "until")
def untilL (l : Int) : List Nat := joinL [32] [untW, intL l]
theorem timeB_i {i : Int} (h : timeB (.int i) = true) : 0 ≤ i ∧ i < ten60 := by
  have h : (decide (0 ≤ i) && decide (i < ten60)) = true := h
  rw [Bool.and_eq_true, decide_eq_true_eq, decide_eq_true_eq] at h
  exact h
theorem event_parts {d : PyData} (h : eventB d = true) : ∃ t u l v, d = .tuple [.int t, .str u, .str l, .int v] ∧ 0 ≤ t ∧ t < ten60 ∧ nameB (.str u) = true ∧ letterB (.str l) = true ∧ -ten60 < v ∧ v < ten60 := by
  cases d with
  | tuple ds =>
    match ds, h with
    | [t, u, l, w], h =>
      have h : (timeB t && (nameB u && (letterB l && intB w))) = true := h
      rw [Bool.and_eq_true, Bool.and_eq_true, Bool.and_eq_true] at h
      obtain ⟨h1, h2, h3, h4⟩ := h
      cases t with
      | int t =>
        cases u with
        | str u =>
          cases l with
          | str l =>
            cases w with
            | int w => exact ⟨t, u, l, w, rfl, (timeB_i h1).1, (timeB_i h1).2, h2, h3, intB_i h4⟩
            | _ => cases h4
          | _ => cases h3
        | _ => cases h2
      | _ => cases h1
    | [], h => cases h
    | [_], h => cases h
    | [_, _], h => cases h
    | [_, _, _], h => cases h
    | _ :: _ :: _ :: _ :: _ :: _, h => cases h
  | _ => cases h
theorem name_signs {u : Str} (h : nameB (.str u) = true) : (∀ c ∈ tl u, low c) ∧ 1 ≤ (tl u).length ∧ (tl u).length ≤ 8 := by
  have h : (decide (1 ≤ u.length) && (decide (u.length ≤ 8) && (u.cps.toList.all lowB && decide (u ∉ words)))) = true := h
  rw [Bool.and_eq_true, Bool.and_eq_true, Bool.and_eq_true, decide_eq_true_eq, decide_eq_true_eq, all_low] at h
  have e : (tl u).length = u.length := Array.length_toList
  exact ⟨h.2.2.1, by omega, by omega⟩
theorem letter_signs {u : Str} (h : letterB (.str u) = true) : (∀ c ∈ tl u, low c) ∧ (tl u).length = 1 := by
  have h : (decide (u.cps.toList.length = 1) && u.cps.toList.all lowB) = true := h
  rw [Bool.and_eq_true, decide_eq_true_eq, all_low] at h
  exact ⟨h.2, h.1⟩
/-- the words of an event -/
theorem event_words {d : PyData} (h : eventB d = true) : evWs d ≠ [] ∧ (∀ w ∈ evWs d, w.length ≤ 61 ∧ ∀ c ∈ w, 33 ≤ c ∧ c < 128) ∧ (evWs d).length = 4 := by
  obtain ⟨t, u, l, v, rfl, t1, t2, hu, hl, v1, v2⟩ := event_parts h
  have z : (0 : Int) < ten60 := by decide
  refine ⟨(fun e => by cases e), fun w hw => ?_, rfl⟩
  have hw : w = intL t ∨ w = tl u ∨ w = tl l ∨ w = intL v := by simpa [evWs] using hw
  have ii : ∀ {i : Int}, -ten60 < i → i < ten60 → (intL i).length ≤ 61 ∧ ∀ c ∈ intL i, 33 ≤ c ∧ c < 128 := fun h1 h2 => ⟨intL_len h1 h2, fun c hc => by have := intL_sign h1 h2 c hc; omega⟩
  rcases hw with rfl | rfl | rfl | rfl
  · exact ii (by omega) t2
  · obtain ⟨a, b, c⟩ := name_signs hu
    exact ⟨by omega, fun c hc => by have := a c hc; unfold low at this; omega⟩
  · obtain ⟨a, b⟩ := letter_signs hl
    exact ⟨by omega, fun c hc => by have := a c hc; unfold low at this; omega⟩
  · exact ii v1 v2
theorem event_line {d : PyData} (h : eventB d = true) : (evL d).length ≤ 400 ∧ (∀ c ∈ evL d, 32 ≤ c ∧ c < 128) ∧ spl [32] 0 [] (evL d) = evWs d := by
  obtain ⟨a, b, c⟩ := event_words h
  refine ⟨?_, fun e he => ?_, ?_⟩
  · have j := join_len (s := 32) (xs := evWs d)
    have s := sum_le (xs := evWs d) (m := 61) fun x hx => (b x hx).1
    rw [c] at s
    show (joinL [32] (evWs d)).length ≤ _
    omega
  · rcases mem_join (s := 32) (P := evWs d) he with rfl | ⟨p, hp, h⟩
    · omega
    · have := (b p hp).2 e h
      omega
  · exact spl_join a fun p hp e => by have := (b p hp).2 32 e; omega
theorem event_fit {d : PyData} (h : eventB d = true) : fitB 8 d = true := by
  obtain ⟨t, u, l, v, rfl, t1, t2, hu, hl, v1, v2⟩ := event_parts h
  have s : ∀ {z : Str}, (∀ c ∈ tl z, low c) → (tl z).length ≤ 8 → fitB 8 (.str z) = true := fun {z} h1 h2 => by
    unfold fitB
    rw [Bool.and_eq_true, decide_eq_true_eq]
    refine ⟨?_, ?_⟩
    · have : (tl z).length = z.length := Array.length_toList
      omega
    · have := sign_ok (cs := tl z) fun c hc => by have := h1 c hc; unfold low at this; omega
      rw [show S (tl z) = z from SX.S_tl z] at this
      exact this
  obtain ⟨a, b, c⟩ := name_signs hu
  obtain ⟨a2, b2⟩ := letter_signs hl
  have f1 := s a c
  have f2 := s a2 (by omega)
  show (decide (4 ≤ 8) && (true && (fitB 8 (.str u) && (fitB 8 (.str l) && (true && true))))) = true
  rw [f1, f2]
  rfl
theorem event_pure {d : PyData} (h : eventB d = true) : pureB d = true := by
  obtain ⟨t, u, l, v, rfl, _⟩ := event_parts h
  rfl
theorem until_line {l : Int} (h1 : -ten60 < l) (h2 : l < ten60) : (untilL l).length ≤ 400 ∧ (∀ c ∈ untilL l, 32 ≤ c ∧ c < 128) ∧ spl [32] 0 [] (untilL l) = [untW, intL l] := by
  have u : ∀ c ∈ untW, 97 ≤ c ∧ c < 128 := by decide +kernel
  have lu : untW.length = 5 := by decide +kernel
  have li := intL_len h1 h2
  have si := intL_sign h1 h2
  refine ⟨?_, fun e he => ?_, ?_⟩
  · have j : (joinL [32] [untW, intL l]).length ≤ (untW.length + ((intL l).length + 0)) + 2 := join_len (s := 32) (xs := [untW, intL l])
    show (joinL [32] [untW, intL l]).length ≤ _
    omega
  · rcases mem_join (s := 32) (P := [untW, intL l]) he with rfl | ⟨p, hp, h⟩
    · omega
    · have hp : p = untW ∨ p = intL l := by simpa using hp
      rcases hp with rfl | rfl
      · have := u e h
        omega
      · have := si e h
        omega
  · refine spl_join (by simp) fun p hp e => ?_
    have hp : p = untW ∨ p = intL l := by simpa using hp
    rcases hp with rfl | rfl
    · have := u 32 e
      omega
    · have := si 32 e
      omega
theorem intW_eq {i : Int} (h1 : -ten60 < i) (h2 : i < ten60) {v : V} (h : IntW (intL i) v) : v = .int i := by
  rcases h with ⟨j, a, b, e, rfl⟩ | ⟨_, h⟩
  · have x := int_back h1 h2
    rw [e, int_back a b] at x
    injection x with x
    rw [x]
  · exact absurd rfl (h i h1 h2)
theorem int_until {i : Int} (h1 : -ten60 < i) (h2 : i < ten60) : intL i ≠ untW := fun e => by
  have si := intL_sign h1 h2 117 (by rw [e]; decide +kernel)
  omega
theorem asc_last {es : List PyData} (ev : es.all eventB = true) (as : ascI (es.map evT) = true) {i : Nat} (hi : i < es.length) : lastT (.tuple (es.take i)) ≤ evT es[i] := by
  cases i with
  | zero =>
    obtain ⟨t, u, l, v, e, t1, _⟩ := event_parts (List.all_eq_true.mp ev _ (List.getElem_mem hi))
    rw [e]
    exact t1
  | succ i =>
    have h1 : i < es.length := by omega
    obtain ⟨a, b, e1, e2, h⟩ := ascI_iff.mp as i (by rw [List.length_map]; omega)
    rw [List.getElem?_map, List.getElem?_eq_getElem h1] at e1
    rw [List.getElem?_map, List.getElem?_eq_getElem hi] at e2
    have e3 : lastT (.tuple (es.take (i + 1))) = evT es[i] := by
      show (match (es.take (i + 1)).getLast? with | some d => evT d | none => 0) = _
      have : (es.take (i + 1)).getLast? = some es[i] := by
        rw [List.getLast?_eq_getElem?, List.length_take, Nat.min_eq_left (by omega), List.getElem?_take_of_lt (by omega)]
        exact List.getElem?_eq_getElem h1
      rw [this]
    injection e1 with e1
    injection e2 with e2
    rw [e3, e1, e2]
    exact h
def spReadStand : Sp := fun vs H Q _ => ∃ (a : Addr) (ls : List (List Nat)) (i : Int) (d : PyData), vs = [.ref a, .int i] ∧ H a = some (.lst (wV ls)) ∧ atI (wV ls) i = some (.str (S (itemT d))) ∧ StOk d ∧ ∀ H' v, Same H H' → DA [] H' d v → Q v H'
def spEventOf : Sp := fun vs H Q _ => ∃ (a : Addr) (d : PyData), vs = [.ref a] ∧ H a = some (.lst (wV (evWs d))) ∧ eventB d = true ∧ ∀ H' v, Same H H' → DA [] H' d v → Q v H'
def rowW : List Nat := tl (Str.ofString "row")
/-- the lines of the events, the last time, and more -/
def tapeLs (es : List PyData) (l : Int) (rest : List (List Nat)) : List (List Nat) := rowW :: (es.map evL ++ untilL l :: rest)
def spReadTape : Sp := fun vs H Q _ => ∃ (a : Addr) (es : List PyData) (l : Int) (rest : List (List Nat)), vs = [.ref a] ∧ H a = some (.lst (wV (tapeLs es l rest))) ∧ (tapeLs es l rest).length ≤ 1000000 ∧ es.all eventB = true ∧ ascI (es.map evT) = true ∧ -ten60 < l ∧ l < ten60 ∧ lastT (.tuple es) ≤ l ∧ ∀ H' v, Same H H' → DA [] H' (.tuple [.tuple es, .int l]) v → Q v H'
section
variable {P : Program} {w : World} {K : PySem.W.Frag} {mg : Str → Option Value} {base : Heap} {fI fL fO fG fV fA : Addr} {dO dG dV dA : FuncData}
theorem scRS : FnScope ["lines", "index", "stand"] ["lines", "index"] (defScope sReadStand) := ⟨rfl, rfl, rfl, by decide +kernel, rfl, by decide +kernel, by decide +kernel⟩
theorem ok_read_stand {f : Addr} {fd : FuncData} (F : Fun K "read_stand" "read_stand" sReadStand f fd) (O : At P w K mg base 25 "stand_of" fO dO ["text"] spStandOf) : FnOk P w K mg base CX0 26 f fd ["lines", "index"] spReadStand := by
  refine F.ok scRS (fun vs H Q E h => ?_) (fun cdv Ao outer s H vs Q E hr h => ?_)
  · obtain ⟨a, ls, i, d, rfl, _⟩ := h
    rfl
  · obtain ⟨a, ls, i, d, rfl, e, at_, ok, q⟩ := h
    have nd := scRS.nd
    refine ⟨_, pss_cons (ps_set (i := 2) nd rfl (Or.inl rfl) (pe_call O.g hr rfl O.m O.kp O.b .nil pass0 (pa_cons (pe_ix (r := rIxL K) ix_list (pv 0) (pv 1) (fun _ _ => rfl)) pa_nil)))
      (pss_cons (ps_if (pt_cmp (pc_isN (pv 2)) rfl) (pss_one ps_never) pss_nil)
      (pss_one (ps_ret (pv 2)))), ?_⟩
    refine ⟨_, rfl, _, rfl, a, _, i, _, rfl, rfl, SqL.of e, at_, itemT d, rfl, stand_text ok, fun H1 v s1 dv => ?_⟩
    rw [stand_back ok] at dv
    have nn : v ≠ .non := fun e => by
      subst e
      cases dv
      have := ok.s
      cases this
    exact ⟨_, rfl, false, congrArg V.bl (decide_eq_false nn), iteF ⟨_, rfl, q _ _ s1 dv⟩⟩
theorem scEO : FnScope ["words", "event"] ["words"] (defScope sEventOf) := ⟨rfl, rfl, rfl, by decide +kernel, rfl, by decide +kernel, by decide +kernel⟩
theorem ok_event_of {f : Addr} {fd : FuncData} (F : Fun K "event_of" "event_of" sEventOf f fd) (X : WTxt mg fI fL) (G : At P w K mg base 1 "integer_of" fG dG ["word"] spIntOf) (VE : At P w K mg base 3 "is_event" fV dV ["value"] (spB eventB)) : FnOk P w K mg base CX0 4 f fd ["words"] spEventOf := by
  refine F.ok scEO (fun vs H Q E h => ?_) (fun cdv Ao outer s H vs Q E hr h => ?_)
  · obtain ⟨a, d, rfl, _⟩ := h
    rfl
  · obtain ⟨a, d, rfl, e, he, q⟩ := h
    have nd := scEO.nd
    have hr1 : Room 1 _ := hr.mono (by decide)
    refine ⟨_, pss_cons (ps_if (pt_cmpR op_ne (pe_callB call_len_seq (by rfl) X.len PySem.boot_len (pa_cons (pv 0) pa_nil)) pe_int (nomark _)) (pss_one (ps_ret pe_non)) pss_nil)
      (pss_cons (ps_set (i := 1) nd rfl (Or.inl rfl) (pe_tup (pa_cons (pe_call G.g hr1 rfl G.m G.kp G.b .nil pass0 (pa_cons (pe_ix (r := rIxL K) ix_list (pv 0) pe_int (fun _ _ => rfl)) pa_nil)) (pa_cons (pe_ix (r := rIxL K) ix_list (pv 0) pe_int (fun _ _ => rfl)) (pa_cons (pe_ix (r := rIxL K) ix_list (pv 0) pe_int (fun _ _ => rfl)) (pa_cons (pe_call G.g hr1 rfl G.m G.kp G.b .nil pass0 (pa_cons (pe_ix (r := rIxL K) ix_list (pv 0) pe_int (fun _ _ => rfl)) pa_nil)) pa_nil))))))
      (pss_one (ps_ret (pe_ifExp (pt_val (pe_call VE.g hr rfl VE.m VE.kp VE.b .nil pass0 (pa_cons (pv 1) pa_nil))) (pv 1) pe_non)))), ?_⟩
    have ft := fit_up (n := 400000) (by decide) (event_fit he)
    obtain ⟨t, u, l, v, rfl, t1, t2, hu, hl, v1, v2⟩ := event_parts he
    have li := intL_len (i := t) (by omega) t2
    have lv := intL_len v1 v2
    refine ⟨_, rfl, a, _, rfl, .inl (SqL.of e), rfl, _, rfl, iteF ?_⟩
    refine ⟨_, rfl, a, _, 0, _, rfl, rfl, SqL.of e, rfl, intL t, rfl, by omega, fun H1 y1 s1 i1 => ?_⟩
    obtain rfl := intW_eq (by omega) t2 i1
    have e1 := s1 _ _ e
    refine ⟨_, rfl, a, _, 1, _, rfl, rfl, SqL.of e1, rfl, _, rfl, a, _, 2, _, rfl, rfl, SqL.of e1, rfl, _, rfl, a, _, 3, _, rfl, rfl, SqL.of e1, rfl, intL v, rfl, by omega, fun H2 y2 s2 i2 => ?_⟩
    obtain rfl := intW_eq v1 v2 i2
    refine ⟨by show 4 ≤ sizeLine; decide, fun p hp => ?_⟩
    have s3 := same_new (o := .tup [.int t, .str (S (tl u)), .str (S (tl l)), .int v]) hp
    have da : DA [] (upd H2 p (.tup [.int t, .str (S (tl u)), .str (S (tl l)), .int v])) (.tuple [.int t, .str u, .str l, .int v]) (.ref p) := by
      refine .tup (fun z => nomatch z) upd_same ?_
      rw [show S (tl u) = u from SX.S_tl u, show S (tl l) = l from SX.S_tl l]
      exact .cons (.int _) (.cons (.str _) (.cons (.str _) (.cons (.int _) .nil)))
    refine ⟨_, rfl, [], .ref p, _, rfl, da, ft, fun H3 s4 => ⟨_, rfl, ?_⟩⟩
    rw [he]
    exact iteT ⟨_, rfl, q _ _ (((s1.trans s2).trans s3).trans s4) (da.same s4)⟩
theorem scRT : FnScope ["lines", "events", "index", "words", "time", "event"] ["lines"] (defScope sReadTape) := ⟨rfl, rfl, rfl, by decide +kernel, rfl, by decide +kernel, by decide +kernel⟩
theorem ok_read_tape {f : Addr} {fd : FuncData} (F : Fun K "read_tape" "read_tape" sReadTape f fd) (X : WTxt mg fI fL) (G : At P w K mg base 1 "integer_of" fG dG ["word"] spIntOf) (L : At P w K mg base 1 "latest_time" fA dA ["events"] spLat) (VE : At P w K mg base 4 "event_of" fV dV ["words"] spEventOf) : FnOk P w K mg base CX0 5 f fd ["lines"] spReadTape := by
  refine F.ok scRT (fun vs H Q E h => ?_) (fun cdv Ao outer s H vs Q E hr h => ?_)
  · obtain ⟨a, es, l, rest, rfl, _⟩ := h
    rfl
  · obtain ⟨a, es, l, rest, rfl, e, ln, ev, as, l1, l2, ll, q⟩ := h
    have nd := scRT.nd
    have hr1 : Room 1 _ := hr.mono (by decide)
    refine ⟨_, pss_cons (ps_set (i := 1) nd rfl (Or.inl rfl) (pe_lst pa_nil))
      (pss_cons (ps_for PassesOwn.never rfl (pi_range2 rfl X.range (pa_cons pe_int (pa_cons (pe_callB call_len_seq (by rfl) X.len PySem.boot_len (pa_cons (pv 0) pa_nil)) pa_nil))) (pg_name (i := 2) nd rfl (Or.inl rfl)) (pss_cons (ps_set (i := 3) nd rfl (Or.inl rfl) (pe_split (pe_ix (r := rIxL K) ix_list (pv 0) (pv 2) (fun _ _ => rfl)) pe_str))
      (pss_cons (ps_set (i := 4) nd rfl (Or.inl rfl) (pe_ifExp (PW.pt (pw_and (pt_cmpR op_eq (pe_ix (r := rIxL K) ix_list (pv 3) pe_int (fun _ _ => rfl)) pe_str (nomark _)) (pw_and1 (pt_cmpR op_eq (pe_callB call_len_seq (by rfl) X.len PySem.boot_len (pa_cons (pv 3) pa_nil)) pe_int (nomark _))))) (pe_call G.g hr1 rfl G.m G.kp G.b .nil pass0 (pa_cons (pe_ix (r := rIxL K) ix_list (pv 3) pe_int (fun _ _ => rfl)) pa_nil)) pe_non))
      (pss_cons (ps_if (PW.pt (pw_and (pt_cmp (pc_notN (pv 4)) rfl) (pw_and1 (pt_cmpR op_ge (pv 4) (pe_call L.g hr1 rfl L.m L.kp L.b .nil pass0 (pa_cons (pv 1) pa_nil)) (nomark _))))) (pss_one (ps_ret (pe_tup (pa_cons (pe_callTy call_tuple_of (by rfl) X.tup (by decide +kernel) (pa_cons (pv 1) pa_nil)) (pa_cons (pv 4) pa_nil))))) pss_nil)
      (pss_cons (ps_set (i := 5) nd rfl (Or.inl rfl) (pe_call VE.g hr rfl VE.m VE.kp VE.b .nil pass0 (pa_cons (pv 3) pa_nil)))
      (pss_cons (ps_if (PW.pt (pw_or (pt_cmp (pc_isN (pv 5)) rfl) (pw_or1 (pt_cmpR op_lt (pe_ix (r := rIxT K) ix_tup (pv 5) pe_int (fun _ _ => rfl)) (pe_call L.g hr1 rfl L.m L.kp L.b .nil pass0 (pa_cons (pv 1) pa_nil)) (nomark _))))) (pss_one ps_never) pss_nil)
      (pss_one (ps_expr (pe_bm PySem.F.plainAttrs_list PySem.F.slot_list_append PySem.F.type_list_append mt_append (pv 1) (pa_cons (pv 5) pa_nil))))))))))
      (pss_one ps_never)), ?_⟩
    refine ⟨by show 0 ≤ sizeLine; decide, fun O hO => ?_⟩
    have sO := same_new (o := .lst []) hO
    have eO : (upd H O (.lst [])) O = some (.lst []) := upd_same
    have e1 := sO _ _ e
    generalize upd H O (.lst []) = H1 at sO eO e1
    have noO : ∀ {H' : Hp} {o : HO}, Same H H' → Same H (upd H' O o) := fun {H' o} s b ob e => by
      rw [upd_ne (ne_of_none e hO)]
      exact s b ob e
    have lw := wV_len (tapeLs es l rest)
    have lt : (tapeLs es l rest).length = es.length + 2 + rest.length := by
      show (es.map evL ++ untilL l :: rest).length + 1 = _
      rw [List.length_append, List.length_map, List.length_cons]
      omega
    have big : (16777216 : Nat) ≤ sizeLine := by decide
    refine ⟨_, rfl, a, _, rfl, .inl (SqL.of e1), _, _, rfl, ⟨by omega, by omega, by omega, by omega⟩, ?_⟩
    refine for_it (n := ((((wV (tapeLs es l rest)).length : Nat) : Int) - 1).toNat) (walk_range (lo := 1)) (fun i σ H' => ∃ (xs : List V) (v2 v3 v4 v5 : Option V), σ = [some (.ref a), some (.ref O), v2, v3, v4, v5] ∧ Same H H' ∧ i ≤ es.length ∧ H' O = some (.lst xs) ∧ DAL [] H' (es.take i) xs)
      ⟨[], _, _, _, _, rfl, sO, Nat.zero_le _, eO, .nil⟩ (fun _ _ _ _ _ => trivial) ?_ ?_
    · rintro i x σ Hx H2 hi ⟨xs, v2, v3, v4, v5, rfl, s2, hie, eO2, dal⟩ ⟨rfl, rfl⟩
      have e2 := s2 _ _ e
      have evt : (es.take i).all eventB = true := List.all_eq_true.mpr fun d hd => List.all_eq_true.mp ev d (List.mem_of_mem_take hd)
      by_cases hlt : i < es.length
      · have he := List.all_eq_true.mp ev _ (List.getElem_mem hlt)
        obtain ⟨el, es1, esp⟩ := event_line he
        obtain ⟨w0, w1, w4⟩ := event_words he
        have at_ : atI (wV (tapeLs es l rest)) (1 + (i : Int)) = some (.str (S (evL es[i]))) := by
          refine at_nn (by omega) ?_
          rw [show (1 + (i : Int)).toNat = i + 1 by omega]
          unfold wV
          rw [List.getElem?_map]
          show ((es.map evL ++ untilL l :: rest)[i]?).map _ = _
          rw [List.getElem?_append_left (by rw [List.length_map]; exact hlt), List.getElem?_map, List.getElem?_eq_getElem hlt]
          rfl
        refine ⟨_, rfl, _, rfl, a, _, _, _, rfl, rfl, SqL.of e2, at_, ⟨_, rfl⟩, _, _, rfl, rfl, rfl, ?_, fun p hp => ?_⟩
        · rw [SX.S_len]
          omega
        have s3 := same_new (o := .lst ((Txt.split (S (evL es[i])) (Str.ofString " ")).map V.str)) hp
        have ep : (upd H2 p (.lst ((Txt.split (S (evL es[i])) (Str.ofString " ")).map V.str))) p = some (.lst (wV (evWs es[i]))) := by
          rw [upd_same, show Str.ofString " " = S [32] from rfl, SX.split_S (by simp) (by decide), esp, wV_eq]
        generalize upd H2 p (.lst ((Txt.split (S (evL es[i])) (Str.ofString " ")).map V.str)) = H3 at s3 ep ⊢
        have eO3 := s3 _ _ eO2
        have dal := dal.same s3
        have s3 := s2.trans s3
        have t0 : ∃ t r, evWs es[i] = intL t :: r ∧ -ten60 < t ∧ t < ten60 := by
          obtain ⟨t, u, l, v, e, t1, t2, _⟩ := event_parts he
          rw [e]
          have z : (0 : Int) < ten60 := by decide
          exact ⟨t, _, rfl, by omega, t2⟩
        obtain ⟨t, r, ew, t1, t2⟩ := t0
        have a0 : atI (wV (evWs es[i])) 0 = some (.str (S (intL t))) := by
          rw [ew]
          exact atI_nat (j := 0) rfl
        refine ⟨_, rfl, p, _, 0, _, rfl, rfl, SqL.of ep, a0, rfl, _, rfl, ?_⟩
        rw [decide_eq_false (show V.str (S (intL t)) ≠ V.str (Str.ofString "until") from fun h => int_until t1 t2 (V_S.mp (by rw [h]; rfl)))]
        refine iteF ⟨_, rfl, false, congrArg (fun t => V.bl (!t)) (decide_eq_true rfl), iteF ?_⟩
        refine ⟨_, rfl, p, es[i], rfl, ep, he, fun H4 v s4 dv => ?_⟩
        obtain ⟨b, tt, ys, rfl, eb, _, et, _⟩ := event_head dv he
        have eO4 := s4 _ _ eO3
        have dal := dal.same s4
        refine ⟨_, rfl, false, congrArg V.bl (decide_eq_false (fun e => nomatch e)), iteF ?_⟩
        refine ⟨_, rfl, b, _, 0, _, rfl, rfl, SqT.of eb, atI_nat (j := 0) rfl, _, rfl, [], O, xs, _, rfl, .inr eO4, dal, evt, fun H5 s5 => ?_⟩
        have al := asc_last ev as hlt
        rw [et] at al
        refine ⟨_, _, rfl, rfl, _, rfl, ?_⟩
        rw [decide_eq_false (by omega)]
        have eO5 := s5 _ _ eO4
        have lx : xs.length = i := by rw [← dal.length, List.length_take]; omega
        refine iteF ⟨_, rfl, .inl ⟨rfl, _, SqL.of eO5⟩, _, rfl, O, xs, _, rfl, rfl, eO5, by omega, ?_⟩
        have k : TK H5 (upd H5 O (.lst (xs ++ [.ref b]))) := TK.lst eO5
        refine ⟨_, _, _, _, _, rfl, noO ((s3.trans s4).trans s5), hlt, upd_same, ?_⟩
        rw [List.take_succ_eq_append_getElem hlt]
        exact ((dal.same s5).tk k (pureL_iff.mpr fun d hd => event_pure (List.all_eq_true.mp evt d hd))).app (.cons ((dv.same s5).tk k (event_pure he)) .nil)
      · obtain rfl : i = es.length := by omega
        obtain ⟨el, es1, esp⟩ := until_line l1 l2
        have at_ : atI (wV (tapeLs es l rest)) (1 + (es.length : Int)) = some (.str (S (untilL l))) := by
          refine at_nn (by omega) ?_
          rw [show (1 + (es.length : Int)).toNat = es.length + 1 by omega]
          unfold wV
          rw [List.getElem?_map]
          show ((es.map evL ++ untilL l :: rest)[es.length]?).map _ = _
          rw [List.getElem?_append_right (by rw [List.length_map]; omega), List.length_map, Nat.sub_self]
          rfl
        refine ⟨_, rfl, _, rfl, a, _, _, _, rfl, rfl, SqL.of e2, at_, ⟨_, rfl⟩, _, _, rfl, rfl, rfl, ?_, fun p hp => ?_⟩
        · rw [SX.S_len]
          omega
        have s3 := same_new (o := .lst ((Txt.split (S (untilL l)) (Str.ofString " ")).map V.str)) hp
        have ep : (upd H2 p (.lst ((Txt.split (S (untilL l)) (Str.ofString " ")).map V.str))) p = some (.lst (wV [untW, intL l])) := by
          rw [upd_same, show Str.ofString " " = S [32] from rfl, SX.split_S (by simp) (by decide), esp, wV_eq]
        generalize upd H2 p (.lst ((Txt.split (S (untilL l)) (Str.ofString " ")).map V.str)) = H3 at s3 ep ⊢
        have eO3 := s3 _ _ eO2
        have dal := dal.same s3
        have s3 := s2.trans s3
        refine ⟨_, rfl, p, _, 0, _, rfl, rfl, SqL.of ep, rfl, rfl, _, rfl, ?_⟩
        rw [decide_eq_true (show V.str (S untW) = V.str (Str.ofString "until") from congrArg V.str (SX.S_tl _))]
        refine iteT ⟨_, rfl, p, _, rfl, .inl (SqL.of ep), rfl, _, rfl, iteT ?_⟩
        refine ⟨_, rfl, p, _, 1, _, rfl, rfl, SqL.of ep, rfl, intL l, rfl, by have := intL_len l1 l2; omega, fun H4 v s4 iw => ?_⟩
        obtain rfl := intW_eq l1 l2 iw
        have eO4 := s4 _ _ eO3
        have dal := dal.same s4
        refine ⟨_, rfl, true, congrArg (fun t => V.bl (!t)) (decide_eq_false (fun e => nomatch e)), iteT ?_⟩
        rw [List.take_length] at dal evt
        refine ⟨_, rfl, _, rfl, [], O, xs, es, rfl, .inr eO4, dal, ev, fun H5 s5 => ⟨_, _, rfl, rfl, _, rfl, ?_⟩⟩
        rw [decide_eq_true ll]
        have eO5 := s5 _ _ eO4
        have dal := dal.same s5
        refine iteT ⟨_, rfl, O, xs, rfl, .inl ⟨SqL.of eO5, fun b hb => ⟨_, rfl, by show 2 ≤ sizeLine; decide, fun c hc => ?_⟩⟩⟩
        have sb := same_new (o := .tup xs) hb
        have sc := same_new (o := .tup [.ref b, .int l]) hc
        refine q _ _ ((((s3.trans s4).trans s5).trans sb).trans sc) ?_
        exact .tup (fun z => nomatch z) upd_same (.cons (.tup (fun z => nomatch z) (sc _ _ upd_same) ((dal.same sb).same sc)) (.cons (.int _) .nil))
    · rintro σ H2 ⟨xs, v2, v3, v4, v5, rfl, s2, hie, eO2, dal⟩
      omega
end
end Wd

set_option Elab.async false
set_option linter.all false
set_option maxRecDepth 100000
set_option maxHeartbeats 4000000
set_option pp.maxSteps 400
set_option pp.deepTerms false
namespace Wd
open PySem L2 TL
open SX (S)

open PySem.Spec PyProof.Rows CwR
/-! ### rounds -/
def rTupO (K : PySem.W.Frag) : List V → Hp → VK → Prop := fun xs H Q => ∃ p ys, xs = [.ref p] ∧ ((SqL K H p ys ∧ ∀ l, H l = none → Q (.ref l) (upd H l (.tup ys))) ∨ (SqT K H p ys ∧ Q (.ref p) H))
theorem call_tupO {X : Cx} {K : PySem.W.Frag} (h : X.K = K) : CallR X (.type "tuple") (rTupO K) := by
  subst h
  exact call_tuple_of
def rndW : List Nat := tl (Str.ofString "round")
def roundLs (ss : List PyData) : List (List Nat) := rndW :: ss.map itemT
theorem stand_head {d : PyData} (h : standB d = true) : ∃ r, itemT d = 40 :: r := by
  obtain ⟨_, ds, rfl⟩ := stand_item h
  exact ⟨_, itemT_tup ds⟩
def whole (st : List (List PyData × Addr)) (cur : List PyData) : List (List PyData) := match st with
  | [] => []
  | p :: r => (r.map (·.1)).reverse ++ [p.1 ++ cur]
def spRounds : Sp := fun vs H Q _ => ∃ (a : Addr) (pre : List (List Nat)) (rs : List (List PyData)), vs = [.ref a, .int (rs.length : Nat)] ∧ H a = some (.lst (wV (pre ++ rs.flatMap roundLs))) ∧ pre.length = rs.length + 2 ∧ (pre ++ rs.flatMap roundLs).length ≤ 1000000 ∧ rs.length ≤ 390000 ∧ (∀ ss ∈ rs, ss.length ≤ 390000 ∧ ∀ d ∈ ss, StOk d) ∧ ∀ H' v, Same H H' → DA [] H' (.tuple (rs.map .tuple)) v → Q v H'
section
variable {P : Program} {w : World} {K : PySem.W.Frag} {mg : Str → Option Value} {base : Heap} {fI fL fR fT fD : Addr} {dR dT dD : FuncData}
abbrev nRR : List Str := ["lines", "many", "rounds", "index", "stands"]
theorem scRR : FnScope nRR ["lines", "many"] (defScope sReadRounds) := ⟨rfl, rfl, rfl, by decide +kernel, rfl, by decide +kernel, by decide +kernel⟩
theorem ok_read_rounds {f : Addr} {fd : FuncData} (F : Fun K "read_rounds" "read_rounds" sReadRounds f fd) (X : WTxt mg fI fL) (R : At P w K mg base 26 "read_stand" fR dR ["lines", "index"] spReadStand) : FnOk P w K mg base CX0 27 f fd ["lines", "many"] spRounds := by
  refine F.ok scRR (fun vs H Q E h => ?_) (fun cdv Ao outer s H vs Q E hr h => ?_)
  · obtain ⟨a, pre, rs, rfl, _⟩ := h
    rfl
  · obtain ⟨a, pre, rs, rfl, e, lp, ln, ln9, rok, q⟩ := h
    have nd := scRR.nd
    refine ⟨_, pss_cons (ps_set (i := 2) nd rfl (Or.inl rfl) (pe_lst pa_nil))
      (pss_cons (ps_for PassesOwn.never rfl (pi_range2 rfl X.range (pa_cons (pe_op op_add (pv 1) pe_int) (pa_cons (pe_callB call_len_seq (by rfl) X.len PySem.boot_len (pa_cons (pv 0) pa_nil)) pa_nil))) (pg_name (i := 3) nd rfl (Or.inl rfl)) (pss_one (ps_if (PW.pt (pw_and (pt_cmpR op_eq (pe_ix (r := rIxL K) ix_list (pv 0) (pv 3) (fun _ _ => rfl)) pe_str (nomark _)) (pw_and1 (pt_cmpR op_lt (pe_callB call_len_seq (by rfl) X.len PySem.boot_len (pa_cons (pv 2) pa_nil)) (pv 1) (nomark _))))) (pss_one (ps_expr (pe_bm PySem.F.plainAttrs_list PySem.F.slot_list_append PySem.F.type_list_append mt_append (pv 2) (pa_cons (pe_lst pa_nil) pa_nil)))) (pss_one (ps_if (pt_cmpR op_gt (pe_callB call_len_seq (by rfl) X.len PySem.boot_len (pa_cons (pv 2) pa_nil)) pe_int (nomark _)) (pss_one (ps_expr (pe_bm PySem.F.plainAttrs_list PySem.F.slot_list_append PySem.F.type_list_append mt_append (pe_ix ix_list (pv 2) (pe_un un_neg pe_int) (fun _ _ => rfl)) (pa_cons (pe_call R.g hr rfl R.m R.kp R.b .nil pass0 (pa_cons (pv 0) (pa_cons (pv 3) pa_nil))) pa_nil)))) (pss_one ps_never))))))
      (pss_cons (ps_if (pt_cmpR op_lt (pe_callB call_len_seq (by rfl) X.len PySem.boot_len (pa_cons (pv 2) pa_nil)) (pv 1) (nomark _)) (pss_one ps_never) pss_nil)
      (pss_one (ps_ret (pe_callTy call_tuple_of (by rfl) X.tup (by decide +kernel) (pa_cons (pe_lc (own := [("stands", 4)]) (g := gName 4) (tt := tYes) rfl nd (pi_list (pv 2)) (blkOk_by (N := nRR) (sc := defScope sReadRounds) (by decide +kernel)) (fun _ _ _ _ _ => pg_name (i := 4) nd rfl (Or.inl rfl)) (fun _ _ _ _ _ => pts_nil) (fun _ _ _ _ _ => (pe_callTy (call_tupO (K := K) rfl) (by rfl) X.tup (by decide +kernel) (pa_cons (pv 4) pa_nil)))) pa_nil)))))), ?_⟩
    refine ⟨by show 0 ≤ sizeLine; decide, fun O hO => ?_⟩
    have sO := same_new (o := .lst []) hO
    have eO : (upd H O (.lst [])) O = some (.lst []) := upd_same
    have e1 := sO _ _ e
    generalize upd H O (.lst []) = H1 at sO eO e1
    have noO : ∀ {H' : Hp} {o : HO}, Same H H' → Same H (upd H' O o) := fun {H' o} s b ob e => by
      rw [upd_ne (ne_of_none e hO)]
      exact s b ob e
    have lw := wV_len (pre ++ rs.flatMap roundLs)
    have la : (pre ++ rs.flatMap roundLs).length = rs.length + 2 + (rs.flatMap roundLs).length := by
      rw [List.length_append]
      omega
    have big : (16777216 : Nat) ≤ sizeLine := by decide
    generalize hL : rs.flatMap roundLs = L at e e1 lw la ln
    refine ⟨_, rfl, _, _, rfl, rfl, _, rfl, a, _, rfl, .inl (SqL.of e1), _, _, rfl, ⟨by omega, by omega, by omega, by omega⟩, ?_⟩
    have en : ((((wV (pre ++ L)).length : Nat) : Int) - ((rs.length : Nat) + 2 : Int)).toNat = L.length := by omega
    rw [en]
    refine for_it (n := L.length) (walk_range (lo := ((rs.length : Nat) : Int) + 2)) (fun i σ H' => ∃ (st : List (List PyData × Addr)) (cur : List PyData) (rest : List (List PyData)) (v3 v4 : Option V), σ = [some (.ref a), some (.int (rs.length : Nat)), some (.ref O), v3, v4] ∧ Same H H' ∧ StAt H O H' st ∧ (st = [] → cur = []) ∧ whole st cur ++ rest = rs ∧ L.drop i = cur.map itemT ++ rest.flatMap roundLs)
      ⟨[], [], rs, _, _, rfl, sO, ⟨eO, (fun p h => nomatch h), (fun p h => nomatch h), List.nodup_nil, (fun h => nomatch h), fun p h => nomatch h⟩, fun _ => rfl, rfl, by rw [List.drop_zero, ← hL]; rfl⟩ (fun _ _ _ _ _ => trivial) ?_ ?_
    · rintro i x σ Hx H2 hi ⟨st, cur, rest, v3, v4, rfl, s2, m, hc, hw, hd⟩ ⟨rfl, rfl⟩
      have e2 := s2 _ _ e
      have wl : (whole st cur).length = st.length := by
        cases st with
        | nil => rfl
        | cons p r =>
          show ((r.map (·.1)).reverse ++ [p.1 ++ cur]).length = _
          rw [List.length_append, List.length_reverse, List.length_map]
          rfl
      have lr : st.length + rest.length = rs.length := by rw [← hw, List.length_append, wl]
      have at_ : ∀ x, (L.drop i).head? = some x → atI (wV (pre ++ L)) (((rs.length : Nat) : Int) + 2 + (i : Int)) = some (.str (S x)) := fun x hx => by
        refine at_nn (by omega) ?_
        rw [show (((rs.length : Nat) : Int) + 2 + (i : Int)).toNat = pre.length + i by omega]
        unfold wV
        rw [List.getElem?_map, List.getElem?_append_right (by omega), show pre.length + i - pre.length = i by omega]
        rw [List.head?_drop] at hx
        rw [hx]
        rfl
      have dn : L.drop (i + 1) = (L.drop i).tail := by rw [List.tail_drop]
      have lO : (List.map V.ref (st.map (·.2)).reverse).length = st.length := by simp
      cases cur with
      | nil =>
        cases rest with
        | nil =>
          have := congrArg List.length hd
          rw [List.length_drop] at this
          simp at this
          omega
        | cons s0 rest =>
          have hd : L.drop i = rndW :: (s0.map itemT ++ rest.flatMap roundLs) := hd
          have a0 := at_ rndW (by rw [hd]; rfl)
          refine ⟨_, rfl, _, rfl, a, _, _, _, rfl, rfl, SqL.of e2, a0, rfl, _, rfl, ?_⟩
          rw [decide_eq_true (show V.str (S rndW) = V.str (Str.ofString "round") from congrArg V.str (SX.S_tl _))]
          have lr' : st.length + (rest.length + 1) = rs.length := lr
          refine iteT ⟨_, rfl, O, _, rfl, .inl (SqL.of m.l), _, rfl, _, _, rfl, rfl, _, rfl, ?_⟩
          rw [lO, decide_eq_true (by omega)]
          refine iteT ⟨_, rfl, .inl ⟨rfl, _, SqL.of m.l⟩, by show 0 ≤ sizeLine; decide, fun p hp => ?_⟩
          have hp0 : H p = none := by
            cases h : H p with
            | none => rfl
            | some o => rw [s2 _ _ h] at hp; cases hp
          obtain ⟨m', k⟩ := m.push hp hp0
          have s3 := same_new (o := .lst []) hp
          refine ⟨O, _, .ref p, rfl, rfl, s3 _ _ m.l, by rw [lO]; omega, ?_⟩
          refine ⟨([], p) :: st, s0, rest, _, _, rfl, noO (s2.trans s3), m', (fun h => nomatch h), ?_, ?_⟩
          · rw [← hw]
            show ((st.map (·.1)).reverse ++ [[] ++ s0]) ++ rest = whole st [] ++ s0 :: rest
            rw [List.nil_append, List.append_assoc]
            show (st.map (·.1)).reverse ++ (s0 :: rest) = _
            congr 1
            cases st with
            | nil => rfl
            | cons q r =>
              show (q.1 :: r.map (·.1)).reverse = (r.map (·.1)).reverse ++ [q.1 ++ []]
              rw [List.reverse_cons, List.append_nil]
          · rw [dn, hd]
            rfl
      | cons c cur =>
        cases st with
        | nil => exact absurd (hc rfl) (by simp)
        | cons p r =>
          obtain ⟨t, b⟩ := p
          have hd : L.drop i = itemT c :: (cur.map itemT ++ rest.flatMap roundLs) := hd
          have a0 := at_ (itemT c) (by rw [hd]; rfl)
          have tin : t ++ c :: cur ∈ rs := by
            rw [← hw]
            show t ++ c :: cur ∈ ((r.map (·.1)).reverse ++ [t ++ c :: cur]) ++ rest
            simp
          obtain ⟨t9, tok⟩ := rok _ tin
          have okc := tok c (by simp)
          obtain ⟨r0, h40⟩ := stand_head okc.s
          refine ⟨_, rfl, _, rfl, a, _, _, _, rfl, rfl, SqL.of e2, a0, rfl, _, rfl, ?_⟩
          rw [decide_eq_false (show V.str (S (itemT c)) ≠ V.str (Str.ofString "round") from fun e => by
            have e' : itemT c = rndW := V_S.mp (by rw [e]; rfl)
            rw [h40] at e'
            have : (40 :: r0).head? = rndW.head? := by rw [e']
            rw [show rndW.head? = some 114 from by decide +kernel] at this
            injection this with this
            exact absurd this (by decide))]
          refine iteF ⟨_, rfl, O, _, rfl, .inl (SqL.of m.l), _, _, rfl, rfl, _, rfl, ?_⟩
          rw [lO, decide_eq_true (by simp)]
          have eO2 : H2 O = some (.lst ((r.map (·.2)).reverse.map V.ref ++ [.ref b])) := by
            rw [m.l]
            show some (HO.lst ((b :: r.map (·.2)).reverse.map V.ref)) = _
            rw [List.reverse_cons, List.map_append]
            rfl
          obtain ⟨xs, eb, dl⟩ := m.it (t, b) (by simp)
          have eb : H2 b = some (.lst xs) := eb
          have lxs : t.length = xs.length := dl.length
          have t9 : t.length + (cur.length + 1) ≤ 390000 := by
            rw [List.length_append] at t9
            exact t9
          have b0 : H b = none := m.nw (t, b) (by simp)
          refine iteT ⟨_, rfl, _, rfl, O, _, _, _, rfl, rfl, SqL.of eO2, atI_last _ _, .inl ⟨rfl, _, SqL.of eb⟩, _, rfl, _, rfl, a, _, _, c, rfl, e2, a0, okc, fun H3 v s3 dv => ?_⟩
          refine ⟨b, xs, v, rfl, rfl, s3 _ _ eb, by omega, ?_⟩
          obtain ⟨m', k⟩ := (m.keep s3).item (s3 _ _ eb) dv okc.pure
          refine ⟨(t ++ [c], b) :: r, cur, rest, _, _, rfl, fun d o e => ?_, m', (fun h => nomatch h), ?_, ?_⟩
          · rw [upd_ne (ne_of_none e b0)]
            exact s3 _ _ (s2 _ _ e)
          · rw [← hw]
            show ((r.map (·.1)).reverse ++ [(t ++ [c]) ++ cur]) ++ rest = ((r.map (·.1)).reverse ++ [t ++ c :: cur]) ++ rest
            rw [List.append_assoc t]
            rfl
          · rw [dn, hd]
            rfl
    · rintro σ H2 ⟨st, cur, rest, v3, v4, rfl, s2, m, hc, hw, hd⟩
      rw [List.drop_length] at hd
      have hd1 : cur.map itemT = [] ∧ rest.flatMap roundLs = [] := List.append_eq_nil_iff.mp hd.symm
      have c0 : cur = [] := List.map_eq_nil_iff.mp hd1.1
      have r0 : rest = [] := by
        cases rest with
        | nil => rfl
        | cons s r => cases hd1.2
      subst c0
      subst r0
      rw [List.append_nil] at hw
      have hw : (st.map (·.1)).reverse = rs := by
        rw [← hw]
        cases st with
        | nil => rfl
        | cons q r =>
          show (q.1 :: r.map (·.1)).reverse = (r.map (·.1)).reverse ++ [q.1 ++ []]
          rw [List.reverse_cons, List.append_nil]
      have lst : st.length = rs.length := by rw [← hw]; simp
      have lO : (List.map V.ref (st.map (·.2)).reverse).length = st.length := by simp
      refine ⟨_, rfl, O, _, rfl, .inl (SqL.of m.l), _, rfl, _, _, rfl, rfl, _, rfl, ?_⟩
      rw [lO, decide_eq_false (by omega)]
      refine iteF ⟨_, rfl, O, rfl, ⟨_, SqL.of m.l⟩, fun D hD => ?_⟩
      refine lc_data (walk_list (K := K) (xs := List.map V.ref (st.map (·.2)).reverse) (a := O)) (rs.map .tuple) (by rw [lO, List.length_map, lst]) (fun d hd => ?_) hD (by omega) (fun H4 s4 => SqL.of (s4 _ _ m.l)) ?_ ?_
      · obtain ⟨ss, hs, rfl⟩ := List.mem_map.mp hd
        exact pureL_iff.mpr fun d hd => ((rok ss hs).2 d hd).pure
      · rintro i x H4 H' kT hi s4 ⟨rfl, hx⟩ kk
        rw [List.length_map] at hi
        have hir : i < st.reverse.length := by rw [List.length_reverse]; omega
        have ex : x = .ref st.reverse[i].2 := by
          rw [← List.map_reverse, List.map_map, List.getElem?_map, List.getElem?_eq_getElem hir] at hx
          injection hx with hx
          exact hx.symm
        have er : rs[i] = st.reverse[i].1 := by
          have : rs[i]? = some st.reverse[i].1 := by rw [← hw, ← List.map_reverse, List.getElem?_map, List.getElem?_eq_getElem hir]; rfl
          rw [List.getElem?_eq_getElem hi] at this
          injection this
        have hm : st.reverse[i] ∈ st := List.mem_reverse.mp (List.getElem_mem hir)
        obtain ⟨xs, eb, dl⟩ := m.it _ hm
        refine ⟨rfl, _, rfl, st.reverse[i].2, xs, by rw [ex], .inl ⟨SqL.of (s4 _ _ eb), fun q hq => ?_⟩⟩
        have sq := same_new (o := .tup xs) hq
        refine kk _ _ sq ?_
        rw [List.getElem_map, er]
        exact .tup (fun z => nomatch z) upd_same ((dl.same s4).same sq)
      · intro H4 ys s4 ey dy
        refine ⟨D, ys, rfl, .inl ⟨SqL.of ey, fun b hb => ?_⟩⟩
        have sq := same_new (o := .tup ys) hb
        exact q _ _ ((s2.trans s4).trans sq) (.tup (fun z => nomatch z) upd_same (dy.same sq))
/-! ### papers -/
def listW : List Nat := tl (Str.ofString "list")
def partsD : PyData → List PyData
  | .tuple ss => ss
  | _ => []
def paperLs : PyData → List (List Nat)
  | .tuple [_, .tuple ss] => listW :: ss.map itemT
  | .tuple [_, .tuple es, .int l, .tuple rs] => tapeLs es l ((rs.map partsD).flatMap roundLs)
  | _ => []
def paperT (d : PyData) : List Nat := joinL [10] (paperLs d)
theorem parts_back (rs : List (List PyData)) : (rs.map PyData.tuple).map partsD = rs := by
  rw [List.map_map]
  exact List.map_id' rs
inductive PapOk : PyData → Prop
  | list {ss : List PyData} (n : ss.length ≤ 390000) (h : ∀ d ∈ ss, StOk d) (t : (paperT (.tuple [.str (Str.ofString "list"), .tuple ss])).length ≤ 900000) : PapOk (.tuple [.str (Str.ofString "list"), .tuple ss])
  | row {es : List PyData} {l : Int} {rs : List (List PyData)} (ev : es.all eventB = true) (as : ascI (es.map evT) = true) (l1 : -ten60 < l) (l2 : l < ten60) (ll : lastT (.tuple es) ≤ l) (n : rs.length = es.length) (m : es.length ≤ 390000) (h : ∀ ss ∈ rs, ss.length ≤ 390000 ∧ ∀ d ∈ ss, StOk d)
      (t : (paperT (.tuple [.str (Str.ofString "row"), .tuple es, .int l, .tuple (rs.map .tuple)])).length ≤ 900000) : PapOk (.tuple [.str (Str.ofString "row"), .tuple es, .int l, .tuple (rs.map .tuple)])
theorem stand_no10 {d : PyData} (h : StOk d) : 10 ∉ itemT d := fun e => by
  have := item_signs 20 (stand_item h.s).1 10 e
  omega
/-- the lines of a paper are its text's -/
theorem paper_split {d : PyData} (h : PapOk d) : Txt.split (S (paperT d)) (S [10]) = (paperLs d).map S := by
  rw [SX.split_S (by simp) (by decide)]
  congr 1
  cases h with
  | list n h t =>
    refine spl_join (by simp [paperLs]) fun p hp e => ?_
    have hp : p ∈ listW :: _ := hp
    rcases List.mem_cons.mp hp with rfl | hp
    · exact absurd e (by decide +kernel)
    · obtain ⟨d, hd, rfl⟩ := List.mem_map.mp hp
      exact stand_no10 (h d hd) e
  | @row es l rs ev as l1 l2 ll n m h t =>
    have pe : paperLs (.tuple [.str (Str.ofString "row"), .tuple es, .int l, .tuple (rs.map .tuple)]) = tapeLs es l (rs.flatMap roundLs) := by
      show tapeLs es l (((rs.map PyData.tuple).map partsD).flatMap roundLs) = _
      rw [parts_back]
    unfold paperT
    rw [pe]
    refine spl_join (by simp [tapeLs]) fun p hp e => ?_
    have hp : p ∈ rowW :: (es.map evL ++ untilL l :: rs.flatMap roundLs) := hp
    rcases List.mem_cons.mp hp with rfl | hp
    · exact absurd e (by decide +kernel)
    · rcases List.mem_append.mp hp with hp | hp
      · obtain ⟨d, hd, rfl⟩ := List.mem_map.mp hp
        have := (event_line (List.all_eq_true.mp ev d hd)).2.1 10 e
        omega
      · rcases List.mem_cons.mp hp with rfl | hp
        · have := (until_line l1 l2).2.1 10 e
          omega
        · obtain ⟨ss, hs, hp⟩ := List.mem_flatMap.mp hp
          rcases List.mem_cons.mp hp with rfl | hp
          · exact absurd e (by decide +kernel)
          · obtain ⟨d, hd, rfl⟩ := List.mem_map.mp hp
            exact stand_no10 ((h ss hs).2 d hd) e
theorem PapOk.lines {d : PyData} (h : PapOk d) : (paperLs d).length ≤ 1000000 := by
  have j := join_sum (s := 10) (xs := paperLs d)
  have t : (paperT d).length ≤ 900000 := by cases h <;> assumption
  have e : (joinL [10] (paperLs d)).length = (paperT d).length := rfl
  omega
def spReadPaper : Sp := fun vs H Q _ => ∃ d : PyData, vs = [.str (S (paperT d))] ∧ PapOk d ∧ ∀ H' v, Same H H' → DA [] H' d v → Q v H'
abbrev nRP : List Str := ["text", "lines", "events", "last", "index"]
theorem scRP : FnScope nRP ["text"] (defScope sReadPaper) := ⟨rfl, rfl, rfl, by decide +kernel, rfl, by decide +kernel, by decide +kernel⟩
theorem ok_read_paper {f : Addr} {fd : FuncData} (F : Fun K "read_paper" "read_paper" sReadPaper f fd) (X : WTxt mg fI fL) (R : At P w K mg base 26 "read_stand" fR dR ["lines", "index"] spReadStand) (T : At P w K mg base 5 "read_tape" fT dT ["lines"] spReadTape) (D : At P w K mg base 27 "read_rounds" fD dD ["lines", "many"] spRounds) : FnOk P w K mg base CX0 28 f fd ["text"] spReadPaper := by
  refine F.ok scRP (fun vs H Q E h => ?_) (fun cdv Ao outer s H vs Q E hr h => ?_)
  · obtain ⟨d, rfl, _⟩ := h
    rfl
  · obtain ⟨d, rfl, ok, q⟩ := h
    have nd := scRP.nd
    have hr5 : Room 5 _ := hr.mono (by decide)
    have hr26 : Room 26 _ := hr.mono (by decide)
    refine ⟨_, pss_cons (ps_if (pt_not (pt_val (pe_isi (N := "str") (pv 0) X.isin X.str))) (pss_one ps_never) pss_nil)
      (pss_cons (ps_set (i := 1) nd rfl (Or.inr rfl) (pe_split (pv 0) pe_str))
      (pss_cons (ps_if (pt_cmpR op_eq (pe_ix (r := rIxL K) ix_list (pv 1) pe_int (fun _ _ => rfl)) pe_str (nomark _)) (pss_one (ps_ret (pe_tup (pa_cons pe_str (pa_cons (pe_callTy call_tuple_of (by rfl) X.tup (by decide +kernel) (pa_cons (pe_lc (own := [("index", 4)]) (g := gName 4) (tt := tYes) rfl nd (pi_range2 rfl X.range (pa_cons pe_int (pa_cons (pe_callB call_len_seq (by rfl) X.len PySem.boot_len (pa_cons (pv 1) pa_nil)) pa_nil))) (blkOk_by (N := nRP) (sc := defScope sReadPaper) (by decide +kernel)) (fun _ _ _ _ _ => pg_name (i := 4) nd rfl (Or.inl rfl)) (fun _ _ _ _ _ => pts_nil) (fun _ _ _ _ _ => (pe_call R.g hr26 rfl R.m R.kp R.b .nil pass0 (pa_cons (pv 1) (pa_cons (pv 4) pa_nil))))) pa_nil)) pa_nil))))) pss_nil)
      (pss_cons (ps_if (pt_cmpR op_ne (pe_ix (r := rIxL K) ix_list (pv 1) pe_int (fun _ _ => rfl)) pe_str (nomark _)) (pss_one ps_never) pss_nil)
      (pss_cons (ps_asg (pe_call T.g hr5 rfl T.m T.kp T.b .nil pass0 (pa_cons (pv 1) pa_nil)) (pg_tup rfl (pgs_cons (pg_name (i := 2) nd rfl (Or.inl rfl)) (pgs_cons (pg_name (i := 3) nd rfl (Or.inl rfl)) pgs_nil))))
      (pss_one (ps_ret (pe_tup (pa_cons pe_str (pa_cons (pv 2) (pa_cons (pv 3) (pa_cons (pe_call D.g hr rfl D.m D.kp D.b .nil pass0 (pa_cons (pv 1) (pa_cons (pe_callB call_len_seq (by rfl) X.len PySem.boot_len (pa_cons (pv 2) pa_nil)) pa_nil))) pa_nil))))))))))), ?_⟩
    have big : (16777216 : Nat) ≤ sizeLine := by decide
    have t9 : (paperT d).length ≤ 900000 := by cases ok <;> assumption
    refine ⟨_, rfl, true, isi_ty (.base (.str _)) (by decide), _, rfl, iteF ?_⟩
    refine ⟨_, rfl, ⟨_, rfl⟩, _, _, rfl, rfl, rfl, by rw [SX.S_len]; omega, fun a ha => ?_⟩
    have s1 := same_new (o := .lst ((Txt.split (S (paperT d)) (Str.ofString "\n")).map V.str)) ha
    have e1 : (upd H a (.lst ((Txt.split (S (paperT d)) (Str.ofString "\n")).map V.str))) a = some (.lst (wV (paperLs d))) := by
      rw [upd_same, show Str.ofString "\n" = S [10] from rfl, paper_split ok, wV_eq]
    generalize upd H a (.lst ((Txt.split (S (paperT d)) (Str.ofString "\n")).map V.str)) = H1 at s1 e1 ⊢
    have ln := ok.lines
    cases ok with
    | @list ss n h t =>
      have e1 : H1 a = some (.lst (wV (listW :: ss.map itemT))) := e1
      refine ⟨_, rfl, a, _, 0, _, rfl, rfl, SqL.of e1, atI_nat (j := 0) rfl, rfl, _, rfl, ?_⟩
      rw [decide_eq_true (show V.str (S listW) = V.str (Str.ofString "list") from congrArg V.str (SX.S_tl _))]
      have lw : (wV (listW :: ss.map itemT)).length = ss.length + 1 := by rw [wV_len, List.length_cons, List.length_map]
      refine iteT ⟨_, rfl, a, _, rfl, .inl (SqL.of e1), _, _, rfl, ⟨by omega, by omega, by omega, by omega⟩, fun D0 hD => ?_⟩
      have en : ((((wV (listW :: ss.map itemT)).length : Nat) : Int) - 1).toNat = ss.length := by omega
      rw [en]
      refine lc_data (walk_range (lo := 1)) ss rfl (fun d hd => (h d hd).pure) hD (by omega) (fun _ _ => trivial) ?_ ?_
      · rintro i x H4 H' kT hi s4 ⟨rfl, rfl⟩ kk
        refine ⟨rfl, _, rfl, _, rfl, a, _, _, ss[i], rfl, s4 _ _ e1, ?_, h _ (List.getElem_mem hi), fun H5 v s5 dv => kk _ _ s5 dv⟩
        refine at_nn (by omega) ?_
        rw [show (1 + (i : Int)).toNat = i + 1 by omega]
        unfold wV
        rw [List.getElem?_map]
        show ((ss.map itemT)[i]?).map _ = _
        rw [List.getElem?_map, List.getElem?_eq_getElem hi]
        rfl
      · intro H4 ys s4 ey dy
        refine ⟨D0, ys, rfl, .inl ⟨SqL.of ey, fun b hb => ⟨by show 2 ≤ sizeLine; decide, fun c hc => ?_⟩⟩⟩
        have sb := same_new (o := .tup ys) hb
        have sc := same_new (o := .tup [.str (Str.ofString "list"), .ref b]) hc
        exact q _ _ (((s1.trans s4).trans sb).trans sc) (.tup (fun z => nomatch z) upd_same (.cons (.str _) (.cons (.tup (fun z => nomatch z) (sc _ _ upd_same) ((dy.same sb).same sc)) .nil)))
    | @row es l rs ev as l1 l2 ll n m h t =>
      have pe : paperLs (.tuple [.str (Str.ofString "row"), .tuple es, .int l, .tuple (rs.map .tuple)]) = tapeLs es l (rs.flatMap roundLs) := by
        show tapeLs es l (((rs.map PyData.tuple).map partsD).flatMap roundLs) = _
        rw [parts_back]
      rw [pe] at e1 ln
      refine ⟨_, rfl, a, _, 0, _, rfl, rfl, SqL.of e1, atI_nat (j := 0) rfl, rfl, _, rfl, ?_⟩
      have er : S rowW = Str.ofString "row" := SX.S_tl _
      rw [decide_eq_false (show V.str (S rowW) ≠ V.str (Str.ofString "list") from by rw [er]; decide)]
      refine iteF ⟨_, rfl, a, _, 0, _, rfl, rfl, SqL.of e1, atI_nat (j := 0) rfl, rfl, _, rfl, ?_⟩
      rw [decide_eq_true (show V.str (S rowW) = V.str (Str.ofString "row") from congrArg V.str er)]
      refine iteF ⟨_, rfl, a, es, l, _, rfl, e1, ln, ev, as, l1, l2, ll, fun H2 v s2 dv => ?_⟩
      have e2 := s2 _ _ e1
      cases dv with
      | @tup p xs _ np ep dl =>
        cases dl with
        | @cons _ _ v1 _ d1 dl =>
          cases dl with
          | @cons _ _ v2 _ d2 dl =>
            cases dl
            cases d2
            cases d1 with
            | @tup b ys _ nb eb de =>
              have lb := de.length
              refine ⟨p, _, rfl, SqT.of ep, rfl, _, _, rfl, _, _, rfl, rfl, ?_⟩
              refine ⟨_, rfl, _, rfl, _, rfl, _, rfl, b, ys, rfl, .inr (SqT.of eb), a, rowW :: (es.map evL ++ [untilL l]), rs, ?_, ?_, ?_, ?_, by omega, h, fun H3 v s3 dv => ?_⟩
              · rw [← lb, n]
                rfl
              · rw [e2]
                congr 3
                show rowW :: (es.map evL ++ untilL l :: rs.flatMap roundLs) = (rowW :: (es.map evL ++ [untilL l])) ++ rs.flatMap roundLs
                simp
              · simp
                omega
              · have : (rowW :: (es.map evL ++ [untilL l])) ++ rs.flatMap roundLs = tapeLs es l (rs.flatMap roundLs) := by
                  show _ = rowW :: (es.map evL ++ untilL l :: rs.flatMap roundLs)
                  simp
                rw [this]
                exact ln
              · refine ⟨by show 4 ≤ sizeLine; decide, fun c hc => ?_⟩
                have sc := same_new (o := .tup [.str (Str.ofString "row"), .ref b, .int l, v]) hc
                exact q _ _ (((s1.trans s2).trans s3).trans sc) (.tup (fun z => nomatch z) upd_same (.cons (.str _) (.cons (.tup (fun z => nomatch z) (sc _ _ (s3 _ _ eb)) ((de.same s3).same sc)) (.cons (.int _) (.cons (dv.same sc) .nil)))))
end
end Wd

set_option Elab.async false
set_option linter.all false
set_option maxRecDepth 100000
set_option maxHeartbeats 4000000
set_option pp.maxSteps 400
set_option pp.deepTerms false
namespace Wd
open PySem PySem.Spec PyProof.Rows L2
/-! ### a comprehension whose element may raise -/
def cpR (M : Model) (A : Around) (E : Value → Shared → Prop) (Q : Value → Shared → Prop) (acc : Value) (ce : Env) (r : Result) (t : Shared) : Prop := match r with
  | .ok _ => ∃ m, t.heap.Ns ce.locals m ∧ ∀ h2, Heap.SameBut ce.locals t.heap h2 → Q acc { t with heap := h2 }
  | .error x => ∃ m, t.heap.Ns ce.locals m ∧ ∀ h2, Heap.SameBut ce.locals t.heap h2 → wpAny M A (passOn "comprehension.variables-let-go" x ce : Sem Value) (fun _ _ => False) E { t with heap := h2 }
theorem comp_freeR {M : Model} {A : Around} {E : Value → Shared → Prop} {s : Shared} {env : Env} {e : Expr} {scope : Scope} {pos : Pos} {na fi : Sem Value} {g : Comprehension} {gs : List Comprehension} {cl : List (Str × Addr)} {Q : Value → Shared → Prop}
    (c1 : clausesOf e = g :: gs) (c2 : ∀ x, foldedSetIterable g.iter env x = pure x) (c3 : closureFor scope env = pure cl) (c4 : scope.kind = .function) (c5 : ∀ x ∈ scope.names, x.2 = .local → scope.names.lookup x.1 = some .local)
    (h : wpAny M A fi (fun x t1 => wpAny M A (pyIter x) (fun it t2 => wpAny M A na (fun acc t3 => wpAny M A (newFunctionEnv scope env.globals cl [] env.qual none .none (some env)) (fun c t4 =>
      codeAny M A (.compStart e 0 it acc { c with scope := relabel scope env }) (cpR M A E Q acc { c with scope := relabel scope env }) t4) E t3) E t2) E t1) E s) :
    wpAny M A (comprehension e scope env pos na false fi none) Q E s := by
  unfold comprehension
  rw [c3, c1]
  refine wpAny_bind (wpAny_mono h (fun x t1 k1 => wpAny_bind (wpAny_standAt (wpAny_bind (wpAny_of_eq (c2 x) (wpAny_bind (wpAny_holding (wpAny_mono k1 (fun it t2 k2 => wpAny_standIf (wpAny_bind (wpAny_mono k2 (fun acc t3 k3 =>
    wpAny_bind (wpAny_pure (wpAny_bind (wpAny_mono k3 (fun c t4 k4 => ?_) fun _ _ z => z)))) fun _ _ z => z))) fun _ _ z => z))))))) fun _ _ z => z)
  dsimp only
  have lv : ∀ x ∈ (scope.names.filter fun x => (x.2 == .local || x.2 == .cell) && x.1 != (".0" : Str)).reverse, x.2 = .local → Env.kindOf { c with scope := relabel scope env } x.1 = some .local := fun x hx hl =>
    lookup_relabel_local (c5 x (List.mem_filter.mp (List.mem_reverse.mp hx)).1 hl)
  refine wpAny_holding (wpAny_bind (wpAny_attempt (wpAny_holding (wpAny_run (codeAny_mono k4 fun r t hr => ?_)))))
  cases r with
  | ok f =>
    obtain ⟨m, hn, hr⟩ := hr
    exact wpAny_bind (wpAny_holding (wpAny_comp_letGo (cenv := { c with scope := relabel scope env }) c4 _ t m lv hn fun h2 m2 _ sb => wpAny_pure (hr h2 sb)))
  | error x =>
    obtain ⟨m, hn, hr⟩ := hr
    exact wpAny_bind (wpAny_holding (wpAny_comp_letGo (cenv := { c with scope := relabel scope env }) c4 _ t m lv hn fun h2 m2 _ sb => wpAny_mono (hr h2 sb) (fun _ _ f => f.elim) fun _ _ y => y))
theorem noteFrame_same {e : Value} {a b : Env} (h : a.frame = b.frame) : noteFrame e a = noteFrame e b := by
  unfold noteFrame PySem.frameOf
  rw [h]
/-- a block whose exceptions go to xe -/
abbrev blkR (X : Cx) (s : Shared) (H : Hp) (scope : Scope) (cenv : Env) (fp : List Addr) (xe : Value → Shared → Prop) : Cx := { X.blk s H scope cenv fp with xe := xe }
/-- an element's exception, at the variables' dict C -/
def RzE (X : Cx) (pins : List (Addr × Obj)) (σ : L2.St) (C : Addr) (E : XK) (u : Value) (s' : Shared) : Prop := ∃ H1 s1 m, Inv X pins σ H1 s1 ∧ FpOk X pins H1 C ∧ s1.heap.Ns C m ∧ L2.CX X.prog X.w X.stack H1 s1 E u s'
theorem funFrames_at {h h' base B : Heap} : ∀ {l : List Env}, h.FunFrames base l → (∀ L ∈ frs l, B.get? L = none ∧ ∀ o, h.get? L = some o → h'.get? L = some o) → h'.FunFrames B l
  | [], _, _ => trivial
  | env :: l, ⟨hk, ⟨L, o, hf, _, ho, hd⟩, hr⟩, hn => by
    have q := hn L (List.mem_filterMap.mpr ⟨env, List.mem_cons_self, hf⟩)
    exact ⟨hk, ⟨L, o, hf, q.1, q.2 o ho, hd⟩, funFrames_at hr fun b hb => by
      obtain ⟨e, he, z⟩ := List.mem_filterMap.mp hb
      exact hn b (List.mem_filterMap.mpr ⟨e, List.mem_cons_of_mem _ he, z⟩)⟩
theorem frames_none {h base : Heap} {l : List Env} (f : h.FunFrames base l) : ∀ L ∈ frs l, base.get? L = none := fun L hL => (f.mem hL).1
section
variable {X : Cx} {pins : List (Addr × Obj)} {σ : L2.St}
/-- held in our frame, the block's variables let go -/
theorem RzE.held {E : XK} {H1 H2 : Hp} {s1 s2 : Shared} {C a : Addr} {B : Heap} {cls : Value} {d : Option Addr} (I : Inv X pins σ H1 s1) (fC : FpOk X pins H1 C) {oC : Obj} (sC : s1.heap.get? C = some oC) (hok : HOk X.prog X.w H2 B) (ub : UB (frs X.stack) H1 H2 s1.heap B s2.heap)
    (na : H2 a = none) (os : s2.os = s1.os) (ag : AllBare s2.gens) (hE : E cls d H2) {h3 : Heap} (up : ∀ b o, b ∈ frs X.stack → s2.heap.get? b = some o → (∀ vs, o.data ≠ .fields vs) → ∃ sl, h3.get? b = some { o with slots := sl }) (hh : HandSPX.HeldZ (PySem.W.hideAll B [C]) X.stack a (Zc cls d) X.env.locals h3) : XE X (fun cls d _ H => E cls d H) (.ref a) { s2 with heap := h3 } := by
  have cB : (PySem.W.hideAll B [C]).get? C = none := PySem.W.hideAll_none _ (by simp)
  have inB : ∀ {b o}, B.get? b = some o → b ≠ C → (PySem.W.hideAll B [C]).get? b = some o := fun e n => PySem.W.hideAll_get _ e (by simpa using n)
  obtain ⟨G, g1, g2⟩ := restrict h3 fun b => ((PySem.W.hideAll B [C]).get? b).isSome || decide (b ∈ frs X.stack)
  have st := hh.1
  have gB : ∀ b o, (PySem.W.hideAll B [C]).get? b = some o → G.get? b = some o := fun b o e => by
    rw [g1 b (by simp [e])]
    exact st b o e
  have gF : ∀ b ∈ frs X.stack, G.get? b = h3.get? b := fun b hb => g1 b (by simp [hb])
  have og : ∀ b o, G.get? b = some o → h3.get? b = some o ∧ (((PySem.W.hideAll B [C]).get? b).isSome = true ∨ b ∈ frs X.stack) := fun b o e => by
    cases q : (((PySem.W.hideAll B [C]).get? b).isSome || decide (b ∈ frs X.stack)) with
    | false =>
      rw [g2 b q] at e
      cases e
    | true =>
      rw [g1 b q] at e
      exact ⟨e, by simpa [Bool.or_eq_true] using q⟩
  have I1 : Inv X pins σ H1 { s1 with heap := PySem.W.hideAll s1.heap [C], toks := s1.toks } := I.turned (it := C) (fun b o n e => PySem.W.hideAll_get _ e (by simpa using n)) fC.1 fC.2.1 fC.2.2.2.1 fC.2.2.2.2.1 fC.2.2.2.2.2
  have neC : ∀ {b o}, (PySem.W.hideAll s1.heap [C]).get? b = some o → s1.heap.get? b = some o ∧ b ≠ C := fun e => ⟨PySem.W.of_hideAll _ e, fun q => by
    rw [q, PySem.W.hideAll_none _ (by simp)] at e
    cases e⟩
  have c2 : H2 C = none := ub.free C oC sC fC.1
  have slotF : ∀ b o, (PySem.W.hideAll s1.heap [C]).get? b = some o → b ∈ frs X.stack → ∃ sl, G.get? b = some { o with slots := sl } := fun b o e hb => by
    obtain ⟨_, o2, e2, hd⟩ := I1.stack.mem hb
    have e2 : (PySem.W.hideAll s1.heap [C]).get? b = some o2 := e2
    rw [e] at e2
    cases e2
    obtain ⟨sl, q⟩ := ub.slot b o (neC e).1 hb
    obtain ⟨sl2, q2⟩ := up b _ hb q hd
    exact ⟨sl2, by rw [gF b hb]; exact q2⟩
  refine ⟨a, PySem.W.hideAll B [C], { s1 with heap := G, gens := s2.gens, drawn := s2.drawn, toks := s2.toks }, pins, σ, H2, cls, d, rfl, ?_, fun b o e hb => ?_, Heap.UpToSlots.of_keeps fun b o e => (og b o e).1, .inr (.inr hh), na, os, ag, hE⟩
  · refine (I1.call (ch := []) (h' := G) (g' := s2.gens) (t' := s2.toks) (d' := s2.drawn) (H' := H2) ⟨fun b o e n hb _ => gB b o (inB (ub.keep b o (neC e).1 n hb) (neC e).2), fun b o e n hb _ => slotF b o e hb, fun b o e n _ => ub.free b o (neC e).1 n, fun b o e _ => ?_, ub.tups, ub.frzs, ub.tbls⟩ (fun b o q => (hok b o q).stay (fun c u hc r => gB c u (inB r fun z => ?_)) (fun _ r => r) fun _ _ r => r) ag (fun _ z => nomatch z) : Inv X pins σ H2 { { s1 with heap := PySem.W.hideAll s1.heap [C], toks := s1.toks } with heap := G, gens := s2.gens, drawn := s2.drawn, toks := s2.toks })
    · by_cases hb : b ∈ frs X.stack
      · obtain ⟨sl, q⟩ := slotF b o e hb
        exact ⟨_, q⟩
      · obtain ⟨o2, q⟩ := ub.there b o (neC e).1 hb
        exact ⟨o2, gB b o2 (inB q (neC e).2)⟩
    · rw [z] at hc
      rcases hc with hc | hc
      · rw [← hc, c2] at q
        cases q
      · rw [c2] at hc
        cases hc
  · obtain ⟨e3, h⟩ := og b o e
    rcases h with h | h
    · obtain ⟨o2, q⟩ := Option.isSome_iff_exists.mp h
      have z := st b o2 q
      rw [e3] at z
      cases z
      exact q
    · exact absurd h hb
theorem none_hide {B : Heap} {C b : Addr} (h : B.get? b = none) : (PySem.W.hideAll B [C]).get? b = none := by
  cases q : (PySem.W.hideAll B [C]).get? b with
  | none => rfl
  | some o =>
    rw [PySem.W.of_hideAll _ q] at h
    cases h
/-- an element's exception leaves the comprehension -/
theorem RzE.out {E : XK} {ce : Env} {Q : Value → Shared → Prop} {acc : Value} (hst : X.stack = X.env :: X.outer) (hf : X.env.frame = some X.env.locals) (tk : Takes X (fun cls d _ H => E cls d H)) (ef : ce.frame = X.env.frame) {u : Value} {s2 : Shared} (x : RzE X pins σ ce.locals E u s2) :
    notedBy (model X.prog X.w) X.A ce (fun e t => cpR (model X.prog X.w) X.A X.xe Q acc ce (.error e) t) u s2 := by
  obtain ⟨H1, s1, m, I, fC, nsC, a, B, H2, cls, d, rfl, fl, hok, ub, na, os, ag, hE⟩ := x
  have hfr : X.A.frames = some (X.env :: X.outer) := by rw [I.ok.frames, hst]
  obtain ⟨oC, sC⟩ : ∃ o, s1.heap.get? ce.locals = some o := let ⟨o, _, _, e, _⟩ := nsC; ⟨o, e⟩
  have nF : ce.locals ∉ frs X.stack := fun hm => (List.mem_cons.mp (I.stkSub _ hm)).elim fC.2.1 fC.2.2.1
  have bC : B.get? ce.locals = some oC := ub.keep _ _ sC fC.1 nF
  have bF := frames_none fl.2.2.1
  show wpAny _ _ (noteFrame (.ref a) ce) _ _ s2
  rw [noteFrame_same ef]
  rw [hst] at fl
  refine HandSPX.looks_onZ Zc.steady hfr hf fl fun h1 hh up => ⟨m, nsC.at fun o e => ?_, fun h2 sb => ?_⟩
  · rw [sC] at e
    cases e
    exact hh.1 _ _ bC
  rw [← hst] at hh
  obtain ⟨k1, k2, k3, oe, vs, T, oT, ts, he, hz, hd, e1, nT, Te, hT, hdT, e3⟩ := hh
  have na2 : a ≠ ce.locals := fun z => by
    rw [← z, k2] at bC
    cases bC
  have nT2 : T ≠ ce.locals := fun z => by
    rw [← z, nT] at bC
    cases bC
  have at2 : ∀ b, b ≠ ce.locals → h2.get? b = h1.get? b := fun b n => sb.2 b n
  have hh2 : HandSPX.HeldZ (PySem.W.hideAll B [ce.locals]) X.stack a (Zc cls d) X.env.locals h2 :=
    ⟨fun b o e => (at2 b fun z => by
        rw [z, PySem.W.hideAll_none _ (by simp)] at e
        cases e).trans (k1 b o (PySem.W.of_hideAll _ e)), none_hide k2, funFrames_at k3 fun L hL => ⟨none_hide (bF L hL), fun o e => (at2 L fun z => nF (z ▸ hL)).trans e⟩, oe, vs, T, oT, ts, (at2 _ na2).trans he, hz, hd, e1, none_hide nT, Te, (at2 _ nT2).trans hT, hdT, e3⟩
  have up2 : ∀ b o, b ∈ frs X.stack → s2.heap.get? b = some o → (∀ vs, o.data ≠ .fields vs) → ∃ sl, h2.get? b = some { o with slots := sl } := fun b o hb e n => by
    obtain ⟨sl, q⟩ := up b o e n
    exact ⟨sl, (at2 b fun z => nF (z ▸ hb)).trans q⟩
  show wpAny _ _ (PySem.passOn _ _ _) _ _ _
  unfold PySem.passOn
  refine wpAny_bind (wpAny_field ((at2 _ na2).trans he) hd e1 ?_)
  rw [if_neg (show ¬ ((Value.ref T == Value.none) = true) from by simp)]
  rw [ef, hf]
  refine wpAny_bind (HandSPX.setFlight_onZ (Z := Zc cls d) hh2 fun h3 hh3 up3 => ?_)
  exact wpAny_throw (tk _ _ (RzE.held I fC sC hok ub na os ag hE (fun b o hb e n => by
    obtain ⟨sl, q⟩ := up2 b o hb e n
    obtain ⟨sl3, q3⟩ := up3 b _ q n
    exact ⟨sl3, q3⟩) hh3))
end
end Wd

set_option Elab.async false
set_option linter.all false
set_option maxRecDepth 100000
set_option maxHeartbeats 4000000
set_option pp.maxSteps 400
set_option pp.deepTerms false
namespace Wd
open PySem PySem.Spec PyProof.Rows L2
section
variable {X : Cx}
theorem lc_coreR {E : XK} {pins : List (Addr × Obj)} {s : Shared} {σ : L2.St} {H : Hp} {Q : VK} {elt tg iter : Expr} {ifs : List Expr} {scope : Scope} {own : List (Str × Nat)} {pos ps2 : Pos} {wi : TI} {g : TG} {tt : TT} {te : TE} {Qf : Value → Shared → Prop}
    (st : X.stack = X.env :: X.outer) (hf : X.env.frame = some X.env.locals) (tk : Takes X (fun cls d _ H => E cls d H)) (calm : X.calm = true) (nd : X.N.Nodup) (I : Inv X pins σ H s) (hi : PI X tg iter wi) (ok : BlkOk X.N X.env.scope scope own)
    (hg : ∀ (s : Shared) (H : Hp) (C : Addr) (cl : List (Str × Addr)) (fp : List Addr) (xe : Value → Shared → Prop), PG (blkR X s H scope (compEnvC scope cl C X.env) fp xe) tg g) (ht : ∀ (s : Shared) (H : Hp) (C : Addr) (cl : List (Str × Addr)) (fp : List Addr) (xe : Value → Shared → Prop), PTs (blkR X s H scope (compEnvC scope cl C X.env) fp xe) ifs tt)
    (he : ∀ (s : Shared) (H : Hp) (C : Addr) (cl : List (Str × Addr)) (fp : List Addr) (xe : Value → Shared → Prop), Passes (L2.CX X.prog X.w) (blkR X s H scope (compEnvC scope cl C X.env) fp xe) E → PE (blkR X s H scope (compEnvC scope cl C X.env) fp xe) elt te) (hs : ∀ x, foldedSetIterable iter X.env x = pure x) (h : tLc wi g tt te (own.map (·.2)) σ H Q)
    (back : ∀ D C s' m H', Inv X pins σ H' s' → Q (.ref D) H' → s'.heap.Ns C m → FpOk X pins H' C → ∀ h2, Heap.SameBut C s'.heap h2 → Qf (.ref D) { s' with heap := h2 }) :
    wpAny (model X.prog X.w) X.A (comprehension (.ListComp elt [⟨tg, iter, ifs, 0⟩] scope pos) scope X.env ps2 (newList []) false (eval iter X.env) none) Qf X.xe s := by
  have caught : ∀ y ∈ scope.names, y.2 = .free → ∃ c, X.env.cells.lookup y.1 = some c := fun y hy e => (ok.free y hy e).elim (fun k => I.ok.has _ (.inl k)) fun k => I.ok.has _ (.inr k)
  refine comp_freeR rfl hs (closure_ok caught) ok.kind (fun y hy e => by rw [ok.uniq y hy, e]) (thn (hi.run pins s σ H _ I h) fun xv sa ha => thn ha fun iv sb hb => ?_)
  obtain ⟨it, fp, tn, J, Hb, e, Ib, T, tb, fb, q⟩ := hb
  subst e
  refine wpAny_newObj_type (newEnv_comp ?_) (by show 0 ≤ sizeLine; decide)
  generalize eD : sb.heap.objs.size = D
  have dn : Hb D = none := Ib.hok.fresh (Nat.le_of_eq eD)
  obtain ⟨W, ⟨m0, w0⟩, turn⟩ := q D dn
  generalize ec : ({ sb with heap := sb.heap.push { cls := .type "list", data := .seq ([] : List Value).toArray } } : Shared) = sc
  have Ic : Inv X pins σ (upd Hb D (.lst [])) sc := by
    rw [← ec]
    exact Ib.laid (t' := sb.toks) (fun b o e => Heap.get?_push_of_some _ e) (Nat.le_of_eq eD) ⟨Nat.zero_le _, [], 0, .nil, by rw [← eD]; exact Heap.get?_push_size _ rfl⟩
  have hc : sc.heap = sb.heap.push { cls := .type "list", data := .seq ([] : List Value).toArray } := by rw [← ec]
  have fc : ∀ b ∈ fp, FpOk X pins (upd Hb D (.lst [])) b ∧ b < sc.heap.objs.size := fun b hb => by
    obtain ⟨o, e, _⟩ := T.obj _ _ tb b hb
    have lt := Heap.lt_size e
    exact ⟨⟨by rw [upd_ne (by rw [← eD]; exact Nat.ne_of_lt lt)]; exact (fb b hb).1, (fb b hb).2⟩, by rw [hc, Heap.size_push]; exact Nat.lt_succ_of_lt lt⟩
  have tc : tn 0 sc.heap := T.keep _ _ _ tb fun b _ o e => by rw [hc]; exact Heap.get?_push_of_some _ e
  have Id := block_start Ic ok nd fc
  have pg := hg sc (upd Hb D (.lst [])) sc.heap.objs.size (cellsFrom (sc.heap.objs.size + 1) scope.names (cloFrom X.env.cells scope.names [])) fp (RzE X pins σ sc.heap.objs.size E)
  have pt := ht sc (upd Hb D (.lst [])) sc.heap.objs.size (cellsFrom (sc.heap.objs.size + 1) scope.names (cloFrom X.env.cells scope.names [])) fp (RzE X pins σ sc.heap.objs.size E)
  have pe := he sc (upd Hb D (.lst [])) sc.heap.objs.size (cellsFrom (sc.heap.objs.size + 1) scope.names (cloFrom X.env.cells scope.names [])) fp (RzE X pins σ sc.heap.objs.size E)
  show codeAny _ _ (.compStart (.ListComp elt [⟨tg, iter, ifs, 0⟩] scope pos) 0 (.ref it) (.ref D) (compEnvC scope (cellsFrom (sc.heap.objs.size + 1) scope.names (cloFrom X.env.cells scope.names [])) sc.heap.objs.size X.env)) (cpR (model X.prog X.w) X.A X.xe Qf (.ref D) (compEnvC scope (cellsFrom (sc.heap.objs.size + 1) scope.names (cloFrom X.env.cells scope.names [])) sc.heap.objs.size X.env)) { sc with heap := pushCells (sc.heap.push { cls := .type "dict", data := .dict #[] }) scope.names }
  have nf : ∀ b ∈ fp, (upd Hb D (.lst [])) b = none := fun b hb => (fc b hb).1.1
  generalize ee : compEnvC scope (cellsFrom (sc.heap.objs.size + 1) scope.names (cloFrom X.env.cells scope.names [])) sc.heap.objs.size X.env = ce at Id pg pt pe ⊢
  have cL : ce.locals = sc.heap.objs.size := by subst ee; rfl
  have cF : ce.frame = X.env.frame := by subst ee; rfl
  rw [← cL] at pg pt pe
  have keepP : ∀ b o, sc.heap.get? b = some o → (pushCells (sc.heap.push { cls := .type "dict", data := .dict #[] }) scope.names).get? b = some o := fun b o e => pushCells_keeps _ _ _ _ (Heap.get?_push_of_some _ e)
  generalize eH : upd Hb D (.lst []) = Hc at Ic Id pg pt pe w0 nf fc
  -- the block lets an element's exception out
  have Ie : Inv (blkR X sc Hc scope ce fp (RzE X pins σ ce.locals E)) [] (wipe σ (own.map (·.2))) Hc { sc with heap := pushCells (sc.heap.push { cls := .type "dict", data := .dict #[] }) scope.names } := by
    have o := Id.ok
    exact ⟨⟨o.mod, o.kind, o.glob, o.blt, o.above, o.inj, o.has, o.cab, o.hd, o.frames, o.stk, o.exf, o.bs, o.bsz, o.noex, o.exfs, o.funs, o.frf⟩, Id.os, Id.bare, Id.base, Id.loc, Id.cell, Id.free, Id.freeC, Id.pin, Id.hok, Id.len⟩
  have bk : ∀ {pi σ' H' s'}, Inv (blkR X sc Hc scope ce fp (RzE X pins σ ce.locals E)) pi σ' H' s' → Inv X pins σ H' s' ∧ FpOk X pins H' ce.locals ∧ ∃ m, s'.heap.Ns ce.locals m := fun {pi σ' H' s'} J => by
    obtain ⟨m, hn, _⟩ := J.loc
    have nC : H' ce.locals = none := J.free
    exact ⟨Ic.call' (ch := fp) J.os J.base J.hok J.bare fun b hb => ⟨(fc b hb).1.2.2.2.1, (fc b hb).1.2.1, (fc b hb).1.2.2.2.2.1, (fc b hb).1.2.2.2.2.2⟩, Ic.fpOk (Nat.le_of_eq cL.symm) nC, m, hn⟩
  have pe := pe fun pi σ' H' s' e s2 J c => let ⟨a1, a2, m, a3⟩ := bk J; ⟨H', s', m, a1, a2, a3, c⟩
  have out : ∀ e t, (RzE X pins σ ce.locals E) e t → notedBy (model X.prog X.w) X.A ce (fun e t => cpR (model X.prog X.w) X.A X.xe Qf (.ref D) ce (.error e) t) e t := fun e t x => RzE.out st hf tk cF x
  generalize ed : ({ sc with heap := pushCells (sc.heap.push { cls := .type "dict", data := .dict #[] }) scope.names } : Shared) = sd at Id Ie ⊢
  have td : tn 0 sd.heap := T.keep _ _ _ tc fun b _ o e => by rw [← ed]; exact keepP b o e
  have stat : ∀ {σ' : L2.St} {H' : Hp} {s' : Shared}, Inv (blkR X sc Hc scope ce fp (RzE X pins σ ce.locals E)) [] σ' H' s' → (∀ b ∈ fp, H' b = none) → ∀ b ∈ fp, FpOk (blkR X sc Hc scope ce fp (RzE X pins σ ce.locals E)) [] H' b := fun {σ' H' s'} I' hn b hb =>
    ⟨hn b hb, (I'.ok.exf b hb).1, I'.ok.exfs b hb, .inl hb, fun x c e => (I'.ok.exf b hb).2 x c e, fun z hz => nomatch hz⟩
  have loop : codeAny (model X.prog X.w) X.A (.compLoop (.ListComp elt [⟨tg, iter, ifs, 0⟩] scope pos) 0 (.ref it) (.ref D) ce) (cpR (model X.prog X.w) X.A X.xe Qf (.ref D) ce) sd := by
    refine compLoop_any (fun n s' => ∃ i H', Inv (blkR X sc Hc scope ce fp (RzE X pins σ ce.locals E)) [] (wipe σ (own.map (·.2))) H' s' ∧ tn i s'.heap ∧ (∀ b ∈ fp, H' b = none) ∧ W i n H') ?_ m0 ⟨0, Hc, Ie, td, nf, w0⟩
    rintro n s5 ⟨i, H5, I5, t5, n5, w5⟩
    rcases turn i n H5 w5 with ⟨stop, qq⟩ | ⟨go, Nx, toNx, step⟩
    · refine thnF (T.done (blkR X sc Hc scope ce fp (RzE X pins σ ce.locals E)) rfl rfl rfl calm i [] s5 _ H5 (fun _ _ => False) I5 (stat I5 n5) t5 stop) fun r s6 ⟨er, I6⟩ => ?_
      subst er
      obtain ⟨I7, f7, m, hn⟩ := bk I6
      exact ⟨m, hn, back D ce.locals s6 m H5 I7 qq hn f7⟩
    · refine thnF (T.item (blkR X sc Hc scope ce fp (RzE X pins σ ce.locals E)) rfl rfl rfl calm i [] s5 _ H5 (fun _ _ => False) I5 (stat I5 n5) t5 go) fun r s6 ⟨u, er, h6⟩ => ?_
      subst er
      refine thnF h6 fun _ s7 ⟨x, H7, I7, r7, y7, t7, n7⟩ => wpAny_mono (pg.run _ s7 _ H7 x u _ (I7.pinned (stat I7 n7) (T.obj _ _ t7)) r7 (step x H7 y7)) (fun _ s8 ⟨σ8, H8, I8, w8, q8⟩ => wpAny_mono (pt.run _ s8 σ8 H8 _ I8 q8) (fun b s9 ⟨H9, I9, q9⟩ => ?_) out) out
      have next : ∀ {s' : Shared} {H' : Hp}, Inv (blkR X sc Hc scope ce fp (RzE X pins σ ce.locals E)) ([] ++ pinsAt fp s7.heap) σ8 H' s' → Nx H' → ∃ m, m < n ∧ ∃ i H', Inv (blkR X sc Hc scope ce fp (RzE X pins σ ce.locals E)) [] (wipe σ (own.map (·.2))) H' s' ∧ tn i s'.heap ∧ (∀ b ∈ fp, H' b = none) ∧ W i m H' := fun {s' H'} I' nx => by
        obtain ⟨m', lt, w'⟩ := toNx H' nx
        have held : ∀ b ∈ fp, ∀ o, s7.heap.get? b = some o → s'.heap.get? b = some o ∧ H' b = none := fun b hb o e => ⟨(I'.pin (b, o) (List.mem_append_right _ (List.mem_append_right _ (mem_pinsAt hb e)))).1, (I'.pin (b, o) (List.mem_append_right _ (List.mem_append_right _ (mem_pinsAt hb e)))).2.1⟩
        refine ⟨m', lt, i + 1, H', (I'.unpinned (pins := [])).weak (by rw [← w8, wipe_length]) (fun j v e => ?_), T.keep _ _ _ t7 fun b hb o e => (held b hb o e).1, fun b hb => ?_, w'⟩
        · rw [← w8] at e
          exact (wipe_some e).1
        · obtain ⟨o, e, _⟩ := T.obj _ _ t7 b hb
          exact (held b hb o e).2
      cases b with
      | false =>
        simp only [Bool.false_eq_true, if_false] at q9 ⊢
        exact next I9 q9
      | true =>
        simp only [if_true] at q9 ⊢
        exact wpAny_mono (pe.run _ s9 σ8 H9 _ I9 q9) (fun z s10 ⟨yv, H10, I10, r10, acc, a1, a2, nx⟩ => wpAny_mono (app_ok (X := blkR X sc Hc scope ce fp (RzE X pins σ ce.locals E)) I10 a1 a2 r10 fun s11 I11 => next I11 nx) (fun _ _ z => z) out) out
  exact codeAny_compStart_list loop (T.self X.A 0 _ _ _ td loop)
/-- [f(..) for .. in ..], f may raise -/
theorem pe_lcR {E : XK} {elt tg iter : Expr} {ifs : List Expr} {scope : Scope} {own : List (Str × Nat)} {pos : Pos} {wi : TI} {g : TG} {tt : TT} {te : TE} (st : X.stack = X.env :: X.outer) (hf : X.env.frame = some X.env.locals) (tk : Takes X (fun cls d _ H => E cls d H)) (calm : X.calm = true) (nd : X.N.Nodup) (hi : PI X tg iter wi) (ok : BlkOk X.N X.env.scope scope own)
    (hg : ∀ (s : Shared) (H : Hp) (C : Addr) (cl : List (Str × Addr)) (fp : List Addr) (xe : Value → Shared → Prop), PG (blkR X s H scope (compEnvC scope cl C X.env) fp xe) tg g) (ht : ∀ (s : Shared) (H : Hp) (C : Addr) (cl : List (Str × Addr)) (fp : List Addr) (xe : Value → Shared → Prop), PTs (blkR X s H scope (compEnvC scope cl C X.env) fp xe) ifs tt)
    (he : ∀ (s : Shared) (H : Hp) (C : Addr) (cl : List (Str × Addr)) (fp : List Addr) (xe : Value → Shared → Prop), Passes (L2.CX X.prog X.w) (blkR X s H scope (compEnvC scope cl C X.env) fp xe) E → PE (blkR X s H scope (compEnvC scope cl C X.env) fp xe) elt te) (hs : ∀ x, foldedSetIterable iter X.env x = pure x := by intro _; rfl) : PE X (.ListComp elt [⟨tg, iter, ifs, 0⟩] scope pos) (tLc wi g tt te (own.map (·.2))) := by
  refine ⟨fun pins s σ H Q I h => ?_⟩
  rw [eval_ListComp]
  exact lc_coreR st hf tk calm nd I hi ok hg ht he hs h fun D C s' m H' J q hn ⟨f0, f1, f2, f3, f4, f5⟩ h2 sb => ⟨.ref D, H', J.turned (t' := s'.toks) (fun b o ne e => (sb.2 b ne).trans e) f0 f1 f3 f4 f5, rfl, q⟩
end
end Wd

set_option Elab.async false
set_option linter.all false
set_option maxRecDepth 100000
set_option maxHeartbeats 4000000
set_option pp.maxSteps 400
set_option pp.deepTerms false
namespace Wd
open PySem L2 TL
open SX (S)

open PySem.Spec PyProof.Rows
/-! ### the program, for any text -/
theorem standD_pos {x : List Nat} (h : standD x ≠ .none) : standB (standD x) = true ∧ itemT (standD x) = x := by
  unfold standD at h ⊢
  by_cases c : (standB (readI x) && decide (itemT (readI x) = x)) = true
  · rw [if_pos c]
    rw [Bool.and_eq_true, decide_eq_true_eq] at c
    exact c
  · rw [if_neg c] at h
    exact absurd rfl h
def spReadStandX (C : Addr) : Sp := fun vs H Q E => ∃ (a : Addr) (ls : List (List Nat)) (i : Int) (x : List Nat), vs = [.ref a, .int i] ∧ H a = some (.lst (wV ls)) ∧ atI (wV ls) i = some (.str (S x)) ∧ TextOk x ∧
  (standD x = .none → Told E H C "index" (.int i)) ∧ (standD x ≠ .none → ∀ H' v, Same H H' → DA [] H' (standD x) v → Q v H')
section
variable {P : Program} {w : World} {K : PySem.W.Frag} {mg : Str → Option Value} {base : Heap} {fO C : Addr} {dO : FuncData}
theorem ok_read_standX {f : Addr} {fd : FuncData} (F : Fun K "read_stand" "read_stand" sReadStand f fd) (EP : ErrP P w K mg base C) (O : At P w K mg base 25 "stand_of" fO dO ["text"] spStandOf) : FnOk P w K mg base (L2.CX P w) 26 f fd ["lines", "index"] (spReadStandX C) := by
  obtain ⟨BN, BI, initId, newId, bN, bmB, EN⟩ := EP
  obtain ⟨fJ, fdJ, iC, tI, GJ, bJ⟩ := EN.i
  refine F.okX scRS (fun vs H Q E h => ?_) (fun cdv Ao outer s H vs Q E hr h => ?_)
  · obtain ⟨a, ls, i, d, rfl, _⟩ := h
    rfl
  · obtain ⟨a, ls, i, x, rfl, e, at_, ok, bad, good⟩ := h
    have nd := scRS.nd
    have hr2 : Room 2 _ := hr.mono (by decide)
    refine ⟨_, pss_cons (ps_set (i := 2) nd rfl (Or.inl rfl) (pe_call O.g hr rfl O.m O.kp O.b .nil pass0 (pa_cons (pe_ix (r := rIxL K) ix_list (pv 0) (pv 1) (fun _ _ => rfl)) pa_nil)))
      (pss_cons (ps_if (pt_cmp (pc_isN (pv 2)) rfl) (pss_one (ps_raise rfl (takes_of rfl rfl rfl rfl) (Ek.pmk_raise EN.FN EN.U EN.T (raises_own EN.b EN.t) iC tI GJ hr2 bJ rfl EN.g (pv 1)))) pss_nil)
      (pss_one (ps_ret (pv 2)))), ?_⟩
    refine ⟨_, rfl, _, rfl, a, _, i, _, rfl, rfl, SqL.of e, at_, x, rfl, ok, fun H1 v s1 dv => ?_⟩
    by_cases c : standD x = .none
    · have nv : v = .non := by
        rw [c] at dv
        cases dv
        rfl
      exact ⟨_, rfl, true, congrArg V.bl (decide_eq_true nv), iteT ⟨_, rfl, (bad c).at_ s1⟩⟩
    · have nn : v ≠ .non := fun e => by
        subst e
        have z := (standD_pos c).1
        cases h : standD x with
        | none => exact c h
        | _ =>
          rw [h] at dv
          cases dv
      exact ⟨_, rfl, false, congrArg V.bl (decide_eq_false nn), iteF ⟨_, rfl, good c _ _ s1 dv⟩⟩
end
end Wd

set_option Elab.async false
set_option linter.all false
set_option maxRecDepth 100000
set_option maxHeartbeats 4000000
set_option pp.maxSteps 400
set_option pp.deepTerms false
namespace Wd
open PySem L2 TL
open SX (S)

open PySem.Spec PyProof.Rows
/-! ### an event of any words -/
def evD (ws : List (List Nat)) : PyData := match ws with
  | [t, n, l, u] => if eventB (.tuple [intD t, .str (S n), .str (S l), intD u]) = true then .tuple [intD t, .str (S n), .str (S l), intD u] else .none
  | _ => .none
theorem evD_not {ws : List (List Nat)} (h : ws.length ≠ 4) : evD ws = .none := by
  unfold evD
  split
  · exact absurd rfl h
  · rfl
theorem intD_fit (x : List Nat) : fitB 400000 (intD x) = true := by
  unfold intD
  split
  · split <;> rfl
  · rfl
def spEventOfX : Sp := fun vs H Q _ => ∃ (a : Addr) (ws : List (List Nat)), vs = [.ref a] ∧ H a = some (.lst (wV ws)) ∧ ws.length ≤ 1000000 ∧ (∀ w ∈ ws, w.length ≤ 390000 ∧ PyData.strOk (S w) = true) ∧ ∀ H' v, Same H H' → DA [] H' (evD ws) v → Q v H'
section
variable {P : Program} {w : World} {K : PySem.W.Frag} {mg : Str → Option Value} {base : Heap} {fI fL fG fV : Addr} {dG dV : FuncData}
theorem ok_event_ofX {f : Addr} {fd : FuncData} (F : Fun K "event_of" "event_of" sEventOf f fd) (X : WTxt mg fI fL) (G : At P w K mg base 1 "integer_of" fG dG ["word"] spIntOf) (VE : At P w K mg base 3 "is_event" fV dV ["value"] (spB eventB)) : FnOk P w K mg base CX0 4 f fd ["words"] spEventOfX := by
  refine F.ok scEO (fun vs H Q E h => ?_) (fun cdv Ao outer s H vs Q E hr h => ?_)
  · obtain ⟨a, ws, rfl, _⟩ := h
    rfl
  · obtain ⟨a, ws, rfl, e, lw, ok, q⟩ := h
    have nd := scEO.nd
    have hr1 : Room 1 _ := hr.mono (by decide)
    refine ⟨_, pss_cons (ps_if (pt_cmpR op_ne (pe_callB call_len_seq (by rfl) X.len PySem.boot_len (pa_cons (pv 0) pa_nil)) pe_int (nomark _)) (pss_one (ps_ret pe_non)) pss_nil)
      (pss_cons (ps_set (i := 1) nd rfl (Or.inl rfl) (pe_tup (pa_cons (pe_call G.g hr1 rfl G.m G.kp G.b .nil pass0 (pa_cons (pe_ix (r := rIxL K) ix_list (pv 0) pe_int (fun _ _ => rfl)) pa_nil)) (pa_cons (pe_ix (r := rIxL K) ix_list (pv 0) pe_int (fun _ _ => rfl)) (pa_cons (pe_ix (r := rIxL K) ix_list (pv 0) pe_int (fun _ _ => rfl)) (pa_cons (pe_call G.g hr1 rfl G.m G.kp G.b .nil pass0 (pa_cons (pe_ix (r := rIxL K) ix_list (pv 0) pe_int (fun _ _ => rfl)) pa_nil)) pa_nil))))))
      (pss_one (ps_ret (pe_ifExp (pt_val (pe_call VE.g hr rfl VE.m VE.kp VE.b .nil pass0 (pa_cons (pv 1) pa_nil))) (pv 1) pe_non)))), ?_⟩
    have lV : (wV ws).length = ws.length := List.length_map ..
    refine ⟨_, rfl, a, _, rfl, .inl (SqL.of e), rfl, _, rfl, ?_⟩
    rw [lV]
    by_cases c : ws.length = 4
    · obtain ⟨t, n, l, u, rfl⟩ : ∃ t n l u, ws = [t, n, l, u] := by
        match ws, c with
        | [t, n, l, u], _ => exact ⟨t, n, l, u, rfl⟩
      refine iteF ?_
      have lt := (ok t (by simp)).1
      have lu := (ok u (by simp)).1
      refine ⟨_, rfl, a, _, 0, _, rfl, rfl, SqL.of e, rfl, t, rfl, by omega, fun H1 y1 s1 i1 => ?_⟩
      have e1 := s1 _ _ e
      refine ⟨_, rfl, a, _, 1, _, rfl, rfl, SqL.of e1, rfl, _, rfl, a, _, 2, _, rfl, rfl, SqL.of e1, rfl, _, rfl, a, _, 3, _, rfl, rfl, SqL.of e1, rfl, u, rfl, by omega, fun H2 y2 s2 i2 => ?_⟩
      refine ⟨by show 4 ≤ sizeLine; decide, fun p hp => ?_⟩
      have s3 := same_new (o := .tup [y1, .str (S n), .str (S l), y2]) hp
      have da : DA [] (upd H2 p (.tup [y1, .str (S n), .str (S l), y2])) (.tuple [intD t, .str (S n), .str (S l), intD u]) (.ref p) :=
        .tup (fun z => nomatch z) upd_same (.cons (intD_of i1) (.cons (.str _) (.cons (.str _) (.cons (intD_of i2) .nil))))
      have ft : fitB 400000 (.tuple [intD t, .str (S n), .str (S l), intD u]) = true := by
        have z : ∀ w ∈ [t, n, l, u], fitB 400000 (.str (S w)) = true := fun w hw => by
          unfold fitB
          rw [Bool.and_eq_true, decide_eq_true_eq, SX.S_len]
          exact ⟨Nat.le_trans (ok w hw).1 (by decide), (ok w hw).2⟩
        show (decide (4 ≤ 400000) && (fitB 400000 (intD t) && (fitB 400000 (.str (S n)) && (fitB 400000 (.str (S l)) && (fitB 400000 (intD u) && true))))) = true
        rw [intD_fit, intD_fit, z n (by simp), z l (by simp)]
        decide
      refine ⟨_, rfl, [], .ref p, _, rfl, da, ft, fun H3 s4 => ⟨_, rfl, ?_⟩⟩
      by_cases ev : eventB (.tuple [intD t, .str (S n), .str (S l), intD u]) = true
      · rw [ev]
        refine iteT ⟨_, rfl, q _ _ (((s1.trans s2).trans s3).trans s4) ?_⟩
        show DA [] H3 (if _ then _ else _) _
        rw [if_pos ev]
        exact da.same s4
      · rw [Bool.eq_false_iff.mpr ev]
        refine iteF (q _ _ (((s1.trans s2).trans s3).trans s4) ?_)
        show DA [] H3 (if _ then _ else _) _
        rw [if_neg ev]
        exact .non
    · refine ite2 (fun _ => ?_) (fun h => ?_)
      · refine q _ _ (Same.refl _) ?_
        rw [evD_not c]
        exact .non
      · exfalso
        apply c
        have h := h
        simp at h
        omega
end
end Wd

set_option Elab.async false
set_option linter.all false
set_option maxRecDepth 100000
set_option maxHeartbeats 4000000
set_option pp.maxSteps 400
set_option pp.deepTerms false
namespace Wd
open PySem L2 TL
open SX (S)

open PySem.Spec PyProof.Rows
/-! ### lines of any signs -/
theorem join_cons {s : Nat} {p : List Nat} {P : List (List Nat)} (h : P ≠ []) : joinL [s] (p :: P) = p ++ s :: joinL [s] P := by
  cases P with
  | nil => exact absurd rfl h
  | cons q P => rfl
theorem parts_of {s : Nat} : ∀ l : List Nat, ∃ P : List (List Nat), P ≠ [] ∧ (∀ p ∈ P, s ∉ p) ∧ l = joinL [s] P
  | [] => ⟨[[]], by simp, by simp, rfl⟩
  | c :: r => by
    obtain ⟨P, h1, h2, h3⟩ := parts_of (s := s) r
    by_cases h : c = s
    · refine ⟨[] :: P, by simp, fun p hp => ?_, ?_⟩
      · rcases List.mem_cons.mp hp with rfl | hp
        · simp
        · exact h2 p hp
      · rw [h, h3, join_cons h1]
        rfl
    · cases P with
      | nil => exact absurd rfl h1
      | cons p P =>
        refine ⟨(c :: p) :: P, by simp, fun q hq => ?_, ?_⟩
        · rcases List.mem_cons.mp hq with rfl | hq
          · have := h2 p (by simp)
            simp [Ne.symm h, this]
          · exact h2 q (by simp [hq])
        · rw [h3]
          cases P with
          | nil => rfl
          | cons q P => rfl
theorem mem_joined {s c : Nat} : ∀ {P : List (List Nat)} {p : List Nat}, p ∈ P → c ∈ p → c ∈ joinL [s] P
  | [], _, h, _ => nomatch h
  | [q], p, h, hc => by
    rw [List.mem_singleton.mp h] at hc
    exact hc
  | q :: q2 :: P, p, h, hc => by
    rw [join_cons (by simp)]
    rcases List.mem_cons.mp h with rfl | h
    · exact List.mem_append_left _ hc
    · exact List.mem_append_right _ (List.mem_cons_of_mem _ (mem_joined h hc))
structure LineOk (x : List Nat) : Prop where
  l : x.length ≤ 25000
  a : ∀ c ∈ x, c < 128
theorem spl_ok {s : Nat} (x : List Nat) : spl [s] 0 [] x ≠ [] ∧ (spl [s] 0 [] x).length ≤ x.length + 1 ∧ ∀ p ∈ spl [s] 0 [] x, p.length ≤ x.length ∧ (∀ c ∈ p, c ∈ x) ∧ s ∉ p := by
  obtain ⟨P, h1, h2, h3⟩ := parts_of x (s := s)
  have z := join_sum (s := s) (xs := P)
  rw [← h3] at z
  have sp : spl [s] 0 [] x = P := by
    rw [h3]
    exact spl_join h1 h2
  rw [sp]
  refine ⟨h1, by omega, fun p hp => ⟨?_, fun c hc => ?_, h2 p hp⟩⟩
  · rw [h3]
    exact join_ge p hp
  · rw [h3]
    exact mem_joined hp hc
def untD (x : List Nat) : Option Int := match spl [32] 0 [] x with
  | [u, t] => if u = untW then (match intD t with | .int i => some i | _ => none) else none
  | _ => none
theorem evD_cases (ws : List (List Nat)) : evD ws = .none ∨ eventB (evD ws) = true := by
  unfold evD
  split
  · split
    · rename_i h
      exact .inr h
    · exact .inl rfl
  · exact .inl rfl
inductive TR
  | bad (i : Nat)
  | fin (es : List PyData) (t : Int) (rest : List (List Nat))
def tapeR : List PyData → Nat → List (List Nat) → TR
  | _, i, [] => .bad i
  | es, i, x :: r => match untD x with
    | some t => if lastT (.tuple es) ≤ t then .fin es t r else .bad i
    | none => if eventB (evD (spl [32] 0 [] x)) = true ∧ lastT (.tuple es) ≤ evT (evD (spl [32] 0 [] x)) then tapeR (es ++ [evD (spl [32] 0 [] x)]) (i + 1) r else .bad i
theorem intD_int {x : List Nat} {i : Int} (h : intD x = .int i) : -ten60 < i ∧ i < ten60 ∧ x = intL i := by
  unfold intD at h
  split at h
  · split at h
    · rename_i j _ hj
      cases h
      exact ⟨hj.2.1, hj.2.2, hj.1⟩
    · cases h
  · cases h
theorem intD_cases (x : List Nat) : intD x = .none ∨ ∃ i, intD x = .int i := by
  unfold intD
  split
  · split
    · exact .inr ⟨_, rfl⟩
    · exact .inl rfl
  · exact .inl rfl
theorem tapeR_fin : ∀ {ls : List (List Nat)} {es es' : List PyData} {i : Nat} {t : Int} {rest : List (List Nat)}, tapeR es i ls = .fin es' t rest → es.all eventB = true → es'.all eventB = true ∧ -ten60 < t ∧ t < ten60 ∧ ∃ k, es'.length = es.length + k ∧ rest = ls.drop (k + 1) ∧ k < ls.length
  | [], es, es', i, t, rest, h, ev => by cases h
  | x :: r, es, es', i, t, rest, h, ev => by
    have h : (match untD x with
      | some t => if lastT (.tuple es) ≤ t then TR.fin es t r else .bad i
      | none => if eventB (evD (spl [32] 0 [] x)) = true ∧ lastT (.tuple es) ≤ evT (evD (spl [32] 0 [] x)) then tapeR (es ++ [evD (spl [32] 0 [] x)]) (i + 1) r else .bad i) = .fin es' t rest := h
    cases hu : untD x with
    | some u =>
      rw [hu] at h
      have h : (if lastT (.tuple es) ≤ u then TR.fin es u r else .bad i) = .fin es' t rest := h
      split at h
      · cases h
        have : ∃ y, intD y = .int t := by
          unfold untD at hu
          split at hu
          · split at hu
            · split at hu
              · cases hu
                exact ⟨_, by assumption⟩
              · cases hu
            · cases hu
          · cases hu
        obtain ⟨y, hy⟩ := this
        obtain ⟨h1, h2, _⟩ := intD_int hy
        exact ⟨ev, h1, h2, 0, rfl, rfl, by simp⟩
      · cases h
    | none =>
      rw [hu] at h
      have h : (if eventB (evD (spl [32] 0 [] x)) = true ∧ lastT (.tuple es) ≤ evT (evD (spl [32] 0 [] x)) then tapeR (es ++ [evD (spl [32] 0 [] x)]) (i + 1) r else .bad i) = .fin es' t rest := h
      split at h
      · rename_i hc
        obtain ⟨a, b, c, k, k1, k2, k3⟩ := tapeR_fin h (by rw [List.all_append, ev]; simp [hc.1])
        refine ⟨a, b, c, k + 1, ?_, ?_, ?_⟩
        · rw [k1, List.length_append, List.length_singleton]
          omega
        · rw [k2]
          rfl
        · rw [List.length_cons]
          omega
      · cases h
theorem tapeR_bad : ∀ {ls : List (List Nat)} {es : List PyData} {i j : Nat}, tapeR es i ls = .bad j → i ≤ j ∧ j ≤ i + ls.length
  | [], es, i, j, h => by
    cases h
    exact ⟨Nat.le_refl _, Nat.le_refl _⟩
  | x :: r, es, i, j, h => by
    have h : (match untD x with
      | some t => if lastT (.tuple es) ≤ t then TR.fin es t r else .bad i
      | none => if eventB (evD (spl [32] 0 [] x)) = true ∧ lastT (.tuple es) ≤ evT (evD (spl [32] 0 [] x)) then tapeR (es ++ [evD (spl [32] 0 [] x)]) (i + 1) r else .bad i) = .bad j := h
    rw [List.length_cons]
    split at h
    · split at h
      · cases h
      · cases h
        omega
    · split at h
      · have := tapeR_bad h
        omega
      · cases h
        omega
theorem use_two2 {I K : Hp → Prop} {G : Prop} (main : (∀ Hx, I Hx → K Hx) → G) (two : ∀ Hx, I Hx → K Hx) : G := main two
theorem use_twoV {I K : V → Hp → Prop} {G : Prop} (main : (∀ v Hx, I v Hx → K v Hx) → G) (two : ∀ v Hx, I v Hx → K v Hx) : G := main two
def spReadTapeX (C : Addr) : Sp := fun vs H Q E => ∃ (a : Addr) (x0 : List Nat) (ls : List (List Nat)), vs = [.ref a] ∧ H a = some (.lst (wV (x0 :: ls))) ∧ ls.length ≤ 390000 ∧ (∀ x ∈ ls, LineOk x) ∧
  (∀ i, tapeR [] 1 ls = .bad i → Told E H C "index" (.int (i : Nat))) ∧ ∀ es t rest, tapeR [] 1 ls = .fin es t rest → ∀ H' v, Same H H' → DA [] H' (.tuple [.tuple es, .int t]) v → Q v H'
section
variable {P : Program} {w : World} {K : PySem.W.Frag} {mg : Str → Option Value} {base : Heap} {fI fL fO fG fV fA C : Addr} {dO dG dV dA : FuncData}
theorem ok_read_tapeX {f : Addr} {fd : FuncData} (F : Fun K "read_tape" "read_tape" sReadTape f fd) (EP : ErrP P w K mg base C) (X : WTxt mg fI fL) (G : At P w K mg base 1 "integer_of" fG dG ["word"] spIntOf) (L : At P w K mg base 1 "latest_time" fA dA ["events"] spLat) (VE : At P w K mg base 4 "event_of" fV dV ["words"] spEventOfX) : FnOk P w K mg base (L2.CX P w) 5 f fd ["lines"] (spReadTapeX C) := by
  obtain ⟨BN, BI, initId, newId, bN, bmB, EN⟩ := EP
  obtain ⟨fJ, fdJ, iC, tI, GJ, bJ⟩ := EN.i
  refine F.okX scRT (fun vs H Q E h => ?_) (fun cdv Ao outer s H vs Q E hr h => ?_)
  · obtain ⟨a, x0, ls, rfl, _⟩ := h
    rfl
  · obtain ⟨a, x0, ls, rfl, e, ln, lok, bad, q⟩ := h
    have nd := scRT.nd
    have hr1 : Room 1 _ := hr.mono (by decide)
    have hr2 : Room 2 _ := hr.mono (by decide)
    have hr4 : Room 4 _ := hr.mono (by decide)
    refine ⟨_, pss_cons (ps_set (i := 1) nd rfl (Or.inl rfl) (pe_lst pa_nil))
      (pss_cons (ps_for (passes_of rfl) rfl (pi_range2 rfl X.range (pa_cons pe_int (pa_cons (pe_callB call_len_seq (by rfl) X.len PySem.boot_len (pa_cons (pv 0) pa_nil)) pa_nil))) (pg_name (i := 2) nd rfl (Or.inl rfl)) (pss_cons (ps_set (i := 3) nd rfl (Or.inl rfl) (pe_split (pe_ix (r := rIxL K) ix_list (pv 0) (pv 2) (fun _ _ => rfl)) pe_str))
      (pss_cons (ps_set (i := 4) nd rfl (Or.inl rfl) (pe_ifExp (PW.pt (pw_and (pt_cmpR op_eq (pe_ix (r := rIxL K) ix_list (pv 3) pe_int (fun _ _ => rfl)) pe_str (nomark _)) (pw_and1 (pt_cmpR op_eq (pe_callB call_len_seq (by rfl) X.len PySem.boot_len (pa_cons (pv 3) pa_nil)) pe_int (nomark _))))) (pe_call G.g hr1 rfl G.m G.kp G.b .nil pass0 (pa_cons (pe_ix (r := rIxL K) ix_list (pv 3) pe_int (fun _ _ => rfl)) pa_nil)) pe_non))
      (pss_cons (ps_if (PW.pt (pw_and (pt_cmp (pc_notN (pv 4)) rfl) (pw_and1 (pt_cmpR op_ge (pv 4) (pe_call L.g hr1 rfl L.m L.kp L.b .nil pass0 (pa_cons (pv 1) pa_nil)) (nomark _))))) (pss_one (ps_ret (pe_tup (pa_cons (pe_callTy call_tuple_of (by rfl) X.tup (by decide +kernel) (pa_cons (pv 1) pa_nil)) (pa_cons (pv 4) pa_nil))))) pss_nil)
      (pss_cons (ps_set (i := 5) nd rfl (Or.inl rfl) (pe_call VE.g hr4 rfl VE.m VE.kp VE.b .nil pass0 (pa_cons (pv 3) pa_nil)))
      (pss_cons (ps_if (PW.pt (pw_or (pt_cmp (pc_isN (pv 5)) rfl) (pw_or1 (pt_cmpR op_lt (pe_ix (r := rIxT K) ix_tup (pv 5) pe_int (fun _ _ => rfl)) (pe_call L.g hr1 rfl L.m L.kp L.b .nil pass0 (pa_cons (pv 1) pa_nil)) (nomark _))))) (pss_one (ps_raise rfl (takes_of rfl rfl rfl rfl) (Ek.pmk_raise EN.FN EN.U EN.T (raises_own EN.b EN.t) iC tI GJ hr2 bJ rfl EN.g (pv 2)))) pss_nil)
      (pss_one (ps_expr (pe_bm PySem.F.plainAttrs_list PySem.F.slot_list_append PySem.F.type_list_append mt_append (pv 1) (pa_cons (pv 5) pa_nil))))))))))
      (pss_one (ps_raise rfl (takes_of rfl rfl rfl rfl) (Ek.pmk_raise EN.FN EN.U EN.T (raises_own EN.b EN.t) iC tI GJ hr2 bJ rfl EN.g (pe_callB call_len_seq (by rfl) X.len PySem.boot_len (pa_cons (pv 0) pa_nil)))))), ?_⟩
    refine ⟨by show 0 ≤ sizeLine; decide, fun O hO => ?_⟩
    have sO := same_new (o := .lst []) hO
    have eO : (upd H O (.lst [])) O = some (.lst []) := upd_same
    have e1 := sO _ _ e
    generalize upd H O (.lst []) = H1 at sO eO e1
    have noO : ∀ {H' : Hp} {o : HO}, Same H H' → Same H (upd H' O o) := fun {H' o} s b ob e => by
      rw [upd_ne (ne_of_none e hO)]
      exact s b ob e
    have lw := wV_len (x0 :: ls)
    rw [List.length_cons] at lw
    have big : (16777216 : Nat) ≤ sizeLine := by decide
    refine ⟨_, rfl, a, _, rfl, .inl (SqL.of e1), _, _, rfl, ⟨by omega, by omega, by omega, by omega⟩, ?_⟩
    have en : ((((wV (x0 :: ls)).length : Nat) : Int) - 1).toNat = ls.length := by omega
    rw [en]
    refine for_it (n := ls.length) (walk_range (lo := 1)) (fun i σ H' => ∃ (es : List PyData) (xs : List V) (v2 v3 v4 v5 : Option V), σ = [some (.ref a), some (.ref O), v2, v3, v4, v5] ∧ Same H H' ∧ es.length = i ∧ es.all eventB = true ∧ H' O = some (.lst xs) ∧ DAL [] H' es xs ∧ tapeR [] 1 ls = tapeR es (1 + i) (ls.drop i))
      ⟨[], [], _, _, _, _, rfl, sO, rfl, rfl, eO, .nil, rfl⟩ (fun _ _ _ _ _ => trivial) ?_ ?_
    · rintro i x σ Hx H2 hi ⟨es, xs, v2, v3, v4, v5, rfl, s2, hie, ev, eO2, dal, run⟩ ⟨rfl, rfl⟩
      have e2 := s2 _ _ e
      have lx := lok _ (List.getElem_mem hi)
      have at_ : atI (wV (x0 :: ls)) (1 + (i : Int)) = some (.str (S ls[i])) := by
        refine at_nn (by omega) ?_
        rw [show (1 + (i : Int)).toNat = i + 1 by omega]
        unfold wV
        rw [List.getElem?_map]
        show (ls[i]?).map _ = _
        rw [List.getElem?_eq_getElem hi]
        rfl
      rw [List.drop_eq_getElem_cons hi] at run
      have rest_ : ∀ j, (ls.drop (i + 1))[j]? = ls[i + 1 + j]? := fun j => List.getElem?_drop
      generalize ls[i] = x at lx at_ run
      refine ⟨_, rfl, _, rfl, a, _, _, _, rfl, rfl, SqL.of e2, at_, ⟨_, rfl⟩, _, _, rfl, rfl, rfl, ?_, fun p hp => ?_⟩
      · rw [SX.S_len]
        have := lx.l
        omega
      have s3 := same_new (o := .lst ((Txt.split (S x) (Str.ofString " ")).map V.str)) hp
      have ep : (upd H2 p (.lst ((Txt.split (S x) (Str.ofString " ")).map V.str))) p = some (.lst (wV (spl [32] 0 [] x))) := by
        rw [upd_same, show Str.ofString " " = S [32] from rfl, SX.split_S (by simp) (by decide), wV_eq]
      generalize upd H2 p (.lst ((Txt.split (S x) (Str.ofString " ")).map V.str)) = H3 at s3 ep ⊢
      obtain ⟨sn, sl, sp⟩ := spl_ok (s := 32) x
      have l25 := lx.l
      have okw : ∀ y ∈ spl [32] 0 [] x, y.length ≤ 390000 ∧ PyData.strOk (S y) = true := fun y hy => ⟨by have := (sp y hy).1; omega, sign_ok fun c hc => lx.a c ((sp y hy).2.1 c hc)⟩
      have eO3 := s3 _ _ eO2
      have dal := dal.same s3
      have s3 := s2.trans s3
      apply use_twoV (I := fun v Hx => Same H3 Hx ∧ ((v = .non ∧ untD x = none) ∨ ∃ t, v = .int t ∧ untD x = some t))
      case main =>
        intro two
        by_cases hu : ∃ t, spl [32] 0 [] x = [untW, t]
        · obtain ⟨t, ht⟩ := hu
          rw [ht] at ep okw
          refine ⟨_, rfl, p, _, 0, _, rfl, rfl, SqL.of ep, rfl, rfl, _, rfl, ?_⟩
          rw [decide_eq_true (show V.str (S untW) = V.str (Str.ofString "until") from congrArg V.str (SX.S_tl _))]
          refine iteT ⟨_, rfl, p, _, rfl, .inl (SqL.of ep), rfl, _, rfl, iteT ?_⟩
          refine ⟨_, rfl, p, _, 1, _, rfl, rfl, SqL.of ep, rfl, t, rfl, by have := (okw t (by simp)).1; omega, fun H4 v s4 iw => two v H4 ⟨s4, ?_⟩⟩
          have dv := intD_of (A := []) (H := H4) iw
          unfold untD
          rw [ht]
          show _ ∨ ∃ t', v = .int t' ∧ (if untW = untW then (match intD t with | .int i => some i | _ => none) else none) = some t'
          rw [if_pos rfl]
          show (v = .non ∧ (if untW = untW then (match intD t with | .int i => some i | _ => none) else none) = none) ∨ _
          rw [if_pos rfl]
          rcases intD_cases t with h | ⟨i, h⟩
          · rw [h] at dv ⊢
            cases dv
            exact .inl ⟨rfl, rfl⟩
          · rw [h] at dv ⊢
            cases dv
            exact .inr ⟨i, rfl, rfl⟩
        · obtain ⟨u, ws, hw⟩ : ∃ u ws, spl [32] 0 [] x = u :: ws := by
            cases h : spl [32] 0 [] x with
            | nil => exact absurd h sn
            | cons u ws => exact ⟨u, ws, rfl⟩
          have un : untD x = none := by
            unfold untD
            split
            · rename_i a b hab
              rw [if_neg fun e => hu ⟨b, by rw [hab, e]⟩]
            · rfl
          rw [hw] at ep
          have ls1 : (wV (u :: ws)).length = ws.length + 1 := by rw [wV_len, List.length_cons]
          refine ⟨_, rfl, p, _, 0, _, rfl, rfl, SqL.of ep, atI_nat (j := 0) rfl, rfl, _, rfl, ?_⟩
          by_cases hc : u = untW
          · rw [decide_eq_true (show V.str (S u) = V.str (Str.ofString "until") from by rw [hc]; exact congrArg V.str (SX.S_tl _))]
            refine iteT ⟨_, rfl, p, _, rfl, .inl (SqL.of ep), rfl, _, rfl, ?_⟩
            rw [ls1, decide_eq_false (fun e => by
              injection e with e
              have : ws.length = 1 := by omega
              obtain ⟨t, rfl⟩ : ∃ t, ws = [t] := List.length_eq_one_iff.mp this
              exact hu ⟨t, by rw [hw, hc]⟩)]
            exact iteF (two _ _ ⟨Same.refl _, .inl ⟨rfl, un⟩⟩)
          · rw [decide_eq_false (show V.str (S u) ≠ V.str (Str.ofString "until") from fun e => hc (V_S.mp (by rw [e]; rfl)))]
            exact iteF (two _ _ ⟨Same.refl _, .inl ⟨rfl, un⟩⟩)
      case two =>
      rintro v4 H4 ⟨s4, h4⟩
      have ep4 := s4 _ _ ep
      have eO4 := s4 _ _ eO3
      have dal := dal.same s4
      have s4 := s3.trans s4
      have rn : tapeR es (1 + i) (x :: ls.drop (i + 1)) = (match untD x with
        | some t => if lastT (.tuple es) ≤ t then TR.fin es t (ls.drop (i + 1)) else .bad (1 + i)
        | none => if eventB (evD (spl [32] 0 [] x)) = true ∧ lastT (.tuple es) ≤ evT (evD (spl [32] 0 [] x)) then tapeR (es ++ [evD (spl [32] 0 [] x)]) (1 + i + 1) (ls.drop (i + 1)) else .bad (1 + i)) := rfl
      apply use_two2 (I := fun Hx => Same H4 Hx ∧ tapeR [] 1 ls = (if eventB (evD (spl [32] 0 [] x)) = true ∧ lastT (.tuple es) ≤ evT (evD (spl [32] 0 [] x)) then tapeR (es ++ [evD (spl [32] 0 [] x)]) (1 + i + 1) (ls.drop (i + 1)) else .bad (1 + i)))
      case main =>
        intro event
        have h5 := h4
        rcases h5 with ⟨hv, un⟩ | ⟨t, hv, un⟩
        · refine ⟨_, rfl, false, congrArg (fun t => V.bl (!t)) (decide_eq_true hv), iteF ?_⟩
          generalize hy : H4 = Hy
          refine event Hy ⟨by rw [hy]; exact Same.refl _, ?_⟩
          rw [run, rn, un]
        · refine ⟨_, rfl, true, congrArg (fun t => V.bl (!t)) (decide_eq_false (fun e => by rw [hv] at e; cases e)), iteT ?_⟩
          refine ⟨_, rfl, _, rfl, [], O, xs, es, rfl, .inr eO4, dal, ev, fun H5 s5 => ⟨t, _, hv, rfl, _, rfl, ?_⟩⟩
          have eO5 := s5 _ _ eO4
          by_cases hl : lastT (.tuple es) ≤ t
          · rw [decide_eq_true hl]
            have dal := dal.same s5
            refine iteT ⟨_, rfl, O, xs, rfl, .inl ⟨SqL.of eO5, fun b hb => ⟨_, rfl, by show 2 ≤ sizeLine; decide, fun c hc => ?_⟩⟩⟩
            have sb := same_new (o := .tup xs) hb
            have sc := same_new (o := .tup [.ref b, v4]) hc
            refine q es t (ls.drop (i + 1)) ?_ _ _ (((s4.trans s5).trans sb).trans sc) ?_
            · rw [run, rn, un]
              exact if_pos hl
            · refine .tup (fun z => nomatch z) upd_same (.cons (.tup (fun z => nomatch z) (sc _ _ upd_same) ((dal.same sb).same sc)) (.cons ?_ .nil))
              rw [hv]
              exact .int _
          · rw [decide_eq_false hl]
            refine iteF (event H5 ⟨s5, ?_⟩)
            have e0 : evD (spl [32] 0 [] x) = .none := by
              refine evD_not fun h => ?_
              unfold untD at un
              split at un
              · rename_i hab
                rw [hab] at h
                cases h
              · cases un
            rw [run, rn, un, e0]
            show (if lastT (.tuple es) ≤ t then _ else TR.bad (1 + i)) = _
            rw [if_neg hl, if_neg fun h => by cases h.1]
      case two =>
      rintro H5 ⟨s5, run⟩
      have ep5 := s5 _ _ ep4
      have eO5 := s5 _ _ eO4
      have dal := dal.same s5
      have s5 := s4.trans s5
      have no : ∀ {H' : Hp}, Same H H' → ¬ (eventB (evD (spl [32] 0 [] x)) = true ∧ lastT (.tuple es) ≤ evT (evD (spl [32] 0 [] x))) → Told E H' C "index" (.int (1 + (i : Int))) := fun {H'} s h => by
        rw [if_neg h] at run
        have := bad _ run
        rw [show ((1 + i : Nat) : Int) = 1 + (i : Int) by omega] at this
        exact this.at_ s
      refine ⟨_, rfl, p, _, rfl, ep5, by omega, okw, fun H6 v s6 dv => ?_⟩
      rcases evD_cases (spl [32] 0 [] x) with hn | he
      · rw [hn] at dv
        cases dv
        exact ⟨_, rfl, true, congrArg V.bl (decide_eq_true rfl), iteT ⟨_, rfl, no (s5.trans s6) fun h => by rw [hn] at h; cases h.1⟩⟩
      · obtain ⟨b, tt, ys, rfl, eb, _, et, _⟩ := event_head dv he
        have eO6 := s6 _ _ eO5
        have dal := dal.same s6
        refine ⟨_, rfl, false, congrArg V.bl (decide_eq_false (fun e => nomatch e)), iteF ?_⟩
        refine ⟨_, rfl, b, _, 0, _, rfl, rfl, SqT.of eb, atI_nat (j := 0) rfl, _, rfl, [], O, xs, _, rfl, .inr eO6, dal, ev, fun H7 s7 => ?_⟩
        refine ⟨_, _, rfl, rfl, _, rfl, ?_⟩
        have s7' := (s5.trans s6).trans s7
        by_cases hl : lastT (.tuple es) ≤ tt
        · rw [decide_eq_false (by omega)]
          have eO7 := s7 _ _ eO6
          have lx : xs.length = i := by rw [← dal.length]; exact hie
          refine iteF ⟨_, rfl, .inl ⟨rfl, _, SqL.of eO7⟩, _, rfl, O, xs, _, rfl, rfl, eO7, by omega, ?_⟩
          have k : TK H7 (upd H7 O (.lst (xs ++ [.ref b]))) := TK.lst eO7
          refine ⟨es ++ [evD (spl [32] 0 [] x)], _, _, _, _, _, rfl, noO s7', by rw [List.length_append, hie]; rfl, by rw [List.all_append, ev]; simp [he], upd_same, ?_, ?_⟩
          · exact ((dal.same s7).tk k (pureL_iff.mpr fun d hd => event_pure (List.all_eq_true.mp ev d hd))).app (.cons ((dv.same s7).tk k (event_pure he)) .nil)
          · rw [run, if_pos ⟨he, by rw [et]; exact hl⟩]
            rfl
        · rw [decide_eq_true (by omega)]
          exact iteT ⟨_, rfl, no s7' fun h => hl (by rw [← et]; exact h.2)⟩
    · rintro σ H2 ⟨es, xs, v2, v3, v4, v5, rfl, s2, hie, ev, eO2, dal, run⟩
      rw [List.drop_length] at run
      have b := bad _ run
      have e2 := s2 _ _ e
      refine ⟨_, rfl, a, _, rfl, .inl (SqL.of e2), ?_⟩
      rw [lw]
      rw [show (1 + ls.length : Nat) = ls.length + 1 by omega] at b
      exact b.at_ s2
end
end Wd

set_option Elab.async false
set_option linter.all false
set_option maxRecDepth 100000
set_option maxHeartbeats 4000000
set_option pp.maxSteps 400
set_option pp.deepTerms false
namespace Wd
open PySem L2 TL
open SX (S)

open PySem.Spec PyProof.Rows
/-! ### texts that are not too long -/
inductive ItD : PyData → Prop
  | non : ItD .none
  | int (i : Int) : ItD (.int i)
  | str {z : Str} (h : PyData.strOk z = true) : ItD (.str z)
  | tup {ds : List PyData} (h : ∀ d ∈ ds, ItD d) : ItD (.tuple ds)
theorem fit_of {n : Nat} {d : PyData} (h : ItD d) : (itemT d).length ≤ n → fitB n d = true := by
  induction h with
  | non => exact fun _ => rfl
  | int i => exact fun _ => rfl
  | @str z h =>
    intro l
    unfold fitB
    rw [Bool.and_eq_true, decide_eq_true_eq]
    have e : (tl z).length = z.length := Array.length_toList
    have l : (tl z).length ≤ n := l
    exact ⟨by omega, h⟩
  | @tup ds h ih =>
    intro l
    rw [itemT_tup, List.length_cons, List.length_append, List.length_singleton] at l
    have js := join_sum (s := 32) (xs := ds.map itemT)
    rw [List.length_map] at js
    unfold fitB
    rw [Bool.and_eq_true, decide_eq_true_eq]
    refine ⟨by omega, fitL_of fun d hd => ih d hd ?_⟩
    have := join_ge (s := 32) (itemT d) (List.mem_map_of_mem (f := itemT) hd)
    omega
theorem itemW_ok {x : List Nat} (h : PyData.strOk (S x) = true) : ItD (itemW x) := by
  unfold itemW
  split
  · exact .str h
  · rcases intD_cases x with h | ⟨i, h⟩ <;> rw [h]
    · exact .non
    · exact .int i
theorem itemW_len {x : List Nat} (h : x ≠ []) : (itemT (itemW x)).length ≤ x.length := by
  have h1 := List.length_pos_iff.mpr h
  unfold itemW
  split
  · show (tl (S x)).length ≤ _
    rw [show tl (S x) = x from by simp [tl, S]]
    exact Nat.le_refl _
  · rcases intD_cases x with h | ⟨i, h⟩ <;> rw [h]
    · exact h1
    · have := (intD_int h).2.2
      show (intL i).length ≤ _
      rw [← this]
      exact Nat.le_refl _
def wT (t : List PyData) : Nat := 2 + (t.map fun d => (itemT d).length + 1).sum
def wSt (st : List (List PyData)) : Nat := (st.map wT).sum
def wWs (ws : List (List Nat)) : Nat := (ws.map fun w => w.length + 3).sum
theorem wT_app (t : List PyData) (d : PyData) : wT (t ++ [d]) = wT t + ((itemT d).length + 1) := by
  unfold wT
  rw [List.map_append, List.sum_append]
  show 2 + (_ + ((itemT d).length + 1 + 0)) = _
  omega
theorem wT_tup (t : List PyData) : (itemT (.tuple t)).length ≤ wT t := by
  rw [itemT_tup, List.length_cons, List.length_append, List.length_singleton]
  have j := join_len (s := 32) (xs := t.map itemT)
  rw [List.map_map, List.length_map] at j
  have e : (t.map fun d => (itemT d).length + 1).sum = (t.map ((fun x => x.length) ∘ itemT)).sum + t.length := by
    clear j
    induction t with
    | nil => rfl
    | cons d t ih =>
      rw [List.map_cons, List.sum_cons, List.map_cons, List.sum_cons, List.length_cons, ih]
      show (itemT d).length + 1 + _ = (itemT d).length + _ + _
      omega
  unfold wT
  omega
theorem stepI_cases {st : List (List PyData)} {f : PyData} {x : List Nat} {p : List (List PyData) × PyData} (h : stepI st f x = some p) :
    p = ([] :: st, f) ∨ (st = [] ∧ p = ([], f)) ∨ (∃ t, st = [t] ∧ p = ([], .tuple t)) ∨ (∃ t u r, st = t :: u :: r ∧ p = ((u ++ [.tuple t]) :: r, .tuple t)) ∨ (∃ t r, st = t :: r ∧ p = (t :: r, f)) ∨ ∃ t r, x ≠ [] ∧ st = t :: r ∧ p = ((t ++ [itemW x]) :: r, f) := by
  unfold stepI at h
  by_cases h40 : x = [40]
  · rw [if_pos h40] at h
    injection h with h
    exact .inl h.symm
  rw [if_neg h40] at h
  cases st with
  | nil =>
    dsimp only at h
    by_cases h0 : x = []
    · rw [if_pos h0] at h
      injection h with h
      exact .inr (.inl ⟨rfl, h.symm⟩)
    · rw [if_neg h0] at h
      cases h
  | cons t r =>
    dsimp only at h
    by_cases h41 : x = [41]
    · rw [if_pos h41] at h
      cases r with
      | nil =>
        injection h with h
        exact .inr (.inr (.inl ⟨t, rfl, h.symm⟩))
      | cons u r' =>
        injection h with h
        exact .inr (.inr (.inr (.inl ⟨t, u, r', rfl, h.symm⟩)))
    · rw [if_neg h41] at h
      by_cases h0 : x = []
      · rw [if_pos h0] at h
        injection h with h
        exact .inr (.inr (.inr (.inr (.inl ⟨t, r, rfl, h.symm⟩))))
      · rw [if_neg h0] at h
        injection h with h
        exact .inr (.inr (.inr (.inr (.inr ⟨t, r, h0, rfl, h.symm⟩))))
def potI (st : List (List PyData)) (f : PyData) : Nat := match st with
  | [] => (itemT f).length
  | _ :: _ => wSt st
theorem runI_len : ∀ (ws : List (List Nat)) (st : List (List PyData)) (f : PyData), (itemT (runI st f ws)).length ≤ 1 + potI st f + wWs ws
  | [], [], f => by
    show (itemT f).length ≤ 1 + (itemT f).length + 0
    omega
  | [], t :: st, f => by
    show (itemT PyData.none).length ≤ _
    have : (itemT PyData.none).length = 1 := rfl
    omega
  | x :: ws, st, f => by
    show (itemT (match stepI st f x with
      | none => .none
      | some p => runI p.1 p.2 ws)).length ≤ _
    have e : wWs (x :: ws) = x.length + 3 + wWs ws := by
      unfold wWs
      rw [List.map_cons, List.sum_cons]
    rw [e]
    cases h : stepI st f x with
    | none =>
      have : (itemT PyData.none).length = 1 := rfl
      show (itemT PyData.none).length ≤ _
      omega
    | some p =>
      refine Nat.le_trans (runI_len ws p.1 p.2) ?_
      suffices potI p.1 p.2 ≤ potI st f + (x.length + 3) by omega
      rcases stepI_cases h with rfl | ⟨rfl, rfl⟩ | ⟨t, rfl, rfl⟩ | ⟨t, u, r, rfl, rfl⟩ | ⟨t, r, rfl, rfl⟩ | ⟨t, r, hx, rfl, rfl⟩
      · show wSt ([] :: st) ≤ _
        cases st with
        | nil =>
          have : wSt [([] : List PyData)] = 2 := rfl
          have : 0 ≤ (itemT f).length := Nat.zero_le _
          show wSt [[]] ≤ (itemT f).length + _
          have hx : x = [40] := by
            unfold stepI at h
            by_cases h40 : x = [40]
            · exact h40
            · rw [if_neg h40] at h
              dsimp only at h
              split at h <;> cases h
          rw [hx]
          show 2 ≤ _
          omega
        | cons t r =>
          show wSt ([] :: t :: r) ≤ wSt (t :: r) + _
          have : wSt ([] :: t :: r) = 2 + wSt (t :: r) := rfl
          omega
      · show (itemT f).length ≤ (itemT f).length + _
        omega
      · show (itemT (.tuple t)).length ≤ wSt [t] + _
        have := wT_tup t
        have e1 : wSt [t] = wT t + 0 := rfl
        omega
      · show wSt ((u ++ [.tuple t]) :: r) ≤ wSt (t :: u :: r) + _
        have := wT_tup t
        have e1 : wSt ((u ++ [.tuple t]) :: r) = wT (u ++ [.tuple t]) + wSt r := rfl
        have e2 : wSt (t :: u :: r) = wT t + (wT u + wSt r) := rfl
        rw [wT_app] at e1
        omega
      · show wSt (t :: r) ≤ wSt (t :: r) + _
        omega
      · show wSt ((t ++ [itemW x]) :: r) ≤ wSt (t :: r) + _
        have e1 : wSt ((t ++ [itemW x]) :: r) = wT (t ++ [itemW x]) + wSt r := rfl
        have e2 : wSt (t :: r) = wT t + wSt r := rfl
        rw [wT_app] at e1
        have := itemW_len hx
        omega
theorem runI_it : ∀ (ws : List (List Nat)) (st : List (List PyData)) (f : PyData), (∀ w ∈ ws, PyData.strOk (S w) = true) → (∀ t ∈ st, ∀ d ∈ t, ItD d) → ItD f → ItD (runI st f ws)
  | [], [], f, _, _, h => h
  | [], t :: st, f, _, _, _ => .non
  | x :: ws, st, f, hw, hs, hf => by
    show ItD (match stepI st f x with
      | none => .none
      | some p => runI p.1 p.2 ws)
    cases h : stepI st f x with
    | none => exact .non
    | some p =>
      have fin : (∀ t ∈ p.1, ∀ d ∈ t, ItD d) ∧ ItD p.2 := by
        have add : ∀ {u : List PyData} {r' : List (List PyData)} {d : PyData}, (∀ d ∈ u, ItD d) → (∀ t ∈ r', ∀ d ∈ t, ItD d) → ItD d → ∀ t ∈ (u ++ [d]) :: r', ∀ d ∈ t, ItD d := fun {u r' d} h1 h2 h3 t ht e he => by
          rcases List.mem_cons.mp ht with rfl | ht
          · rcases List.mem_append.mp he with he | he
            · exact h1 e he
            · rw [List.mem_singleton.mp he]
              exact h3
          · exact h2 t ht e he
        rcases stepI_cases h with rfl | ⟨rfl, rfl⟩ | ⟨t, rfl, rfl⟩ | ⟨t, u, r, rfl, rfl⟩ | ⟨t, r, rfl, rfl⟩ | ⟨t, r, hx, rfl, rfl⟩
        · refine ⟨fun t ht => ?_, hf⟩
          rcases List.mem_cons.mp ht with rfl | ht
          · exact fun d hd => nomatch hd
          · exact hs t ht
        · exact ⟨hs, hf⟩
        · exact ⟨(fun t ht => nomatch ht), .tup (hs t (by simp))⟩
        · exact ⟨add (hs u (by simp)) (fun t ht => hs t (by simp [ht])) (.tup (hs t (by simp))), .tup (hs t (by simp))⟩
        · exact ⟨hs, hf⟩
        · exact ⟨add (hs t (by simp)) (fun t ht => hs t (by simp [ht])) (itemW_ok (hw x (by simp))), hf⟩
      exact runI_it ws p.1 p.2 (fun w h => hw w (by simp [h])) fin.1 fin.2
theorem wWs_sum (ws : List (List Nat)) : wWs ws = (ws.map (·.length)).sum + 3 * ws.length := by
  unfold wWs
  induction ws with
  | nil => rfl
  | cons w ws ih =>
    rw [List.map_cons, List.sum_cons, List.map_cons, List.sum_cons, List.length_cons, ih]
    omega
theorem wide_sign : ∀ {x : List Nat} {c : Nat}, c ∈ wide x → c ∈ x ∨ c = 32 ∨ c = 40 ∨ c = 41
  | [], c, h => nomatch h
  | b :: x, c, h => by
    have h : c ∈ (if b = 40 then [32, 40, 32] else if b = 41 then [32, 41, 32] else [b]) ++ wide x := h
    rcases List.mem_append.mp h with h | h
    · split at h
      · simp at h
        omega
      · split at h
        · simp at h
          omega
        · rw [List.mem_singleton.mp h]
          exact .inl (by simp)
    · exact (wide_sign h).imp (fun h => by simp [h]) id
theorem text_ok {x : List Nat} (h : LineOk x) : TextOk x := by
  have hl := h.l
  have w3 := wide_len x
  obtain ⟨sn, sl, sp⟩ := spl_ok (s := 32) (wide x)
  have wok : ∀ p ∈ spl [32] 0 [] (wide x), PyData.strOk (S p) = true := fun p hp => sign_ok fun c hc => by
    rcases wide_sign ((sp p hp).2.1 c hc) with h1 | h1
    · exact h.a c h1
    · omega
  have len : (itemT (readI x)).length ≤ 400000 := by
    have z := runI_len (spl [32] 0 [] (wide x)) [] .none
    have e : potI [] .none = 1 := rfl
    rw [wWs_sum] at z
    obtain ⟨P, h1, h2, h3⟩ := parts_of (s := 32) (wide x)
    have j := join_sum (s := 32) (xs := P)
    rw [← h3] at j
    have sp : spl [32] 0 [] (wide x) = P := by
      rw [h3]
      exact spl_join h1 h2
    rw [sp] at z
    unfold readI
    rw [sp]
    omega
  refine ⟨by omega, fun p hp => ⟨by have := (sp p hp).1; omega, wok p hp⟩, ?_, by omega⟩
  exact fit_of (runI_it _ [] .none wok (fun t h => nomatch h) .non) len
end Wd

set_option Elab.async false
set_option linter.all false
set_option maxRecDepth 100000
set_option maxHeartbeats 4000000
set_option pp.maxSteps 400
set_option pp.deepTerms false
namespace Wd
open PySem L2 TL
open SX (S)

open PySem.Spec PyProof.Rows
/-! ### the rounds of any lines -/
inductive RR
  | bad (i : Nat)
  | ok (d : PyData)
def stB (x : List Nat) : Bool := standB (standD x)
theorem stB_iff {x : List Nat} : stB x = true ↔ standD x ≠ .none := by
  constructor
  · intro h e
    unfold stB at h
    rw [e] at h
    cases h
  · exact fun h => (standD_pos h).1
theorem stB_no {x : List Nat} : ¬ stB x = true ↔ standD x = .none := by
  rw [stB_iff]
  exact Classical.not_not
def roundsR (m : Nat) : List (List PyData) → Nat → List (List Nat) → RR
  | st, i, [] => if st.length < m then .bad i else .ok (.tuple (st.reverse.map .tuple))
  | st, i, x :: r => if x = rndW ∧ st.length < m then roundsR m ([] :: st) (i + 1) r
    else match st with
      | [] => .bad i
      | t :: st' => if stB x = true then roundsR m ((t ++ [standD x]) :: st') (i + 1) r else .bad i
theorem standD_pure (x : List Nat) : pureB (standD x) = true := by
  by_cases h : standD x = .none
  · rw [h]
    rfl
  · exact item_pure 20 (stand_item (standD_pos h).1).1
def spRoundsX (C : Addr) : Sp := fun vs H Q E => ∃ (a : Addr) (m : Nat) (ls : List (List Nat)), vs = [.ref a, .int (m : Nat)] ∧ H a = some (.lst (wV ls)) ∧ m + 2 ≤ ls.length ∧ ls.length ≤ 390001 ∧ (∀ x ∈ ls, LineOk x) ∧
  (∀ i, roundsR m [] (m + 2) (ls.drop (m + 2)) = .bad i → Told E H C "index" (.int (i : Nat))) ∧ ∀ d, roundsR m [] (m + 2) (ls.drop (m + 2)) = .ok d → ∀ H' v, Same H H' → DA [] H' d v → Q v H'
section
variable {P : Program} {w : World} {K : PySem.W.Frag} {mg : Str → Option Value} {base : Heap} {fI fL fR C : Addr} {dR : FuncData}
theorem ok_read_roundsX {f : Addr} {fd : FuncData} (F : Fun K "read_rounds" "read_rounds" sReadRounds f fd) (EP : ErrP P w K mg base C) (X : WTxt mg fI fL) (R : AtX P w K mg base 26 "read_stand" fR dR ["lines", "index"] (spReadStandX C)) : FnOk P w K mg base (L2.CX P w) 27 f fd ["lines", "many"] (spRoundsX C) := by
  obtain ⟨BN, BI, initId, newId, bN, bmB, EN⟩ := EP
  obtain ⟨fJ, fdJ, iC, tI, GJ, bJ⟩ := EN.i
  refine F.okX scRR (fun vs H Q E h => ?_) (fun cdv Ao outer s H vs Q E hr h => ?_)
  · obtain ⟨a, m, ls, rfl, _⟩ := h
    rfl
  · obtain ⟨a, m, ls, rfl, e, lm, ln, lok, bad, q⟩ := h
    have nd := scRR.nd
    have hr2 : Room 2 _ := hr.mono (by decide)
    refine ⟨_, pss_cons (ps_set (i := 2) nd rfl (Or.inl rfl) (pe_lst pa_nil))
      (pss_cons (ps_for (passes_of rfl) rfl (pi_range2 rfl X.range (pa_cons (pe_op op_add (pv 1) pe_int) (pa_cons (pe_callB call_len_seq (by rfl) X.len PySem.boot_len (pa_cons (pv 0) pa_nil)) pa_nil))) (pg_name (i := 3) nd rfl (Or.inl rfl)) (pss_one (ps_if (PW.pt (pw_and (pt_cmpR op_eq (pe_ix (r := rIxL K) ix_list (pv 0) (pv 3) (fun _ _ => rfl)) pe_str (nomark _)) (pw_and1 (pt_cmpR op_lt (pe_callB call_len_seq (by rfl) X.len PySem.boot_len (pa_cons (pv 2) pa_nil)) (pv 1) (nomark _))))) (pss_one (ps_expr (pe_bm PySem.F.plainAttrs_list PySem.F.slot_list_append PySem.F.type_list_append mt_append (pv 2) (pa_cons (pe_lst pa_nil) pa_nil)))) (pss_one (ps_if (pt_cmpR op_gt (pe_callB call_len_seq (by rfl) X.len PySem.boot_len (pa_cons (pv 2) pa_nil)) pe_int (nomark _)) (pss_one (ps_expr (pe_bm PySem.F.plainAttrs_list PySem.F.slot_list_append PySem.F.type_list_append mt_append (pe_ix ix_list (pv 2) (pe_un un_neg pe_int) (fun _ _ => rfl)) (pa_cons (pe_call R.g (hr.mono (by decide)) rfl R.m R.kp R.b .nil (passes_call (takes_of rfl rfl rfl rfl) (fun _ _ _ _ h => h)) (pa_cons (pv 0) (pa_cons (pv 3) pa_nil))) pa_nil)))) (pss_one (ps_raise rfl (takes_of rfl rfl rfl rfl) (Ek.pmk_raise EN.FN EN.U EN.T (raises_own EN.b EN.t) iC tI GJ hr2 bJ rfl EN.g (pv 3)))))))))
      (pss_cons (ps_if (pt_cmpR op_lt (pe_callB call_len_seq (by rfl) X.len PySem.boot_len (pa_cons (pv 2) pa_nil)) (pv 1) (nomark _)) (pss_one (ps_raise rfl (takes_of rfl rfl rfl rfl) (Ek.pmk_raise EN.FN EN.U EN.T (raises_own EN.b EN.t) iC tI GJ hr2 bJ rfl EN.g (pe_callB call_len_seq (by rfl) X.len PySem.boot_len (pa_cons (pv 0) pa_nil))))) pss_nil)
      (pss_one (ps_ret (pe_callTy call_tuple_of (by rfl) X.tup (by decide +kernel) (pa_cons (pe_lc (own := [("stands", 4)]) (g := gName 4) (tt := tYes) rfl nd (pi_list (pv 2)) (blkOk_by (N := nRR) (sc := defScope sReadRounds) (by decide +kernel)) (fun _ _ _ _ _ => pg_name (i := 4) nd rfl (Or.inl rfl)) (fun _ _ _ _ _ => pts_nil) (fun _ _ _ _ _ => (pe_callTy (call_tupO (K := K) rfl) (by rfl) X.tup (by decide +kernel) (pa_cons (pv 4) pa_nil)))) pa_nil)))))), ?_⟩
    refine ⟨by show 0 ≤ sizeLine; decide, fun O hO => ?_⟩
    have sO := same_new (o := .lst []) hO
    have eO : (upd H O (.lst [])) O = some (.lst []) := upd_same
    have e1 := sO _ _ e
    generalize upd H O (.lst []) = H1 at sO eO e1
    have noO : ∀ {H' : Hp} {o : HO}, Same H H' → Same H (upd H' O o) := fun {H' o} s b ob e => by
      rw [upd_ne (ne_of_none e hO)]
      exact s b ob e
    have lw := wV_len ls
    have big : (16777216 : Nat) ≤ sizeLine := by decide
    refine ⟨_, rfl, _, _, rfl, rfl, _, rfl, a, _, rfl, .inl (SqL.of e1), _, _, rfl, ⟨by omega, by omega, by omega, by omega⟩, ?_⟩
    have en : ((((wV ls).length : Nat) : Int) - ((m : Nat) + 2 : Int)).toNat = ls.length - (m + 2) := by omega
    rw [en]
    refine for_it (n := ls.length - (m + 2)) (walk_range (lo := ((m : Nat) : Int) + 2)) (fun i σ H' => ∃ (st : List (List PyData × Addr)) (v3 v4 : Option V), σ = [some (.ref a), some (.int (m : Nat)), some (.ref O), v3, v4] ∧ Same H H' ∧ StAt H O H' st ∧ st.length ≤ i ∧ (∀ p ∈ st, p.1.length ≤ i) ∧ roundsR m [] (m + 2) (ls.drop (m + 2)) = roundsR m (st.map (·.1)) (m + 2 + i) (ls.drop (m + 2 + i)))
      ⟨[], _, _, rfl, sO, ⟨eO, (fun p h => nomatch h), (fun p h => nomatch h), List.nodup_nil, (fun h => nomatch h), fun p h => nomatch h⟩, Nat.le_refl _, (fun p h => nomatch h), rfl⟩ (fun _ _ _ _ _ => trivial) ?_ ?_
    · rintro i x σ Hx H2 hi ⟨st, v3, v4, rfl, s2, mm, li, lp, run⟩ ⟨rfl, rfl⟩
      have e2 := s2 _ _ e
      have hix : m + 2 + i < ls.length := by omega
      have lO : (List.map V.ref (st.map (·.2)).reverse).length = st.length := by simp
      have lx := lok _ (List.getElem_mem hix)
      have at_ : atI (wV ls) (((m : Nat) : Int) + 2 + (i : Int)) = some (.str (S ls[m + 2 + i])) := by
        refine at_nn (by omega) ?_
        rw [show (((m : Nat) : Int) + 2 + (i : Int)).toNat = m + 2 + i by omega]
        exact wV_get hix
      rw [List.drop_eq_getElem_cons hix] at run
      generalize ls[m + 2 + i] = x at lx at_ run
      have rn : roundsR m (st.map (·.1)) (m + 2 + i) (x :: ls.drop (m + 2 + i + 1)) = (if x = rndW ∧ (st.map (·.1)).length < m then roundsR m ([] :: st.map (·.1)) (m + 2 + i + 1) (ls.drop (m + 2 + i + 1))
        else match st.map (·.1) with
          | [] => .bad (m + 2 + i)
          | t :: st' => if stB x = true then roundsR m ((t ++ [standD x]) :: st') (m + 2 + i + 1) (ls.drop (m + 2 + i + 1)) else .bad (m + 2 + i)) := rfl
      rw [List.length_map] at rn
      refine ⟨_, rfl, _, rfl, a, _, _, _, rfl, rfl, SqL.of e2, at_, rfl, _, rfl, ?_⟩
      apply use_two2 (I := fun Hx => Hx = H2 ∧ ¬ (x = rndW ∧ st.length < m))
      case main =>
        intro els
        by_cases hx : x = rndW
        · rw [decide_eq_true (show V.str (S x) = V.str (Str.ofString "round") from by rw [hx]; exact congrArg V.str (SX.S_tl _))]
          refine iteT ⟨_, rfl, O, _, rfl, .inl (SqL.of mm.l), _, rfl, _, _, rfl, rfl, _, rfl, ?_⟩
          rw [lO]
          by_cases hm : st.length < m
          · rw [decide_eq_true (by omega)]
            refine iteT ⟨_, rfl, .inl ⟨rfl, _, SqL.of mm.l⟩, by show 0 ≤ sizeLine; decide, fun p hp => ?_⟩
            have hp0 : H p = none := by
              cases h : H p with
              | none => rfl
              | some o => rw [s2 _ _ h] at hp; cases hp
            obtain ⟨m', k⟩ := mm.push hp hp0
            have s3 := same_new (o := .lst []) hp
            refine ⟨O, _, .ref p, rfl, rfl, s3 _ _ mm.l, by rw [lO]; omega, ?_⟩
            refine ⟨([], p) :: st, _, _, rfl, noO (s2.trans s3), m', by rw [List.length_cons]; omega, fun p' hp' => ?_, ?_⟩
            · rcases List.mem_cons.mp hp' with rfl | hp'
              · exact Nat.zero_le _
              · have := lp p' hp'
                omega
            · rw [run, rn, if_pos ⟨hx, hm⟩]
              rfl
          · rw [decide_eq_false (by omega)]
            refine iteF ?_
            generalize hy : H2 = Hy
            exact els Hy ⟨hy.symm, fun h => hm h.2⟩
        · rw [decide_eq_false (show V.str (S x) ≠ V.str (Str.ofString "round") from fun e => hx (V_S.mp (by rw [e]; rfl)))]
          exact iteF (els H2 ⟨rfl, fun h => hx h.1⟩)
      case two =>
      rintro H2 ⟨rfl, hno⟩
      rw [if_neg hno] at rn
      have tell : ∀ {H' : Hp}, Same H H' → roundsR m [] (m + 2) (ls.drop (m + 2)) = .bad (m + 2 + i) → Told E H' C "index" (.int (((m : Nat) : Int) + 2 + (i : Int))) := fun {H'} s h => by
        have := bad _ h
        rw [show ((m + 2 + i : Nat) : Int) = ((m : Nat) : Int) + 2 + (i : Int) by omega] at this
        exact this.at_ s
      refine ⟨_, rfl, O, _, rfl, .inl (SqL.of mm.l), _, _, rfl, rfl, _, rfl, ?_⟩
      rw [lO]
      cases st with
      | nil =>
        exact iteF ⟨_, rfl, tell s2 (by rw [run, rn]; rfl)⟩
      | cons p r =>
        obtain ⟨t, b⟩ := p
        rw [decide_eq_true (by simp)]
        have eO2 : H2 O = some (.lst ((r.map (·.2)).reverse.map V.ref ++ [.ref b])) := by
          rw [mm.l]
          show some (HO.lst ((b :: r.map (·.2)).reverse.map V.ref)) = _
          rw [List.reverse_cons, List.map_append]
          rfl
        obtain ⟨xs, eb, dl⟩ := mm.it (t, b) (by simp)
        have eb : H2 b = some (.lst xs) := eb
        have lxs : t.length = xs.length := dl.length
        have t9 : t.length ≤ i := lp (t, b) (by simp)
        have b0 : H b = none := mm.nw (t, b) (by simp)
        refine iteT ⟨_, rfl, _, rfl, O, _, _, _, rfl, rfl, SqL.of eO2, atI_last _ _, .inl ⟨rfl, _, SqL.of eb⟩, _, rfl, _, rfl, a, _, _, x, rfl, e2, at_, text_ok lx, fun hn => tell s2 ?_, fun hn H3 v s3 dv => ?_⟩
        · rw [run, rn]
          exact if_neg (stB_no.mpr hn)
        refine ⟨b, xs, v, rfl, rfl, s3 _ _ eb, by omega, ?_⟩
        obtain ⟨m', k⟩ := (mm.keep s3).item (s3 _ _ eb) dv (standD_pure x)
        refine ⟨(t ++ [standD x], b) :: r, _, _, rfl, fun d o e => ?_, m', ?_, fun p' hp' => ?_, ?_⟩
        · rw [upd_ne (ne_of_none e b0)]
          exact s3 _ _ (s2 _ _ e)
        · rw [List.length_cons] at li ⊢
          omega
        · rcases List.mem_cons.mp hp' with rfl | hp'
          · show (t ++ [standD x]).length ≤ i + 1
            rw [List.length_append, List.length_singleton]
            omega
          · have := lp p' (List.mem_cons_of_mem _ hp')
            omega
        · rw [run, rn]
          exact if_pos (stB_iff.mpr hn)
    · rintro σ H2 ⟨st, v3, v4, rfl, s2, mm, li, lp, run⟩
      have dn : ls.drop (m + 2 + (ls.length - (m + 2))) = [] := List.drop_of_length_le (by omega)
      rw [dn] at run
      have lO : (List.map V.ref (st.map (·.2)).reverse).length = st.length := by simp
      have e2 := s2 _ _ e
      refine ⟨_, rfl, O, _, rfl, .inl (SqL.of mm.l), _, rfl, _, _, rfl, rfl, _, rfl, ?_⟩
      rw [lO]
      have rn : roundsR m (st.map (·.1)) (m + 2 + (ls.length - (m + 2))) [] = (if (st.map (·.1)).length < m then .bad (m + 2 + (ls.length - (m + 2))) else .ok (.tuple ((st.map (·.1)).reverse.map .tuple))) := rfl
      rw [List.length_map, show m + 2 + (ls.length - (m + 2)) = ls.length by omega] at rn
      rw [show m + 2 + (ls.length - (m + 2)) = ls.length by omega] at run
      by_cases hm : st.length < m
      · rw [decide_eq_true (by omega)]
        rw [if_pos hm] at rn
        refine iteT ⟨_, rfl, a, _, rfl, .inl (SqL.of e2), ?_⟩
        rw [lw]
        exact (bad _ (run.trans rn)).at_ s2
      · rw [decide_eq_false (by omega)]
        rw [if_neg hm] at rn
        refine iteF ⟨_, rfl, O, rfl, ⟨_, SqL.of mm.l⟩, fun D hD => ?_⟩
        have lrs : ((st.map (·.1)).reverse.map PyData.tuple).length = st.length := by simp
        refine lc_data (walk_list (K := K) (xs := List.map V.ref (st.map (·.2)).reverse) (a := O)) ((st.map (·.1)).reverse.map .tuple) (by rw [lO, lrs]) (fun d hd => ?_) hD (by omega) (fun H4 s4 => SqL.of (s4 _ _ mm.l)) ?_ ?_
        · obtain ⟨ss, hs, rfl⟩ := List.mem_map.mp hd
          obtain ⟨p, hp, rfl⟩ := List.mem_map.mp (List.mem_reverse.mp hs)
          exact mm.pu p hp
        · rintro i x H4 H' kT hi s4 ⟨rfl, hx⟩ kk
          rw [lrs] at hi
          have hir : i < st.reverse.length := by rw [List.length_reverse]; omega
          have ex : x = .ref st.reverse[i].2 := by
            rw [← List.map_reverse, List.map_map, List.getElem?_map, List.getElem?_eq_getElem hir] at hx
            injection hx with hx
            exact hx.symm
          have hm : st.reverse[i] ∈ st := List.mem_reverse.mp (List.getElem_mem hir)
          obtain ⟨xs, eb, dl⟩ := mm.it _ hm
          refine ⟨rfl, _, rfl, st.reverse[i].2, xs, by rw [ex], .inl ⟨SqL.of (s4 _ _ eb), fun q hq => ?_⟩⟩
          have sq := same_new (o := .tup xs) hq
          refine kk _ _ sq ?_
          have er : ((st.map (·.1)).reverse.map PyData.tuple)[i]'(by rw [lrs]; omega) = .tuple st.reverse[i].1 := by
            have : ((st.map (·.1)).reverse.map PyData.tuple)[i]? = some (.tuple st.reverse[i].1) := by rw [← List.map_reverse, List.map_map, List.getElem?_map, List.getElem?_eq_getElem hir]; rfl
            rw [List.getElem?_eq_getElem (by rw [lrs]; omega)] at this
            injection this
          rw [er]
          exact .tup (fun z => nomatch z) upd_same ((dl.same s4).same sq)
        · intro H4 ys s4 ey dy
          refine ⟨D, ys, rfl, .inl ⟨SqL.of ey, fun b hb => ?_⟩⟩
          have sq := same_new (o := .tup ys) hb
          exact q _ (run.trans rn) _ _ ((s2.trans s4).trans sq) (.tup (fun z => nomatch z) upd_same (dy.same sq))
end
end Wd

set_option Elab.async false
set_option linter.all false
set_option maxRecDepth 100000
set_option maxHeartbeats 4000000
set_option pp.maxSteps 400
set_option pp.deepTerms false
namespace Wd
open PySem L2 TL
open SX (S)

open PySem.Spec PyProof.Rows
/-! ### papers of any text -/
def listR : List PyData → Nat → List (List Nat) → RR
  | ss, _, [] => .ok (.tuple [.str (Str.ofString "list"), .tuple ss])
  | ss, i, x :: r => if stB x = true then listR (ss ++ [standD x]) (i + 1) r else .bad i
theorem listR_at : ∀ (i : Nat) {ls : List (List Nat)} {ss : List PyData} {k : Nat}, i ≤ ls.length → (∀ (j : Nat) (hj : j < ls.length), j < i → standD ls[j] ≠ .none) → listR ss k ls = listR (ss ++ (ls.take i).map standD) (k + i) (ls.drop i)
  | 0, ls, ss, k, _, _ => by
    rw [List.take_zero, List.map_nil, List.append_nil]
    rfl
  | i + 1, [], ss, k, h, _ => absurd h (by simp)
  | i + 1, x :: r, ss, k, h, a => by
    have h0 : standD x ≠ .none := a 0 (by simp) (by omega)
    have e : listR ss k (x :: r) = listR (ss ++ [standD x]) (k + 1) r := if_pos (stB_iff.mpr h0)
    rw [e, listR_at i (by rw [List.length_cons] at h; omega) (fun j hj hi => a (j + 1) (by simpa using hj) (by omega))]
    rw [List.take_succ_cons, List.map_cons, List.drop_succ_cons, List.append_assoc, show k + 1 + i = k + (i + 1) by omega]
    rfl
def paperR (x : List Nat) : RR := match spl [10] 0 [] x with
  | [] => .bad 0
  | h :: ls => if h = listW then listR [] 1 ls
    else if h = rowW then (match tapeR [] 1 ls with
      | .bad i => .bad i
      | .fin es t rest => (match roundsR es.length [] (es.length + 2) rest with
        | .bad i => .bad i
        | .ok d => .ok (.tuple [.str (Str.ofString "row"), .tuple es, .int t, d])))
    else .bad 0
/-- a text that is not too long -/
structure PTxt (x : List Nat) : Prop where
  l : x.length ≤ 380000
  a : ∀ y ∈ spl [10] 0 [] x, LineOk y
theorem lc_stands {J : It} {n : Nat} {G : Hp → Prop} {Y : Nat → Hp → V → Hp → Prop} (w : Walk J n G Y) (ds : List PyData) (hw : ds.length = n) (pu : ∀ d ∈ ds, pureB d = true) {g : TG} {te : TE} {vs : List Nat} {σ : L2.St} {H1 : Hp} {D : Addr} {Qd : Hp → Prop}
    (hD : H1 D = none) (hn : n ≤ 400000) (hG : ∀ H, Same H1 H → G H)
    (hs : ∀ i x H H' (kT : VK) (hi : i < ds.length), Same H1 H → (∀ j (hj : j < ds.length), j < i → ds[j] ≠ .none) → Y i H x H' → (∀ H4 v, Same H H4 → ds[i] ≠ .none → DA [] H4 ds[i] v → kT v H4) → g x (wipe σ vs) H' fun σ2 H2 => wipe σ2 vs = wipe σ vs ∧ te σ2 H2 kT)
    (hd : ∀ H ys, Same H1 H → H D = some (.lst ys) → DAL [] H ds ys → (∀ d ∈ ds, d ≠ .none) → Qd H) :
    ∃ W : Nat → Nat → Hp → Prop, (∃ m, W 0 m (upd H1 D (.lst []))) ∧ ∀ i m H, W i m H →
      (J.stop i H ∧ Qd H) ∨ (J.go i H ∧ ∃ Nx : Hp → Prop, (∀ H', Nx H' → ∃ m', m' < m ∧ W (i + 1) m' H') ∧ ∀ x H', J.yld i H x H' → g x (wipe σ vs) H' fun σ2 H2 => wipe σ2 vs = wipe σ vs ∧ tYes σ2 H2 fun b H3 =>
        if b = true then te σ2 H3 fun y H4 => ∃ acc, H4 D = some (.lst acc) ∧ acc.length < sizeLine ∧ Nx (upd H4 D (.lst (acc ++ [y]))) else Nx H3) := by
  have past : ∀ {H : Hp} {o : HO}, Same H1 H → Same H1 (upd H D o) := fun s b u e => by
    rw [upd_ne (ne_of_none e hD)]
    exact s _ _ e
  refine lc_it w (fun i H => Same H1 H ∧ ∃ ys, H D = some (.lst ys) ∧ ys.length = i ∧ ∀ (j : Nat) y, ys[j]? = some y → ∃ hj : j < ds.length, ds[j] ≠ .none ∧ DA [] H ds[j] y) ⟨past (Same.refl _), [], upd_same, rfl, fun j y e => by simp at e⟩ (fun i H _ ⟨s, _⟩ => hG H s) ?_
    (fun H ⟨s, ys, d, l, p⟩ => hd H ys s d (DAL.get (by omega) fun i hi y e => (p i y e).2.2) fun e he => by
      obtain ⟨j, hj, rfl⟩ := List.getElem_of_mem he
      exact (p j ys[j] (List.getElem?_eq_getElem (by omega))).2.1)
  rintro i x H H' hi ⟨s, ys, d, l, p⟩ y
  refine hs i x H H' _ (by omega) s (fun j hj hji => (p j ys[j] (List.getElem?_eq_getElem (by omega))).2.1) y fun H4 z s4 hn dz => ⟨ys, s4 _ _ d, small4 (by omega), past (s.trans s4), ys ++ [z], upd_same, by simp; omega, fun j u e => ?_⟩
  have kp : TK H4 (upd H4 D (.lst (ys ++ [z]))) := TK.lst (s4 _ _ d)
  by_cases hj : j < ys.length
  · rw [List.getElem?_append_left hj] at e
    obtain ⟨h1, h2, h3⟩ := p j u e
    exact ⟨h1, h2, h3.tk ((TK.of s4).trans kp) (pu _ (List.getElem_mem h1))⟩
  · rw [List.getElem?_append_right (by omega)] at e
    have hj0 : j - ys.length = 0 := by
      have := (List.getElem?_eq_some_iff.mp e).1
      simp at this
      omega
    rw [hj0] at e
    simp at e
    subst e
    obtain rfl : j = i := by omega
    exact ⟨by omega, hn, dz.tk kp (pu _ (List.getElem_mem _))⟩
def spReadPaperX (C : Addr) : Sp := fun vs H Q E => (∃ (A : List Addr) (v : V) (d : PyData), vs = [v] ∧ DA A H d v ∧ (∀ z, d ≠ .str z) ∧ Told E H C "index" .non) ∨
  (∃ x : List Nat, vs = [.str (S x)] ∧ PTxt x ∧ (∀ i, paperR x = .bad i → Told E H C "index" (.int (i : Nat))) ∧ ∀ d, paperR x = .ok d → ∀ H' v, Same H H' → DA [] H' d v → Q v H')
section
variable {P : Program} {w : World} {K : PySem.W.Frag} {mg : Str → Option Value} {base : Heap} {fI fL fR fT fD C : Addr} {dR dT dD : FuncData}
theorem ok_read_paperX {f : Addr} {fd : FuncData} (F : Fun K "read_paper" "read_paper" sReadPaper f fd) (EP : ErrP P w K mg base C) (X : WTxt mg fI fL) (R : AtX P w K mg base 26 "read_stand" fR dR ["lines", "index"] (spReadStandX C)) (T : AtX P w K mg base 5 "read_tape" fT dT ["lines"] (spReadTapeX C)) (D : AtX P w K mg base 27 "read_rounds" fD dD ["lines", "many"] (spRoundsX C)) : FnOk P w K mg base (L2.CX P w) 28 f fd ["text"] (spReadPaperX C) := by
  obtain ⟨BN, BI, initId, newId, bN, bmB, EN⟩ := EP
  obtain ⟨fJ, fdJ, iC, tI, GJ, bJ⟩ := EN.i
  refine F.okX scRP (fun vs H Q E h => ?_) (fun cdv Ao outer s H vs Q E hr h => ?_)
  · obtain ⟨A, v, d, rfl, _⟩ | ⟨x, rfl, _⟩ := h <;> rfl
  · have nd := scRP.nd
    have hr5 : Room 5 _ := hr.mono (by decide)
    have hr26 : Room 26 _ := hr.mono (by decide)
    have hr27 : Room 27 _ := hr.mono (by decide)
    have hr2 : Room 2 _ := hr.mono (by decide)
    refine ⟨_, pss_cons (ps_if (pt_not (pt_val (pe_isi (N := "str") (pv 0) X.isin X.str))) (pss_one (ps_raise rfl (takes_of rfl rfl rfl rfl) (Ek.pmk_raise EN.FN EN.U EN.T (raises_own EN.b EN.t) iC tI GJ hr2 bJ rfl EN.g pe_non))) pss_nil)
      (pss_cons (ps_set (i := 1) nd rfl (Or.inr rfl) (pe_split (pv 0) pe_str))
      (pss_cons (ps_if (pt_cmpR op_eq (pe_ix (r := rIxL K) ix_list (pv 1) pe_int (fun _ _ => rfl)) pe_str (nomark _)) (pss_one (ps_ret (pe_tup (pa_cons pe_str (pa_cons (pe_callTy call_tuple_of (by rfl) X.tup (by decide +kernel) (pa_cons (pe_lcR (own := [("index", 4)]) (g := gName 4) (tt := tYes) rfl rfl (takes_of rfl rfl rfl rfl) rfl nd (pi_range2 rfl X.range (pa_cons pe_int (pa_cons (pe_callB call_len_seq (by rfl) X.len PySem.boot_len (pa_cons (pv 1) pa_nil)) pa_nil))) (blkOk_by (N := nRP) (sc := defScope sReadPaper) (by decide +kernel)) (fun _ _ _ _ _ _ => pg_name (i := 4) nd rfl (Or.inl rfl)) (fun _ _ _ _ _ _ => pts_nil) (fun _ _ _ _ _ _ ps => (pe_call R.g hr26 rfl R.m R.kp R.b .nil ps (pa_cons (pv 1) (pa_cons (pv 4) pa_nil))))) pa_nil)) pa_nil))))) pss_nil)
      (pss_cons (ps_if (pt_cmpR op_ne (pe_ix (r := rIxL K) ix_list (pv 1) pe_int (fun _ _ => rfl)) pe_str (nomark _)) (pss_one (ps_raise rfl (takes_of rfl rfl rfl rfl) (Ek.pmk_raise EN.FN EN.U EN.T (raises_own EN.b EN.t) iC tI GJ hr2 bJ rfl EN.g pe_int))) pss_nil)
      (pss_cons (ps_asg (pe_call T.g hr5 rfl T.m T.kp T.b .nil (passes_call (takes_of rfl rfl rfl rfl) (fun _ _ _ _ h => h)) (pa_cons (pv 1) pa_nil)) (pg_tup rfl (pgs_cons (pg_name (i := 2) nd rfl (Or.inl rfl)) (pgs_cons (pg_name (i := 3) nd rfl (Or.inl rfl)) pgs_nil))))
      (pss_one (ps_ret (pe_tup (pa_cons pe_str (pa_cons (pv 2) (pa_cons (pv 3) (pa_cons (pe_call D.g hr27 rfl D.m D.kp D.b .nil (passes_call (takes_of rfl rfl rfl rfl) (fun _ _ _ _ h => h)) (pa_cons (pv 1) (pa_cons (pe_callB call_len_seq (by rfl) X.len PySem.boot_len (pa_cons (pv 2) pa_nil)) pa_nil))) pa_nil))))))))))), ?_⟩
    rcases h with ⟨A, v, d, rfl, da, ns, told⟩ | ⟨x, rfl, ok, bad, q⟩
    · rcases da.isStr (K := K) with ⟨z, _, e, _⟩ | ⟨_, _, i1⟩
      · exact absurd e (ns z)
      · exact ⟨_, rfl, false, i1, _, rfl, iteT told⟩
    have big : (16777216 : Nat) ≤ sizeLine := by decide
    have t9 := ok.l
    refine ⟨_, rfl, true, isi_ty (.base (.str _)) (by decide), _, rfl, iteF ?_⟩
    refine ⟨_, rfl, ⟨_, rfl⟩, _, _, rfl, rfl, rfl, by rw [SX.S_len]; omega, fun a ha => ?_⟩
    have s1 := same_new (o := .lst ((Txt.split (S x) (Str.ofString "\n")).map V.str)) ha
    have e1 : (upd H a (.lst ((Txt.split (S x) (Str.ofString "\n")).map V.str))) a = some (.lst (wV (spl [10] 0 [] x))) := by
      rw [upd_same, show Str.ofString "\n" = S [10] from rfl, SX.split_S (by simp) (by decide), wV_eq]
    generalize upd H a (.lst ((Txt.split (S x) (Str.ofString "\n")).map V.str)) = H1 at s1 e1 ⊢
    obtain ⟨sn, sl, sp⟩ := spl_ok (s := 10) x
    have lok := ok.a
    obtain ⟨x0, ls, hw⟩ : ∃ u ws, spl [10] 0 [] x = u :: ws := by
      cases h : spl [10] 0 [] x with
      | nil => exact absurd h sn
      | cons u ws => exact ⟨u, ws, rfl⟩
    rw [hw] at e1 sl lok
    rw [List.length_cons] at sl
    have pr : paperR x = (if x0 = listW then listR [] 1 ls
      else if x0 = rowW then (match tapeR [] 1 ls with
        | .bad i => .bad i
        | .fin es t rest => (match roundsR es.length [] (es.length + 2) rest with
          | .bad i => .bad i
          | .ok d => .ok (.tuple [.str (Str.ofString "row"), .tuple es, .int t, d])))
      else .bad 0) := by
      unfold paperR
      rw [hw]
    have lw : (wV (x0 :: ls)).length = ls.length + 1 := by rw [wV_len, List.length_cons]
    refine ⟨_, rfl, a, _, 0, _, rfl, rfl, SqL.of e1, atI_nat (j := 0) rfl, rfl, _, rfl, ?_⟩
    by_cases hl : x0 = listW
    · rw [decide_eq_true (show V.str (S x0) = V.str (Str.ofString "list") from by rw [hl]; exact congrArg V.str (SX.S_tl _))]
      rw [if_pos hl] at pr
      refine iteT ⟨_, rfl, a, _, rfl, .inl (SqL.of e1), _, _, rfl, ⟨by omega, by omega, by omega, by omega⟩, fun D0 hD => ?_⟩
      have en : ((((wV (x0 :: ls)).length : Nat) : Int) - 1).toNat = ls.length := by omega
      rw [en]
      refine lc_stands (walk_range (lo := 1)) (ls.map standD) (List.length_map ..) (fun d hd => ?_) hD (by omega) (fun _ _ => trivial) ?_ ?_
      · obtain ⟨y, _, rfl⟩ := List.mem_map.mp hd
        exact standD_pure y
      · rintro i y H4 H' kT hi s4 pre ⟨rfl, rfl⟩ kk
        rw [List.length_map] at hi
        have pre : ∀ (j : Nat) (hj : j < ls.length), j < i → standD ls[j] ≠ .none := fun j hj hji => by
          have := pre j (by rw [List.length_map]; exact hj) hji
          rw [List.getElem_map] at this
          exact this
        rw [List.getElem_map] at kk
        have run := listR_at i (ss := []) (k := 1) (Nat.le_of_lt hi) pre
        rw [List.drop_eq_getElem_cons hi] at run
        have at_ : atI (wV (x0 :: ls)) (1 + (i : Int)) = some (.str (S ls[i])) := by
          refine at_nn (by omega) ?_
          rw [show (1 + (i : Int)).toNat = i + 1 by omega]
          unfold wV
          rw [List.getElem?_map]
          show (ls[i]?).map _ = _
          rw [List.getElem?_eq_getElem hi]
          rfl
        refine ⟨rfl, _, rfl, _, rfl, a, _, _, ls[i], rfl, s4 _ _ e1, at_, text_ok (lok _ (List.mem_cons_of_mem _ (List.getElem_mem hi))), fun hn => ?_, fun hn H5 v s5 dv => kk _ _ s5 hn dv⟩
        have b := bad (1 + i) (by
          rw [pr, run]
          exact if_neg (stB_no.mpr hn))
        rw [show ((1 + i : Nat) : Int) = 1 + (i : Int) by omega] at b
        exact b.at_ (s1.trans s4)
      · intro H4 ys s4 ey dy all
        refine ⟨D0, ys, rfl, .inl ⟨SqL.of ey, fun b hb => ⟨by show 2 ≤ sizeLine; decide, fun c hc => ?_⟩⟩⟩
        have sb := same_new (o := .tup ys) hb
        have sc := same_new (o := .tup [.str (Str.ofString "list"), .ref b]) hc
        refine q (.tuple [.str (Str.ofString "list"), .tuple (ls.map standD)]) ?_ _ _ (((s1.trans s4).trans sb).trans sc) (.tup (fun z => nomatch z) upd_same (.cons (.str _) (.cons (.tup (fun z => nomatch z) (sc _ _ upd_same) ((dy.same sb).same sc)) .nil)))
        have run := listR_at ls.length (ss := []) (k := 1) (Nat.le_refl _) fun j hj _ => all _ (List.mem_map_of_mem (List.getElem_mem hj))
        rw [pr, run, List.drop_length, List.take_length]
        rfl
    · rw [decide_eq_false (show V.str (S x0) ≠ V.str (Str.ofString "list") from fun e => hl (V_S.mp (by rw [e]; rfl)))]
      rw [if_neg hl] at pr
      refine iteF ⟨_, rfl, a, _, 0, _, rfl, rfl, SqL.of e1, atI_nat (j := 0) rfl, rfl, _, rfl, ?_⟩
      by_cases hr : x0 = rowW
      · rw [decide_eq_true (show V.str (S x0) = V.str (Str.ofString "row") from by rw [hr]; exact congrArg V.str (SX.S_tl _))]
        rw [if_pos hr] at pr
        refine iteF ⟨_, rfl, a, x0, ls, rfl, e1, by omega, fun y hy => lok y (List.mem_cons_of_mem _ hy), fun i hi => ?_, fun es t rest hf H2 v s2 dv => ?_⟩
        · rw [hi] at pr
          exact (bad i pr).at_ s1
        rw [hf] at pr
        dsimp only at pr
        have e2 := s2 _ _ e1
        obtain ⟨ev, t1, t2, k, k1, k2, k3⟩ := tapeR_fin hf rfl
        have k1 : es.length = k := by rw [k1]; exact Nat.zero_add _
        subst k1
        have dr : (x0 :: ls).drop (es.length + 2) = rest := by rw [k2]; rfl
        cases dv with
        | @tup p xs _ np ep dl =>
          cases dl with
          | @cons _ _ v1 _ d1 dl =>
            cases dl with
            | @cons _ _ v2 _ d2 dl =>
              cases dl
              cases d2
              cases d1 with
              | @tup b ys _ nb eb de =>
                have lb := de.length
                refine ⟨p, _, rfl, SqT.of ep, rfl, _, _, rfl, _, _, rfl, rfl, ?_⟩
                refine ⟨_, rfl, _, rfl, _, rfl, _, rfl, b, ys, rfl, .inr (SqT.of eb), a, es.length, x0 :: ls, ?_, e2, ?_, ?_, lok, fun i hi => ?_, fun d hd H3 v s3 dv => ?_⟩
                · rw [← lb]
                  rfl
                · rw [List.length_cons]
                  omega
                · rw [List.length_cons]
                  omega
                · rw [dr] at hi
                  rw [hi] at pr
                  exact (bad i pr).at_ (s1.trans s2)
                · rw [dr] at hd
                  rw [hd] at pr
                  refine ⟨by show 4 ≤ sizeLine; decide, fun c hc => ?_⟩
                  have sc := same_new (o := .tup [.str (Str.ofString "row"), .ref b, .int t, v]) hc
                  exact q _ pr _ _ (((s1.trans s2).trans s3).trans sc) (.tup (fun z => nomatch z) upd_same (.cons (.str _) (.cons (.tup (fun z => nomatch z) (sc _ _ (s3 _ _ eb)) ((de.same s3).same sc)) (.cons (.int _) (.cons (dv.same sc) .nil)))))
      · rw [decide_eq_false (show V.str (S x0) ≠ V.str (Str.ofString "row") from fun e => hr (V_S.mp (by rw [e]; rfl)))]
        rw [if_neg hr] at pr
        exact iteT ((bad 0 pr).at_ s1)
end
end Wd

set_option Elab.async false
set_option linter.all false
set_option maxRecDepth 100000
set_option maxHeartbeats 4000000
set_option pp.maxSteps 400
set_option pp.deepTerms false
namespace Wd
open PySem L2 TL
open SX (S)

open PySem.Spec PyProof.Rows CwR
/-! ### papers written -/
def paperB (d : PyData) : Bool := listPB d || rowPB d
theorem isStrB_is {z : Str} {d : PyData} (h : isStrB z d = true) : d = .str z := by
  cases d with
  | str y =>
    have h : decide (y = z) = true := h
    rw [of_decide_eq_true h]
  | _ => cases h
theorem stands_is {d : PyData} (h : standsB d = true) : ∃ ss, d = .tuple ss ∧ ∀ x ∈ ss, standB x = true := by
  cases d with
  | tuple ss =>
    have h : ss.all standB = true := h
    exact ⟨ss, rfl, List.all_eq_true.mp h⟩
  | _ => cases h
theorem listP_parts {d : PyData} (h : listPB d = true) : ∃ ss, d = .tuple [.str (Str.ofString "list"), .tuple ss] ∧ ∀ x ∈ ss, standB x = true := by
  cases d with
  | tuple ds =>
    match ds, h with
    | [a, b], h =>
      have h : (isStrB (Str.ofString "list") a && standsB b) = true := h
      rw [Bool.and_eq_true] at h
      obtain rfl := isStrB_is h.1
      obtain ⟨ss, rfl, hs⟩ := stands_is h.2
      exact ⟨ss, rfl, hs⟩
    | [], h => cases h
    | [_], h => cases h
    | _ :: _ :: _ :: _, h => cases h
  | _ => cases h
theorem rowP_parts {d : PyData} (h : rowPB d = true) : ∃ (es : List PyData) (l : Int) (rs : List (List PyData)), d = .tuple [.str (Str.ofString "row"), .tuple es, .int l, .tuple (rs.map .tuple)] ∧ es.all eventB = true ∧ ascI (es.map evT) = true ∧ -ten60 < l ∧ l < ten60 ∧ lastT (.tuple es) ≤ l ∧ rs.length = es.length ∧ ∀ ss ∈ rs, ∀ x ∈ ss, standB x = true := by
  cases d with
  | tuple ds =>
    match ds, h with
    | [a, b, c, e], h =>
      have h : (isStrB (Str.ofString "row") a && (rowEB b && (lastB (lastT b) c && (countB (lenD b) e && allStandsB e)))) = true := h
      rw [Bool.and_eq_true, Bool.and_eq_true, Bool.and_eq_true, Bool.and_eq_true] at h
      obtain ⟨h1, h2, h3, h4, h5⟩ := h
      obtain rfl := isStrB_is h1
      cases b with
      | tuple es =>
        have h2 : (es.all eventB && ascI (es.map evT)) = true := h2
        rw [Bool.and_eq_true] at h2
        cases c with
        | int l =>
          have h3 : (intB (.int l) && decide (lastT (.tuple es) ≤ l)) = true := h3
          rw [Bool.and_eq_true, decide_eq_true_eq] at h3
          have l12 := intB_i h3.1
          cases e with
          | tuple rs =>
            have h4 : decide (rs.length = es.length) = true := h4
            have h5 : rs.all standsB = true := h5
            have h5 := List.all_eq_true.mp h5
            have eb : (rs.map partsD).map PyData.tuple = rs := by
              rw [List.map_map]
              refine (List.map_congr_left fun x hx => ?_).trans (List.map_id rs)
              obtain ⟨ss, rfl, _⟩ := stands_is (h5 x hx)
              rfl
            refine ⟨es, l, rs.map partsD, by rw [eb], h2.1, h2.2, l12.1, l12.2, h3.2, by rw [List.length_map]; exact of_decide_eq_true h4, fun ss hs x hx => ?_⟩
            obtain ⟨y, hy, rfl⟩ := List.mem_map.mp hs
            obtain ⟨s2, rfl, hs2⟩ := stands_is (h5 y hy)
            exact hs2 x hx
          | _ => cases h4
        | _ => cases h3
      | _ => cases h2
    | [], h => cases h
    | [_], h => cases h
    | [_, _], h => cases h
    | [_, _, _], h => cases h
    | _ :: _ :: _ :: _ :: _ :: _, h => cases h
  | _ => cases h
def spWritePaper (CI : Addr) : Sp := fun vs H Q E => ∃ (A : List Addr) (v : V) (d : PyData), vs = [v] ∧ DA A H d v ∧ fitB 400000 d = true ∧ (paperB d = true → (paperT d).length ≤ 900000 ∧ ∀ H', Same H H' → Q (.str (S (paperT d))) H') ∧ (paperB d = false → ∀ H', Same H H' → E (.ref CI) none H')
def lcScope : Expr → Scope
  | .ListComp _ _ sc _ => sc
  | _ => { kind := .function, names := [], isGenerator := false, isCoroutine := false }
def binL : Expr → Expr
  | .BinOp l _ _ _ => l
  | e => e
def binR : Expr → Expr
  | .BinOp _ _ r _ => r
  | e => e
def asgVal : Stmt → Expr
  | .Assign _ e _ => e
  | _ => .Constant .none 0 ⟨0, 0, 0, 0⟩
def bodyAt (s : Stmt) (i : Nat) : Stmt := match s with
  | .FunctionDef _ _ b _ _ _ _ _ _ _ => b.getD i (.Pass ⟨0, 0, 0, 0⟩)
  | s => s
/-- pi_tup and pe_join where K is named -/
theorem pi_tupK {X : Cx} {K : PySem.W.Frag} (h : X.K = K) {l tg : Expr} {tl : TE} (hl : PE X l tl) : PI X tg l (iTup K tl) := by
  subst h
  exact pi_tup hl
def rJoin (K : PySem.W.Frag) : V → List V → Hp → VK → Prop := fun x xs H Q => ∃ a p, ∃ ys : List Str, x = .str a ∧ xs = [.ref p] ∧ (SqL K H p (ys.map V.str) ∨ SqT K H p (ys.map V.str)) ∧ (ys.map (·.length)).sum + ys.length * a.length ≤ 16777216 ∧ Q (.str (Txt.join a ys)) H
theorem pe_joinK {X : Cx} {K : PySem.W.Frag} (h : X.K = K) {o e : Expr} {to te : TE} {apos pos : Pos} (ho : PE X o to) (he : PE X e te) (hs : starEach [e] X.env = [(false, eval e X.env)] := by rfl) (hbase : attributeBase o "join" X.env (eval o X.env) = eval o X.env := by rfl) (hline : (apos.endLine == pos.line) = true := by rfl) :
    PE X (.Call (.Attribute o "join" apos) [e] [] pos) (tM1 (rJoin K) to te) := by
  subst h
  exact pe_join ho he hs hbase hline
/-- a def that may raise, the error's context kept None -/
theorem Fun.okN {P : Program} {w : World} {K : PySem.W.Frag} {mg : Str → Option Value} {base : Heap} {x qual : Str} {st : Stmt} {f : Addr} {fd : FuncData} {N ps : List Str} {k : Nat} {sp : Sp} (F : Fun K x qual st f fd) (S : FnScope N ps (defScope st)) (len : ∀ vs H Q E, sp vs H Q E → vs.length = ps.length)
    (hbody : ∀ (cdv : Value) (A : Around) (outer : List Env) (s : Shared) (H : Hp) (vs : List V) (Q : VK) (E : XK), Room k (A.deeper (envOfC qual (defScope st) s.heap.objs.size f cdv)) → sp vs H Q E → ∃ t, PSs (cxOf (L2N.CX P w) P w K mg base N qual (defScope st) f cdv A outer s H E) (defBody st) t ∧ t { nx := fun _ H' => Q .non H', rt := Q } (start N vs) H) :
    FnOk P w K mg base (L2N.CX P w) (k + 1) f fd ps sp := by
  obtain ⟨oc, od, kV, doc, pm, an, cdv, ct, osl, rfl, lk, hcd⟩ := F.ex
  exact fn_of lk hcd S len fun A outer s H vs Q E hr h => hbody cdv A outer s H vs Q E hr h
theorem wV1 (z : Str) : wV [tl z] = [.str z] := by
  show [V.str (S (tl z))] = _
  rw [SX.S_tl]
theorem until_text (l : Int) : Str.empty ++ Str.ofString "until " ++ Str.ofString (toString l) = S (untilL l) := by
  rw [← intL_text l, show Str.ofString "until " = S [117, 110, 116, 105, 108, 32] from rfl, show Str.empty = S [] from rfl, SX.S_cat, SX.S_cat]
  congr 1
section
variable {P : Program} {w : World} {K : PySem.W.Frag} {mg : Str → Option Value} {base : Heap} {fI fL fR fT fA CI : Addr} {dR dT dA : FuncData}
abbrev nWP : List Str := ["paper", "_", "events", "last", "rounds", "lines", "stands", "stand", "event", "item"]
end
end Wd

set_option Elab.async false
set_option linter.all false
set_option maxRecDepth 100000
set_option maxHeartbeats 4000000
/-! t + u of any tuples; t[::-1] of a tuple. -/
namespace TO
open PySem PySem.Spec PyProof.Rows L2
def rCatE (K : PySem.W.Frag) : R2 := fun x y H Q => ∃ a b xs ys, x = .ref a ∧ y = .ref b ∧ SqT K H a xs ∧ SqT K H b ys ∧ xs.length + ys.length ≤ sizeLine ∧
  (xs = [] → Q (.ref b) H) ∧ (xs ≠ [] → ys = [] → Q (.ref a) H) ∧ (xs ≠ [] → ys ≠ [] → ∀ p, H p = none → Q (.ref p) (upd H p (.tup (xs ++ ys))))
theorem op_catE {X : Cx} : OpR X (binaryOp .Add) (rCatE X.K) := by
  intro pins s σ H x y v u Q I rx ry h
  obtain ⟨a, b, xs, ys, ex, ey, ha, hb, hz, q0, q1, q2⟩ := h
  by_cases hx : xs = []
  · subst ex ey
    cases rx
    cases ry
    obtain ⟨its, r1, p1, _⟩ := I.tuple ha
    obtain ⟨its2, r2, p2, _⟩ := I.tuple hb
    obtain ⟨⟨c1, d1, t1, l1⟩, ho, hc, n, hd⟩ := id p1
    obtain ⟨⟨c2, d2, t2, l2⟩, ho2, hc2, n2, hd2⟩ := id p2
    simp only at hc hd hc2 hd2
    subst hc hd hc2 hd2
    exact concat_meets ⟨_, ho, rfl⟩ ⟨_, ho2, rfl⟩ noFill_tuple_add seq_tuple_add PySem.F.slot_tuple_add PySem.F.entry_tuple_add (PySem.F.args_tuple_add_2 _ _)
      (tuple_addW0 a b its.toArray its2.toArray n n2 d1 d2 l1 l2 (by simpa using r1.nil_iff.mpr hx)) ⟨ho, ho2, ⟨.ref b, H, I, rfl, q0 hx⟩⟩
  · exact op_catT pins s σ H x y v u Q I rx ry ⟨a, b, xs, ys, ex, ey, ha, hb, hx, hz, q1 hx, q2 hx⟩
section
variable {prog : Program} {w : World} {A : Around} {E : Value → Shared → Prop} {s : Shared}
theorem applied_rev {sl : Addr} {vs : Value} {n : Nat} {Q : Int × Int × Nat → Shared → Prop} (hs : s.heap.IsSliceOf sl .none .none vs) (pk : IsPart vs (some (-1))) (h : Q ((n : Int) - 1, -1, n) s) :
    wpAny (model prog w) A (Builtin.Slice.sliceApplied (.ref sl) (pure (n : Int))) Q E s := by
  obtain ⟨os, hos, hcs, hds⟩ := id hs
  unfold Builtin.Slice.sliceApplied Builtin.Slice.sliceFields
  refine wpAny_bind (wpAny_bind (wpAny_field hos hds (x := .none) rfl (wpAny_bind (wpAny_field hos hds (x := .none) rfl (wpAny_bind (wpAny_field hos hds (x := vs) rfl (wpAny_pure ?_)))))))
  refine wpAny_bind (HT.slicePart_ pk ?_)
  show wpAny _ _ (if ((-1 : Int) == 0) = true then _ else _) _ _ s
  rw [if_neg (by decide)]
  refine wpAny_bind (HT.slicePart_ .none (wpAny_bind (HT.slicePart_ .none (wpAny_bind (wpAny_pure ?_)))))
  show wpAny _ _ (pure ((n : Int) - 1, (-1 : Int), Builtin.Slice.slicePlaces ((n : Int) - 1) (-1) (-1))) _ _ s
  have e : Builtin.Slice.slicePlaces ((n : Int) - 1) (-1) (-1) = n := by
    unfold Builtin.Slice.slicePlaces
    rw [if_neg (by decide)]
    by_cases c : (n : Int) - 1 > -1
    · rw [if_pos c]
      simp
    · rw [if_neg c]
      omega
  rw [e]
  exact wpAny_pure h
theorem fm_congr {α β : Type} {f g : α → Option β} : ∀ {l : List α}, (∀ x ∈ l, f x = g x) → l.filterMap f = l.filterMap g
  | [], _ => rfl
  | x :: r, h => by
    rw [List.filterMap_cons, List.filterMap_cons, h x List.mem_cons_self, fm_congr fun y hy => h y (List.mem_cons_of_mem _ hy)]
theorem pick_rev (xs : Array Value) : ((List.range xs.size).filterMap fun (k : Nat) => xs[((xs.size : Int) - 1 + (k : Int) * (-1)).toNat]?).toArray = xs.toList.reverse.toArray := by
  refine congrArg List.toArray ?_
  refine List.ext_getElem? fun i => ?_
  have all : ((List.range xs.size).filterMap fun (k : Nat) => xs[((xs.size : Int) - 1 + (k : Int) * (-1)).toNat]?) = (List.range xs.size).map fun k => xs.toList.getD (xs.size - 1 - k) Value.none := by
    rw [← List.filterMap_eq_map]
    refine fm_congr fun k hk => ?_
    have hk' : k < xs.size := List.mem_range.mp hk
    have e : ((xs.size : Int) - 1 + (k : Int) * (-1)).toNat = xs.size - 1 - k := by omega
    rw [e]
    have l : xs.size - 1 - k < xs.size := by omega
    simp [List.getD_eq_getElem?_getD, l]
  rw [all, List.getElem?_map]
  by_cases h : i < xs.size
  · rw [List.getElem?_range h, List.getElem?_reverse (by simpa using h)]
    have l : xs.size - 1 - i < xs.size := by omega
    simp [List.getD_eq_getElem?_getD, l]
  · rw [List.getElem?_eq_none (by simpa using h), List.getElem?_eq_none (by simpa using h)]
    rfl
theorem getItem_rev {t sl : Addr} {items : Array Value} {vs : Value} {Q : Value → Shared → Prop} (ht : IsTup s.heap t items) (hs : s.heap.IsSliceOf sl .none .none vs) (pk : IsPart vs (some (-1)))
    (h : Q (.ref s.heap.objs.size) { s with heap := s.heap.push { cls := .type "tuple", data := .seq items.toList.reverse.toArray } }) (hsz : items.size ≤ sizeLine) : wpAny (model prog w) A (getItem (.ref t) (.ref sl)) Q E s := by
  have fits : sizeOk (.seq items.toList.reverse.toArray) := by
    show items.toList.reverse.toArray.size ≤ sizeLine
    rw [List.size_toArray, List.length_reverse, Array.length_toList]
    exact hsz
  obtain ⟨os, hos, hcs, hds⟩ := id hs
  have kind : s.TypeIs (.ref sl) "slice" := ⟨os, hos, hcs⟩
  unfold getItem
  try with_reducible refine wpAny_holding ?_
  first | refine wpAny_bind (wpAny_pure ?_) | skip
  refine wpAny_bind (wpAny_sequenceKey ht.typeIs (by decide) (wpAny_bind (wpAny_callSpecial?_slot (name := Str.ofString "__getitem__") ht.typeIs PyProof.Rows.slot_tuple_getitem
    (wpAny_call_entry PyProof.Rows.slot_tuple_getitem ht.typeIs entry_tuple_getitem ?_ (args_tuple_getitem _ _)))))
  show wpAny _ _ (Builtin.Tuple.tupleItemsOf (.ref t) >>= _) _ _ s
  refine wpAny_bind (tupleItemsOf_ ht (wpAny_bind (wpAny_typeOf kind ?_)))
  rw [if_pos (by decide)]
  refine wpAny_bind (applied_rev hs pk ?_)
  show wpAny _ _ (if ((items.size : Int) - 1 == 0 && (-1 : Int) == 1 && items.size == items.size) = true then _ else _) _ _ s
  rw [if_neg (by simp), pick_rev]
  first
    | exact wpAny_bind (m := Builtin.Tuple.tupleExact _) (wpAny_newObj_type (wpAny_pure ⟨_, rfl, wpAny_pure h⟩) fits)
    | exact wpAny_bind (m := Builtin.Tuple.tupleExact _) (wpAny_newObj_type (wpAny_bind (wpAny_pure (wpAny_pure ⟨_, rfl, wpAny_pure h⟩))) fits)
    | exact wpAny_bind (wpAny_bind (m := Builtin.Tuple.tupleExact _) (wpAny_newObj_type (wpAny_pure (wpAny_pure ⟨_, rfl, wpAny_pure h⟩)) fits))
    | exact wpAny_bind (wpAny_bind (m := Builtin.Tuple.tupleExact _) (wpAny_newObj_type (wpAny_pure ⟨_, rfl, wpAny_pure h⟩) fits))
end
/-- t[::-1] -/
def tRevT (K : PySem.W.Frag) (te : TE) : TE := fun σ H Q => te σ H fun x H1 => ∃ a xs, x = .ref a ∧ SqT K H1 a xs ∧ ∀ p, H1 p = none → Q (.ref p) (upd H1 p (.tup xs.reverse))
theorem pe_revT {X : Cx} {e : Expr} {te : TE} {k : Nat} {p1 p2 p3 pos : Pos} (he : PE X e te) : PE X (.Subscript e (.Slice none none (some (.UnaryOp .USub (.Constant (.int 1) k p1) p2)) p3) pos) (tRevT X.K te) := by
  refine ⟨fun pins s σ H Q I h => Subscript_ (thn (he.run pins s σ H _ I h) fun v s1 ⟨x, H1, I1, r1, q1⟩ => ?_)⟩
  obtain ⟨a, xs, ex, hx, q⟩ := q1
  subst ex
  cases r1
  have last : PO X (some (.UnaryOp .USub (.Constant (.int 1) k p1) p2)) (tPart (tUn (rU fun i => .int (-i)) (tC (.int 1)))) := po_some (pe_un un_neg pe_int)
  refine wpAny_Slice (thn (po_none.run pins s1 σ H1 (fun o H2 => o = none ∧ H2 = H1) I1 ⟨rfl, rfl⟩) fun vl s2 ⟨l, H2, I2, pl, el, e2⟩ => ?_)
  subst el
  subst e2
  refine thn (po_none.run pins s2 σ H2 (fun o H3 => o = none ∧ H3 = H2) I2 ⟨rfl, rfl⟩) fun vu s3 ⟨u, H3, I3, pu, eu, e3⟩ => ?_
  subst eu
  subst e3
  refine thn (last.run pins s3 σ H3 (fun o H4 => o = some (-1) ∧ H4 = H3) I3 ⟨1, rfl, -1, rfl, rfl, rfl⟩) fun vs s4 ⟨o, H4, I4, ps, eo, e4⟩ => ?_
  subst eo
  subst e4
  cases pl
  cases pu
  have I5 : Inv X pins σ H4 { s4 with heap := s4.heap.push { cls := .type "slice", data := .fields #[.none, .none, vs] } } := I4.kept (t' := s4.toks) fun b ob q => Heap.get?_push_of_some _ q
  obtain ⟨its, r, ht, hz⟩ := I5.tuple hx
  have hlen := r.length
  show wpAny (model X.prog X.w) X.A (subscriptTail e (.Slice none none (some (.UnaryOp .USub (.Constant (.int 1) k p1) p2)) p3) (.ref a) (.ref s4.heap.objs.size)) (EP X pins σ Q) X.xe { s4 with heap := s4.heap.push { cls := .type "slice", data := .fields #[.none, .none, vs] } }
  refine tail_any (ops := [.ref a, .ref s4.heap.objs.size]) ht.typeIs PyProof.Rows.slot_tuple_getitem.lookup ?_ (by with_unfolding_all rfl)
  refine getItem_rev ht (Heap.IsSliceOf.new _ .none .none vs) ps ?_ (by rw [List.size_toArray]; omega)
  refine ⟨.ref _, _, I5.laid (t' := s4.toks) (o := .tup xs.reverse) (fun b ob q => Heap.get?_push_of_some _ q) (Nat.le_refl _) ?_, rfl, q _ (I5.hok.fresh (Nat.le_refl _))⟩
  exact ⟨by rw [List.length_reverse]; exact hz, _, r.reverse, IsTup.new _ _⟩
end TO

set_option Elab.async false
set_option linter.all false
set_option maxRecDepth 100000
set_option maxHeartbeats 4000000
set_option pp.maxSteps 400
set_option pp.deepTerms false
namespace Wd
open PySem L2
/-! ### ascending signs -/
def sgn (c : Nat) : Str := ⟨#[c]⟩
theorem sgn_inj {c d : Nat} (h : sgn c = sgn d) : c = d := sign_inj (congrArg V.str h)
theorem letV_sgn (cs : List Nat) : letV cs = (cs.map sgn).map V.str := by
  rw [List.map_map]
  rfl
theorem sgns_inj : ∀ {cs ds : List Nat}, cs.map sgn = ds.map sgn → cs = ds
  | [], [], _ => rfl
  | [], _ :: _, h => nomatch h
  | _ :: _, [], h => nomatch h
  | c :: cs, d :: ds, h => by
    rw [sgn_inj (List.cons.inj h).1, sgns_inj (List.cons.inj h).2]
theorem sgns_of {cs : List Nat} : ∀ {ys : List Str}, (∀ y ∈ ys, y ∈ cs.map sgn) → ∃ ds : List Nat, ys = ds.map sgn
  | [], _ => ⟨[], rfl⟩
  | y :: r, h => by
    obtain ⟨c, _, e⟩ := List.mem_map.mp (h y List.mem_cons_self)
    obtain ⟨ds, e'⟩ := sgns_of fun z hz => h z (List.mem_cons_of_mem _ hz)
    exact ⟨c :: ds, by rw [e', ← e]; rfl⟩
theorem rising_le : ∀ {d : Nat} {ds : List Nat}, PyProof.Rows.risingS (sgn d) (ds.map sgn) = true → (d :: ds).Pairwise (· ≤ ·)
  | d, [], _ => List.pairwise_singleton _ _
  | d, x :: r, h => by
    have h' : (!PySem.Spec.ltCps [x] [d] && PyProof.Rows.risingS (sgn x) (r.map sgn)) = true := h
    rw [Bool.and_eq_true] at h'
    have ih := rising_le h'.2
    have le : d ≤ x := by
      have q : (!(decide (x < d) || ((x == d) && false))) = true := h'.1
      simp at q
      exact q
    refine List.pairwise_cons.mpr ⟨fun y hy => ?_, ih⟩
    rcases List.mem_cons.mp hy with e | e
    · exact e ▸ le
    · exact Nat.le_trans le ((List.pairwise_cons.mp ih).1 y e)
theorem sorted_le : ∀ {ds : List Nat}, PyProof.Rows.sortedS (ds.map sgn) = true → ds.Pairwise (· ≤ ·)
  | [], _ => List.Pairwise.nil
  | d :: r, h => rising_le h
theorem strict_of : ∀ {ds : List Nat}, ds.Pairwise (· ≤ ·) → ds.Nodup → ds.Pairwise (· < ·)
  | [], _, _ => List.Pairwise.nil
  | d :: r, h, n => by
    rw [List.pairwise_cons] at h
    rw [List.nodup_cons] at n
    refine List.pairwise_cons.mpr ⟨fun y hy => ?_, strict_of h.2 n.2⟩
    have := h.1 y hy
    have : d ≠ y := fun e => n.1 (e ▸ hy)
    omega
end Wd

set_option Elab.async false
set_option linter.all false
set_option maxRecDepth 100000
set_option maxHeartbeats 4000000
namespace Wd
open PySem L2
/-! ### numbers -/
theorem op_powB {X : Cx} : OpR X (binaryOp .Pow) (rI (fun i j => 0 ≤ j ∧ (Builtin.Int.intBits i : Int) * j ≤ 2 ^ 27) fun i j => .int (i ^ j.toNat)) :=
  opI fun _ _ _ _ _ _ _ hc q => PyProof.Rows.pow_int hc.1 hc.2 q
abbrev ten61 : Int := 10 ^ 61
theorem ten61_pos : (0 : Int) < ten61 := by decide +kernel
theorem ten61_log : ten61.natAbs.log2 < 9000 := by decide +kernel
theorem great_pos : (0 : Int) < (10 ^ (60 : Int).toNat) ^ (10 : Int).toNat := by decide +kernel
theorem great_bits : (Builtin.Int.intBits (10 ^ (60 : Int).toNat) : Int) * 10 ≤ 2 ^ 27 := by decide +kernel
theorem log_of {t : Int} (h0 : 0 < t) (h : t ≤ ten61) : t.natAbs.log2 < 9000 := by
  have e : t.natAbs ≤ ten61.natAbs := by omega
  have z : t.natAbs ≠ 0 := by omega
  refine Nat.lt_of_le_of_lt ?_ ten61_log
  exact (Nat.le_log2 (by decide +kernel)).mpr (Nat.le_trans (Nat.log2_self_le z) e)
theorem modA (i : Int) : -(2 ^ 64) < i % 2305843009213693951 ∧ i % 2305843009213693951 < 2 ^ 64 := by omega
theorem modB (i : Int) : -(2 ^ 64) < i % 2305843009213693921 ∧ i % 2305843009213693921 < 2 ^ 64 := by omega
/-! ### the bag -/
/-- all but the object at B is as it was -/
def SB (B : Addr) (H H' : Hp) : Prop := ∀ b o, b ≠ B → H b = some o → H' b = some o
def BagAt (H : Hp) (B : Addr) : Prop := ∃ x y z : Int, H B = some (.lst [.int x, .int y, .int z])
theorem SB.refl (B : Addr) (H : Hp) : SB B H H := fun _ _ _ h => h
theorem SB.trans {B : Addr} {H H1 H2 : Hp} (a : SB B H H1) (b : SB B H1 H2) : SB B H H2 := fun c o n h => b c o n (a c o n h)
theorem SB.upd {B : Addr} {H H1 : Hp} {o : HO} (a : SB B H H1) : SB B H (upd H1 B o) := fun c u n h => by
  rw [upd_ne n]
  exact a c u n h
theorem SB.new {B p : Addr} {H H1 : Hp} {o : HO} (a : SB B H H1) (hp : H1 p = none) : SB B H (L2.upd H1 p o) := fun c u n h => by
  have z := a c u n h
  rw [upd_ne (ne_of_none z hp)]
  exact z
theorem SB.of {B : Addr} {H H' : Hp} (a : Same H H') : SB B H H' := fun b o _ h => a b o h
/-- the object p, new since H, is changed -/
theorem SB.own {B p : Addr} {H H1 : Hp} {o : HO} (a : SB B H H1) (hp : H p = none) : SB B H (L2.upd H1 p o) := fun c u n h => by
  rw [upd_ne (ne_of_none h hp)]
  exact a c u n h
theorem BagAt.new {B p : Addr} {H : Hp} {o : HO} (a : BagAt H B) (hp : H p = none) : BagAt (upd H p o) B := by
  obtain ⟨x, y, z, h⟩ := a
  exact ⟨x, y, z, by rw [upd_ne (ne_of_none h hp)]; exact h⟩
theorem BagAt.other {B p : Addr} {H : Hp} {o : HO} (a : BagAt H B) (hp : B ≠ p) : BagAt (upd H p o) B := by
  obtain ⟨x, y, z, h⟩ := a
  exact ⟨x, y, z, by rw [upd_ne hp]; exact h⟩
theorem BagAt.nn {B : Addr} {H : Hp} (a : BagAt H B) : H B ≠ none := by
  obtain ⟨x, y, z, h⟩ := a
  rw [h]
  exact fun q => nomatch q
theorem BagAt.ne {B p : Addr} {H : Hp} (a : BagAt H B) (hp : H p = none) : p ≠ B := fun e => a.nn (by rw [← e]; exact hp)
/-! ### promises -/
def spStart (K : PySem.W.Frag) : Sp := fun vs H Q _ => ∃ (a : Addr) (ns : List Int), ∃ at_ : Nat, vs = [.ref a, .int (at_ : Int)] ∧ SqL K H a (ns.map V.int) ∧
  ∀ H' B, Same H H' → H B = none → BagAt H' B → Q (.ref B) H'
def spThrow : Sp := fun vs H Q _ => ∃ (B : Addr) (t : Int), vs = [.ref B, .int t] ∧ BagAt H B ∧ 0 < t ∧ t ≤ ten61 ∧
  ∀ r H', 0 ≤ r → r < t → SB B H H' → BagAt H' B → Q (.int r) H'
def spPickS : Sp := fun vs H Q _ => ∃ (B : Addr) (z : Str), vs = [.ref B, .str z] ∧ BagAt H B ∧ 0 < z.length ∧ z.length ≤ 100 ∧
  ∀ c H', c ∈ z.cps.toList → SB B H H' → BagAt H' B → Q (.str ⟨#[c]⟩) H'
def spPickL : Sp := fun vs H Q _ => ∃ (B L : Addr) (ys : List V), vs = [.ref B, .ref L] ∧ BagAt H B ∧ B ≠ L ∧ H L = some (.lst ys) ∧ 0 < ys.length ∧ ys.length ≤ 100 ∧
  ∀ y H', y ∈ ys → SB B H H' → BagAt H' B → Q y H'
def spValue : Sp := fun vs H Q _ => ∃ B : Addr, vs = [.ref B] ∧ BagAt H B ∧ ∀ i H', -ten60 < i → i < ten60 → SB B H H' → BagAt H' B → Q (.int i) H'
structure TxtA (mg : Str → Option Value) (fT : Addr) : Prop where
  len : mg "len" = none
  int : mg "int" = none
  abs : mg "abs" = none
  max : mg "max" = none
  thr : mg "_law_throw" = some (.ref fT)
section
variable {P : Program} {w : World} {K : PySem.W.Frag} {mg : Str → Option Value} {base : Heap} {fT : Addr}
theorem scStart : FnScope ["script", "at", "cell", "great", "mixed"] ["script", "at"] (defScope sStart) := ⟨rfl, rfl, rfl, by decide +kernel, rfl, by decide +kernel, by decide +kernel⟩
theorem ok_start {f : Addr} {fd : FuncData} (F : Fun K "_law_start" "_law_start" sStart f fd) (T : TxtA mg fT) : FnOk P w K mg base CX0 1 f fd ["script", "at"] (spStart K) := by
  refine F.ok scStart (fun vs H Q E h => ?_) (fun cdv A outer s H vs Q E hr h => ?_)
  · obtain ⟨a, ns, at_, rfl, _⟩ := h
    rfl
  · obtain ⟨a, ns, at_, rfl, hS, k⟩ := h
    refine ⟨_, pss_cons (ps_set (i := 2) scStart.nd rfl (Or.inl rfl) (pe_ifExp (pt_cmpR op_lt (pv 1) (pe_callB call_len_seq (by rfl) T.len PySem.boot_len (pa_cons (pv 0) pa_nil)) (nomark _))
        (pe_ix ix_list (pv 0) (pv 1) (fun _ _ => rfl)) (pe_op op_add (pe_op op_mul pe_int (pv 1)) pe_int)))
      (pss_cons (ps_set (i := 3) scStart.nd rfl (Or.inl rfl) (pe_op op_mod (pe_callTy call_int1 (by rfl) T.int (by decide +kernel) (pa_cons (pe_callB call_abs (by rfl) T.abs (by decide +kernel) (pa_cons (pv 2) pa_nil)) pa_nil))
        (pe_op op_powB (pe_op op_pow pe_int pe_int) pe_int)))
      (pss_cons (ps_set (i := 4) scStart.nd rfl (Or.inl rfl) (pe_op op_add (pe_op op_mul (pe_op op_mod (pe_callTy call_int1 (by rfl) T.int (by decide +kernel) (pa_cons (pv 3) pa_nil)) pe_int) pe_int)
        (pe_callTy call_int1 (by rfl) T.int (by decide +kernel) (pa_cons (pe_cmpR op_lt (pv 2) pe_int (nomark _)) pa_nil))))
      (pss_one (ps_ret (pe_lst (pa_cons (pe_callB (call_max2 rfl) (by rfl) T.max (by decide +kernel) (pa_cons pe_int (pa_cons (pe_op op_sub (pv 3) (pe_op op_pow pe_int pe_int)) pa_nil)))
        (pa_cons (pe_op op_mod (pe_callTy call_int1 (by rfl) T.int (by decide +kernel) (pa_cons (pe_op op_add (pe_op op_add (pe_op op_mul (pv 4) pe_int) (pe_op op_mul pe_int (pv 1))) pe_int) pa_nil)) pe_int)
        (pa_cons pe_int pa_nil)))))))), ?_⟩
    refine ⟨_, rfl, _, rfl, a, _, rfl, .inl hS, _, _, rfl, rfl, _, rfl, ?_⟩
    refine ite2 (fun c => ?_) (fun _ => ?_)
    · obtain ⟨n0, hn⟩ : ∃ n0 : Int, (ns.map V.int)[at_]? = some (V.int n0) := by
        have c' := of_decide_eq_true c
        have c2 : at_ < (ns.map V.int).length := by omega
        rw [List.length_map] at c2
        exact ⟨ns[at_], by rw [List.getElem?_map, List.getElem?_eq_getElem c2]; rfl⟩
      refine ⟨_, rfl, _, rfl, a, _, _, _, rfl, rfl, hS, atI_nat (j := at_) hn, ?_⟩
      refine ⟨_, rfl, _, rfl, .inl ⟨_, rfl, _, _, rfl, rfl, ⟨by decide, by decide, by decide⟩, _, _, rfl, rfl, ⟨by decide, great_bits⟩, _, _, rfl, rfl, great_pos, ?_⟩⟩
      refine ⟨_, rfl, .inl ⟨_, rfl, _, _, rfl, rfl, (by show (0 : Int) < _; decide), _, _, rfl, rfl, .inr ⟨by decide, by decide⟩, _, rfl, _, _, rfl, rfl, .inr ⟨_, rfl, _, _, rfl, rfl, ?_⟩⟩⟩
      refine ⟨_, rfl, _, _, rfl, rfl, ⟨by decide, by decide, by decide⟩, _, _, rfl, rfl, _, _, rfl, _, rfl, _, _, rfl, rfl, .inr ⟨by decide, by decide⟩, _, rfl, _, _, rfl, rfl, .inl ⟨by decide, by decide⟩, _, _, rfl, rfl, _, _, rfl, rfl,
        .inl ⟨_, rfl, _, _, rfl, rfl, (by show (0 : Int) < _; decide), (by show 3 ≤ sizeLine; decide), fun l hl => ?_⟩⟩
      exact k _ l (fun b o e => by rw [upd_ne (ne_of_none e hl)]; exact e) hl ⟨_, _, _, upd_same⟩
    · refine ⟨_, rfl, _, _, rfl, rfl, .inl ⟨by decide, by decide⟩, _, _, rfl, rfl, ?_⟩
      refine ⟨_, rfl, _, rfl, .inl ⟨_, rfl, _, _, rfl, rfl, ⟨by decide, by decide, by decide⟩, _, _, rfl, rfl, ⟨by decide, great_bits⟩, _, _, rfl, rfl, great_pos, ?_⟩⟩
      refine ⟨_, rfl, .inl ⟨_, rfl, _, _, rfl, rfl, (by show (0 : Int) < _; decide), _, _, rfl, rfl, .inr ⟨by decide, by decide⟩, _, rfl, _, _, rfl, rfl, .inr ⟨_, rfl, _, _, rfl, rfl, ?_⟩⟩⟩
      refine ⟨_, rfl, _, _, rfl, rfl, ⟨by decide, by decide, by decide⟩, _, _, rfl, rfl, _, _, rfl, _, rfl, _, _, rfl, rfl, .inr ⟨by decide, by decide⟩, _, rfl, _, _, rfl, rfl, .inl ⟨by decide, by decide⟩, _, _, rfl, rfl, _, _, rfl, rfl,
        .inl ⟨_, rfl, _, _, rfl, rfl, (by show (0 : Int) < _; decide), (by show 3 ≤ sizeLine; decide), fun l hl => ?_⟩⟩
      exact k _ l (fun b o e => by rw [upd_ne (ne_of_none e hl)]; exact e) hl ⟨_, _, _, upd_same⟩
theorem scThrow : FnScope ["bag", "total", "found", "one", "two", "three"] ["bag", "total"] (defScope sThrow) := ⟨rfl, rfl, rfl, by decide +kernel, rfl, by decide +kernel, by decide +kernel⟩
theorem ok_throw {f : Addr} {fd : FuncData} (F : Fun K "_law_throw" "_law_throw" sThrow f fd) (T : TxtA mg fT) : FnOk P w K mg base CX0 1 f fd ["bag", "total"] spThrow := by
  refine F.ok scThrow (fun vs H Q E h => ?_) (fun cdv A outer s H vs Q E hr h => ?_)
  · obtain ⟨B, t, rfl, _⟩ := h
    rfl
  · obtain ⟨B, t, rfl, ⟨x, y, z, hB⟩, h0, ht, k⟩ := h
    refine ⟨_, pss_cons (ps_if (pt_cmpR op_gt (pe_ix ix_list (pv 0) pe_int (fun _ _ => rfl)) pe_int (nomark _))
        (pss_cons (ps_set (i := 2) scThrow.nd rfl (Or.inl rfl) (pe_op op_mod (pe_callTy call_int1 (by rfl) T.int (by decide +kernel) (pa_cons (pe_ix ix_list (pv 0) pe_int (fun _ _ => rfl)) pa_nil)) (pv 1)))
        (pss_cons (ps_asg (pe_op op_fdivW (pe_ix ix_list (pv 0) pe_int (fun _ _ => rfl)) (pv 1)) (pg_sub (pv 0) pe_int set_list))
        (pss_one (ps_ret (pv 2))))) pss_nil)
      (pss_cons (ps_asg (pe_op op_add (pe_ix ix_list (pv 0) pe_int (fun _ _ => rfl)) pe_int) (pg_sub (pv 0) pe_int set_list))
      (pss_cons (ps_set (i := 3) scThrow.nd rfl (Or.inl rfl) (pe_op op_mod (pe_callTy call_int1 (by rfl) T.int (by decide +kernel) (pa_cons (pe_op op_add (pe_ix ix_list (pv 0) pe_int (fun _ _ => rfl)) (pe_op op_mul pe_int (pe_ix ix_list (pv 0) pe_int (fun _ _ => rfl)))) pa_nil)) pe_int))
      (pss_cons (ps_set (i := 4) scThrow.nd rfl (Or.inl rfl) (pe_op op_mod (pe_callTy call_int1 (by rfl) T.int (by decide +kernel) (pa_cons (pe_op op_add (pe_op op_mul (pv 3) (pv 3)) (pe_op op_mul pe_int (pe_ix ix_list (pv 0) pe_int (fun _ _ => rfl)))) pa_nil)) pe_int))
      (pss_cons (ps_set (i := 5) scThrow.nd rfl (Or.inl rfl) (pe_op op_mod (pe_callTy call_int1 (by rfl) T.int (by decide +kernel) (pa_cons (pe_op op_add (pe_op op_mul (pv 4) (pv 3)) pe_int) pa_nil)) pe_int))
      (pss_one (ps_ret (pe_op op_mod (pe_callTy call_int1 (by rfl) T.int (by decide +kernel) (pa_cons (pe_op op_fdiv (pv 5) pe_int) pa_nil)) (pv 1)))))))), ?_⟩
    refine ⟨_, rfl, B, _, _, _, rfl, rfl, SqL.of hB, atI_nat (j := 0) rfl, _, _, rfl, rfl, _, rfl, ?_⟩
    refine ite2 (fun c => ?_) (fun _ => ?_)
    · refine ⟨_, rfl, B, _, _, _, rfl, rfl, SqL.of hB, atI_nat (j := 0) rfl, .inl ⟨_, rfl, _, rfl, _, _, rfl, rfl, h0, ?_⟩⟩
      refine ⟨_, rfl, B, _, _, _, rfl, rfl, SqL.of hB, atI_nat (j := 0) rfl, _, rfl, _, _, rfl, rfl, ⟨h0, log_of h0 ht⟩, _, rfl, B, _, _, 0, rfl, rfl, hB, rfl, ?_⟩
      refine ⟨_, rfl, ?_⟩
      exact k _ _ (Int.emod_nonneg _ (by omega)) (Int.emod_lt_of_pos _ h0) (SB.refl _ _).upd ⟨_, _, _, upd_same⟩
    · refine ⟨_, rfl, B, _, _, _, rfl, rfl, SqL.of hB, atI_nat (j := 2) rfl, _, _, rfl, rfl, _, rfl, B, _, _, 2, rfl, rfl, hB, rfl, ?_⟩
      refine ⟨_, rfl, B, _, _, _, rfl, rfl, SqL.of upd_same, atI_nat (j := 1) rfl, _, rfl, B, _, _, _, rfl, rfl, SqL.of upd_same, atI_nat (j := 2) rfl, _, _, rfl, rfl, .inl ⟨by decide, by decide⟩, _, _, rfl, rfl,
        .inl ⟨_, rfl, _, _, rfl, rfl, (by show (0 : Int) < _; decide), ?_⟩⟩
      refine ⟨_, rfl, _, rfl, _, _, rfl, rfl, .inl (modA _), _, rfl, B, _, _, _, rfl, rfl, SqL.of upd_same, atI_nat (j := 2) rfl, _, _, rfl, rfl, .inl ⟨by decide, by decide⟩, _, _, rfl, rfl,
        .inl ⟨_, rfl, _, _, rfl, rfl, (by show (0 : Int) < _; decide), ?_⟩⟩
      refine ⟨_, rfl, _, rfl, _, _, rfl, rfl, .inl (modB _), _, _, rfl, rfl, .inl ⟨_, rfl, _, _, rfl, rfl, (by show (0 : Int) < _; decide), ?_⟩⟩
      refine ⟨_, rfl, _, _, rfl, rfl, ⟨by decide, by decide⟩, .inl ⟨_, rfl, _, rfl, _, _, rfl, rfl, h0, ?_⟩⟩
      exact k _ _ (Int.emod_nonneg _ (by omega)) (Int.emod_lt_of_pos _ h0) (SB.refl _ _).upd ⟨_, _, _, upd_same⟩
theorem t60 : (100 : Int) < ten60 := by decide +kernel
theorem scPick : FnScope ["bag", "items"] ["bag", "items"] (defScope sPick) := ⟨rfl, rfl, rfl, by decide +kernel, rfl, by decide +kernel, by decide +kernel⟩
theorem ok_pickS {f : Addr} {fd fdT : FuncData} (F : Fun K "_law_pick" "_law_pick" sPick f fd) (T : TxtA mg fT) (FT : Fun K "_law_throw" "_law_throw" sThrow fT fdT) (bT : Binds K fdT ["bag", "total"] []) :
    FnOk P w K mg base CX0 2 f fd ["bag", "items"] spPickS := by
  have G : FnOk P w K mg base CX0 1 fT fdT ["bag", "total"] spThrow := ok_throw FT T
  refine F.ok scPick (fun vs H Q E h => ?_) (fun cdv A outer s H vs Q E hr h => ?_)
  · obtain ⟨B, z, rfl, _⟩ := h
    rfl
  · obtain ⟨B, z, rfl, hB, h0, h1, k⟩ := h
    have hz : z.length ≤ sizeLine := Nat.le_of_lt (small4 (by omega))
    refine ⟨_, pss_one (ps_ret (pe_ix ix_str (pv 1) (pe_call G hr rfl T.thr FT.kp bT .nil pass0 (pa_cons (pv 0) (pa_cons (pe_callB call_len_str (by rfl) T.len PySem.boot_len (pa_cons (pv 1) pa_nil)) pa_nil))) (fun _ _ => rfl))), ?_⟩
    refine ⟨_, rfl, _, rfl, _, rfl, z, rfl, hz, B, _, rfl, hB, by omega, ?_, fun r H' r0 r1 sb hB' => ?_⟩
    · exact Int.le_trans (by omega : (z.length : Int) ≤ 100) (by decide +kernel)
    · have hlt : r.toNat < z.cps.toList.length := by
        have e : z.cps.toList.length = z.length := by simp [Str.length]
        omega
      refine ⟨z, r, _, rfl, rfl, hz, ?_, k (z.cps.toList[r.toNat]'hlt) H' (List.getElem_mem hlt) sb hB'⟩
      exact at_nn r0 (by simp [hlt])
theorem ok_pickL {f : Addr} {fd fdT : FuncData} (F : Fun K "_law_pick" "_law_pick" sPick f fd) (T : TxtA mg fT) (FT : Fun K "_law_throw" "_law_throw" sThrow fT fdT) (bT : Binds K fdT ["bag", "total"] []) :
    FnOk P w K mg base CX0 2 f fd ["bag", "items"] spPickL := by
  have G : FnOk P w K mg base CX0 1 fT fdT ["bag", "total"] spThrow := ok_throw FT T
  refine F.ok scPick (fun vs H Q E h => ?_) (fun cdv A outer s H vs Q E hr h => ?_)
  · obtain ⟨B, L, ys, rfl, _⟩ := h
    rfl
  · obtain ⟨B, L, ys, rfl, hB, nBL, hL, h0, h1, k⟩ := h
    refine ⟨_, pss_one (ps_ret (pe_ix ix_list (pv 1) (pe_call G hr rfl T.thr FT.kp bT .nil pass0 (pa_cons (pv 0) (pa_cons (pe_callB call_len_seq (by rfl) T.len PySem.boot_len (pa_cons (pv 1) pa_nil)) pa_nil))) (fun _ _ => rfl))), ?_⟩
    refine ⟨_, rfl, _, rfl, _, rfl, L, _, rfl, .inl (SqL.of hL), B, _, rfl, hB, by omega, ?_, fun r H' r0 r1 sb hB' => ?_⟩
    · exact Int.le_trans (by omega : (ys.length : Int) ≤ 100) (by decide +kernel)
    · have hlt : r.toNat < ys.length := by omega
      refine ⟨L, _, r, _, rfl, rfl, SqL.of (sb _ _ nBL.symm hL), ?_, k (ys[r.toNat]'hlt) H' (List.getElem_mem _) sb hB'⟩
      exact at_nn r0 (by simp [hlt])
def spPickT (K : PySem.W.Frag) : Sp := fun vs H Q _ => ∃ (B L : Addr) (ys : List V), vs = [.ref B, .ref L] ∧ BagAt H B ∧ (∀ H', SB B H H' → SqT K H' L ys) ∧ 0 < ys.length ∧ ys.length ≤ 100 ∧
  ∀ y H', y ∈ ys → SB B H H' → BagAt H' B → Q y H'
theorem ok_pickT {f : Addr} {fd fdT : FuncData} (F : Fun K "_law_pick" "_law_pick" sPick f fd) (T : TxtA mg fT) (FT : Fun K "_law_throw" "_law_throw" sThrow fT fdT) (bT : Binds K fdT ["bag", "total"] []) :
    FnOk P w K mg base CX0 2 f fd ["bag", "items"] (spPickT K) := by
  have G : FnOk P w K mg base CX0 1 fT fdT ["bag", "total"] spThrow := ok_throw FT T
  refine F.ok scPick (fun vs H Q E h => ?_) (fun cdv A outer s H vs Q E hr h => ?_)
  · obtain ⟨B, L, ys, rfl, _⟩ := h
    rfl
  · obtain ⟨B, L, ys, rfl, hB, hL, h0, h1, k⟩ := h
    refine ⟨_, pss_one (ps_ret (pe_ix (r := rIxT K) ix_tup (pv 1) (pe_call G hr rfl T.thr FT.kp bT .nil pass0 (pa_cons (pv 0) (pa_cons (pe_callB call_len_seq (by rfl) T.len PySem.boot_len (pa_cons (pv 1) pa_nil)) pa_nil))) (fun _ _ => rfl))), ?_⟩
    refine ⟨_, rfl, _, rfl, _, rfl, L, _, rfl, .inr (hL H (SB.refl _ _)), B, _, rfl, hB, by omega, ?_, fun r H' r0 r1 sb hB' => ?_⟩
    · exact Int.le_trans (by omega : (ys.length : Int) ≤ 100) (by decide +kernel)
    · have hlt : r.toNat < ys.length := by omega
      refine ⟨L, _, r, _, rfl, rfl, hL H' sb, ?_, k (ys[r.toNat]'hlt) H' (List.getElem_mem _) sb hB'⟩
      exact at_nn r0 (by simp [hlt])
theorem scValue : FnScope ["bag", "way"] ["bag"] (defScope sValue) := ⟨rfl, rfl, rfl, by decide +kernel, rfl, by decide +kernel, by decide +kernel⟩
theorem ok_value {f : Addr} {fd fdT : FuncData} (F : Fun K "_law_value" "_law_value" sValue f fd) (T : TxtA mg fT) (FT : Fun K "_law_throw" "_law_throw" sThrow fT fdT) (bT : Binds K fdT ["bag", "total"] []) :
    FnOk P w K mg base CX0 2 f fd ["bag"] spValue := by
  have G : FnOk P w K mg base CX0 1 fT fdT ["bag", "total"] spThrow := ok_throw FT T
  refine F.ok scValue (fun vs H Q E h => ?_) (fun cdv A outer s H vs Q E hr h => ?_)
  · obtain ⟨B, rfl, _⟩ := h
    rfl
  · obtain ⟨B, rfl, hB, k⟩ := h
    refine ⟨_, pss_cons (ps_set (i := 1) scValue.nd rfl (Or.inl rfl) (pe_call G hr rfl T.thr FT.kp bT .nil pass0 (pa_cons (pv 0) (pa_cons pe_int pa_nil))))
      (pss_cons (ps_if (pt_cmpR op_lt (pv 1) pe_int (nomark _)) (pss_one (ps_ret (pe_call G hr rfl T.thr FT.kp bT .nil pass0 (pa_cons (pv 0) (pa_cons pe_int pa_nil))))) pss_nil)
      (pss_cons (ps_if (pt_cmpR op_eq (pv 1) pe_int (nomark _)) (pss_one (ps_ret (pe_op op_sub (pe_un un_neg pe_int) (pe_call G hr rfl T.thr FT.kp bT .nil pass0 (pa_cons (pv 0) (pa_cons pe_int pa_nil)))))) pss_nil)
      (pss_one (ps_ret (pe_op op_mul (pe_call G hr rfl T.thr FT.kp bT .nil pass0 (pa_cons (pv 0) (pa_cons (pe_op op_pow pe_int pe_int) pa_nil))) (pe_op op_sub pe_int (pe_op op_mul pe_int (pv 1)))))))), ?_⟩
    have t6 := t60
    refine ⟨_, rfl, B, _, rfl, hB, by decide, by decide +kernel, fun r H1 r0 r1 s1 b1 => ?_⟩
    refine ⟨_, rfl, _, _, rfl, rfl, _, rfl, ?_⟩
    refine ite2 (fun _ => ?_) (fun c1 => ?_)
    · exact ⟨_, rfl, B, _, rfl, b1, by decide, by decide +kernel, fun q H2 q0 q1 s2 b2 => k _ _ (by omega) (by omega) (s1.trans s2) b2⟩
    · have c1' : ¬ r < 5 := fun h => c1 (decide_eq_true h)
      refine ⟨_, rfl, rfl, _, rfl, ?_⟩
      refine ite2 (fun _ => ?_) (fun c2 => ?_)
      · exact ⟨_, rfl, _, rfl, B, _, rfl, b1, by decide, by decide +kernel, fun q H2 q0 q1 s2 b2 => ⟨_, _, rfl, rfl, k _ _ (by omega) (by omega) (s1.trans s2) b2⟩⟩
      · have c2' : r ≠ 5 := fun h => c2 (decide_eq_true (by rw [h]))
        refine ⟨_, rfl, _, _, rfl, rfl, ⟨by decide, by decide, by decide⟩, B, _, rfl, b1, by decide +kernel, by decide +kernel, fun q H2 q0 q1 s2 b2 => ?_⟩
        have q1' : q < ten60 := q1
        have r67 : 13 - 2 * r = 1 ∨ 13 - 2 * r = -1 := by omega
        refine ⟨_, rfl, _, _, rfl, rfl, .inl ⟨by decide, by decide⟩, _, _, rfl, rfl, _, _, rfl, rfl, .inr ⟨by omega, by omega⟩, k _ _ ?_ ?_ (s1.trans s2) b2⟩ <;>
        · show _ < _
          rcases r67 with e | e <;> rw [e] <;> omega
end
end Wd

set_option Elab.async false
set_option linter.all false
set_option maxRecDepth 100000
set_option maxHeartbeats 4000000
namespace Wd
open PySem L2 PyProof.Rows
/-- list(text) -/
theorem call_listS {X : Cx} (hc : X.calm = true) : CallR X (.type "list") (fun xs H Q => ∃ z : Str, xs = [.str z] ∧ z.length ≤ sizeLine ∧ ∀ l, H l = none → Q (.ref l) (upd H l (.lst (letV z.cps.toList)))) := by
  intro pins s σ H vs us Q I r h
  obtain ⟨z, rfl, hz, q⟩ := h
  cases r with
  | @cons _ u _ ur ru rr =>
    cases rr
    obtain ⟨t, rfl⟩ := ru
    have hn : H s.heap.objs.size = none := I.hok.fresh (Nat.le_refl _)
    refine call_list_str (prog := X.prog) (w := X.w) (I.ok.hd hc) z t (fun h' tk acc c kp at_ items => ?_) hz
    have ss : Vals (letV z.cps.toList) acc.toList := by
      rw [letV_sgn]
      refine vals_of_strs (strs_at (by simp [items.1]) fun j v e => ?_)
      obtain ⟨a, u, e1, e2⟩ := items.2 j v (by rw [← Array.getElem?_toList]; exact e)
      exact ⟨sgn a, u, by rw [List.getElem?_map, Array.getElem?_toList, e1]; rfl, e2⟩
    have len : (letV z.cps.toList).length ≤ sizeLine := by
      rw [letV, List.length_map, Array.length_toList]
      exact hz
    exact ⟨.ref s.heap.objs.size, upd H s.heap.objs.size (.lst (letV z.cps.toList)), I.laid (t' := tk) kp (Nat.le_refl _) (show ObjOk X.prog X.w _ _ _ (.lst (letV z.cps.toList)) from ⟨len, acc.toList, c, ss, at_⟩), rfl, q _ hn⟩
end Wd

set_option Elab.async false
set_option linter.all false
set_option maxRecDepth 100000
set_option maxHeartbeats 4000000
namespace Wd
open PySem L2
def spLetter : Sp := fun vs H Q _ => ∃ B : Addr, vs = [.ref B] ∧ BagAt H B ∧ ∀ c H', low c → SB B H H' → BagAt H' B → Q (.str (sgn c)) H'
def spLetters : Sp := fun vs H Q _ => ∃ (B : Addr) (most : Int), vs = [.ref B, .int most] ∧ BagAt H B ∧ 1 ≤ most ∧ most ≤ 5 ∧
  ∀ (t : Addr) (ds : List Nat) H', 1 ≤ ds.length → ds.length ≤ 26 → (∀ c ∈ ds, low c) → t ≠ B → H' t = some (.tup (letV ds)) → SB B H H' → BagAt H' B → Q (.ref t) H'
structure GTxt (mg : Str → Option Value) (fT fP : Addr) : Prop extends TxtA mg fT where
  pick : mg "_law_pick" = some (.ref fP)
  range : mg "range" = none
  sorted : mg "sorted" = none
  list : mg "list" = none
  tuple : mg "tuple" = none
theorem pe_popAt {X : Cx} {K : PySem.W.Frag} {o e : Expr} {es : List Expr} {to : TE} {t : TA} {apos cpos : Pos} (hK : X.K = K) (ho : PE X o to) (ha : PA X (e :: es) t)
    (hbase : attributeBase o "pop" X.env (eval o X.env) = eval o X.env := by rfl)
    (hfew : ((backTo cpos (starEach (e :: es) X.env)).all (fun x => !x.1) && (backToKw cpos (keywordEach [] X.env)).all (fun x => x.1.isSome) && decide ((e :: es).length + ([] : List Keyword).length + (if ([] : List Keyword).isEmpty then 0 else 1) < 30)) = true := by rfl)
    (hline : (apos.endLine == cpos.line) = true := by rfl) (he : starEach (e :: es) X.env = (false, eval e X.env) :: starEach es X.env := by rfl)
    (hpl : (backTo cpos (starEach es X.env)).any (·.1) = false := by rfl) : PE X (.Call (.Attribute o "pop" apos) (e :: es) [] cpos) (tBM K "list" rPopAt to t) := by
  subst hK
  exact pe_bm PySem.F.plainAttrs_list PySem.F.slot_list_pop PySem.F.type_list_pop mt_popAt ho ha hbase hfew hline he hpl
def rLenG (K : PySem.W.Frag) : List V → Hp → VK → Prop := fun xs H Q => ∃ p ys, xs = [.ref p] ∧ (SqL K H p ys ∨ SqT K H p ys) ∧ Q (.int ys.length) H
theorem call_lenG {X : Cx} : CallR X (.builtin "len") (rLenG X.K) := call_len_seq
theorem letV_erase : ∀ (cs : List Nat) (k : Nat), (letV cs).eraseIdx k = letV (cs.eraseIdx k)
  | [], _ => rfl
  | _ :: _, 0 => rfl
  | c :: r, k + 1 => congrArg (V.str ⟨#[c]⟩ :: ·) (letV_erase r k)
theorem ab_low : ∀ c ∈ (Str.ofString "ab").cps.toList, low c := by unfold low; decide +kernel
theorem abc_low : ∀ c ∈ (Str.ofString "abc").cps.toList, low c := by unfold low; decide +kernel
theorem st_low : ∀ c ∈ (Str.ofString "st").cps.toList, low c := by unfold low; decide +kernel
theorem abcd_low : ∀ c ∈ (Str.ofString "abcd").cps.toList, low c := by unfold low; decide +kernel
theorem alpha_low : ∀ c ∈ (Str.ofString "abcdefghijklmnopqrstuvwxyz").cps.toList, low c := fun c h => (alpha_mem c).mp h
section
variable {P : Program} {w : World} {K : PySem.W.Frag} {mg : Str → Option Value} {base : Heap} {fT fP : Addr}
abbrev nLetters : List Str := ["bag", "most", "signs", "size", "turn"]
theorem scLetters : FnScope nLetters ["bag", "most"] (defScope sLetters) := ⟨rfl, rfl, rfl, by decide +kernel, rfl, by decide +kernel, by decide +kernel⟩
theorem ok_letters {f : Addr} {fd fdT : FuncData} (F : Fun K "_law_letters" "_law_letters" sLetters f fd) (X : GTxt mg fT fP) (FT : Fun K "_law_throw" "_law_throw" sThrow fT fdT) (bT : Binds K fdT ["bag", "total"] []) :
    FnOk P w K mg base CX0 2 f fd ["bag", "most"] spLetters := by
  have GT : FnOk P w K mg base CX0 1 fT fdT ["bag", "total"] spThrow := ok_throw FT X.toTxtA
  refine F.ok scLetters (fun vs H Q E h => ?_) (fun cdv A outer s H vs Q E hr h => ?_)
  · obtain ⟨B, most, rfl, _⟩ := h
    rfl
  · obtain ⟨B, most, rfl, hB, m1, m5, k⟩ := h
    refine ⟨_, pss_cons (ps_set (i := 2) scLetters.nd rfl (Or.inr rfl) (pe_callTy (call_listS rfl) (by rfl) X.list (by decide +kernel) (pa_cons pe_str pa_nil)))
      (pss_cons (ps_if (PW.pt (pw_and (pt_cmpR op_le (pv 1) pe_int (nomark _)) (pw_and1 (pt_cmpR op_gt (pe_call GT hr rfl X.thr FT.kp bT .nil pass0 (pa_cons (pv 0) (pa_cons pe_int pa_nil))) pe_int (nomark _)))))
        (pss_one (ps_set (i := 2) scLetters.nd rfl (Or.inr rfl) (pe_callTy (call_listS rfl) (by rfl) X.list (by decide +kernel) (pa_cons pe_str pa_nil)))) pss_nil)
      (pss_cons (ps_set (i := 3) scLetters.nd rfl (Or.inl rfl) (pe_op op_add pe_int (pe_call GT hr rfl X.thr FT.kp bT .nil pass0 (pa_cons (pv 0) (pa_cons (pv 1) pa_nil)))))
      (pss_one (ps_ret (pe_callTy call_tuple_of (by rfl) X.tuple (by decide +kernel) (pa_cons (pe_callB cr_sortedS (by rfl) X.sorted (by decide +kernel) (pa_cons (pe_lc (own := [("turn", 4)]) (g := gName 4) (tt := tYes) rfl scLetters.nd
          (pi_range1 rfl X.range (pa_cons (pv 3) pa_nil)) (blkOk_by (N := nLetters) (sc := defScope sLetters) (by decide +kernel)) (fun _ _ _ _ _ => pg_name (i := 4) scLetters.nd rfl (Or.inl rfl)) (fun _ _ _ _ _ => pts_nil)
          (fun _ _ _ _ _ => pe_popAt (K := K) rfl (pv 2)
            (pa_cons (pe_call GT hr rfl X.thr FT.kp bT .nil pass0 (pa_cons (pv 0) (pa_cons (pe_callB (r := rLenG K) call_lenG (by rfl) X.len PySem.boot_len (pa_cons (pv 2) pa_nil)) pa_nil))) pa_nil))) pa_nil)) pa_nil)))))), ?_⟩
    refine ⟨_, rfl, by decide, fun L0 hL0 => ?_⟩
    have c26 : (Str.ofString "abcdefghijklmnopqrstuvwxyz").cps.toList.length = 26 := by decide +kernel
    have c4 : (Str.ofString "abcd").cps.toList.length = 4 := by decide +kernel
    have b0 := hB.new (o := .lst (letV (Str.ofString "abcdefghijklmnopqrstuvwxyz").cps.toList)) hL0
    have sb0 := (SB.refl B H).new (o := .lst (letV (Str.ofString "abcdefghijklmnopqrstuvwxyz").cps.toList)) hL0
    have e0 : (upd H L0 (.lst (letV (Str.ofString "abcdefghijklmnopqrstuvwxyz").cps.toList))) L0 = some (.lst (letV (Str.ofString "abcdefghijklmnopqrstuvwxyz").cps.toList)) := upd_same
    have n0 : L0 ≠ B := hB.ne hL0
    generalize upd H L0 (.lst (letV (Str.ofString "abcdefghijklmnopqrstuvwxyz").cps.toList)) = H0 at b0 sb0 e0
    refine ⟨_, rfl, _, _, rfl, rfl, _, rfl, ?_⟩
    refine ite2 (fun g => ?_) (fun g => ?_)
    · have g' : most ≤ 4 := of_decide_eq_true g
      refine ⟨_, rfl, B, 3, rfl, b0, by decide, by decide +kernel, fun r H1 _ _ s1 b1 => ⟨_, _, rfl, rfl, _, rfl, ?_⟩⟩
      refine ite2 (fun _ => ?_) (fun _ => ?_)
      · refine ⟨_, rfl, by decide, fun L hL => ?_⟩
        have sb1 := (sb0.trans s1).new (o := .lst (letV (Str.ofString "abcd").cps.toList)) hL
        have hLn : H L = none := by
          cases e : H L with
          | none => rfl
          | some o => exact absurd ((sb0.trans s1) _ _ (b1.ne hL) e) (by rw [hL]; exact fun q => nomatch q)
        have hL1 : (upd H1 L (.lst (letV (Str.ofString "abcd").cps.toList))) L = some (.lst (letV (Str.ofString "abcd").cps.toList)) := upd_same
        have nLB : L ≠ B := b1.ne hL
        have b1 := b1.new (o := .lst (letV (Str.ofString "abcd").cps.toList)) hL
        have hlow := abcd_low
        have hc : most ≤ (Str.ofString "abcd").cps.toList.length := by omega
        have hc6 : (Str.ofString "abcd").cps.toList.length ≤ 26 := by omega
        generalize (Str.ofString "abcd").cps.toList = cs at sb1 hL1 b1 hlow hc hc6
        generalize upd H1 L (.lst (letV cs)) = H1 at sb1 hL1 b1
        refine ⟨_, rfl, _, rfl, B, most, rfl, b1, by omega, Int.le_trans (by omega : most ≤ 5) (by decide +kernel), fun r H2 r0 r1 s2 b2 => ?_⟩
        refine ⟨_, _, rfl, rfl, _, rfl, _, rfl, by omega, by omega, fun D hD => ?_⟩
        have hL2 : H2 L = some (.lst (letV cs)) := s2 _ _ nLB hL1
        have nLD : L ≠ D := ne_of_none hL2 hD
        have nDB : D ≠ B := b2.ne hD
        have hDn : H D = none := by
          cases e : H D with
          | none => rfl
          | some o => exact absurd ((sb1.trans s2) _ _ nDB e) (by rw [hD]; exact fun q => nomatch q)
        refine lc_range (lo := 0) (n := (1 + r).toNat) (fun i H' => SB B H H' ∧ BagAt H' B ∧ (∃ cs' : List Nat, H' L = some (.lst (letV cs')) ∧ cs'.length + i = cs.length ∧ ∀ c ∈ cs', low c) ∧ ∃ ds : List Nat, ds.length = i ∧ (∀ c ∈ ds, low c) ∧ H' D = some (.lst (letV ds)))
          ⟨(sb1.trans s2).new hD, b2.new hD, ⟨cs, (upd_ne nLD).trans hL2, rfl, hlow⟩, [], rfl, by simp, upd_same⟩ ?_ ?_
        · rintro i H' hi ⟨sb, bg, ⟨cs', hL', lc, low'⟩, ds, ld, lowd, hD'⟩
          have l1 : (letV cs').length = cs'.length := List.length_map _
          refine ⟨rfl, _, rfl, .inl ⟨rfl, _, SqL.of hL'⟩, _, rfl, _, rfl, L, _, rfl, .inl (SqL.of hL'), B, _, rfl, bg, by omega, ?_, fun q H3 q0 q1 s3 b3 => ?_⟩
          · exact Int.le_trans (by omega : ((letV cs').length : Int) ≤ 26) (by decide +kernel)
          · have hq : q.toNat < cs'.length := by omega
            have ix : ixN (letV cs').length q = some q.toNat := by
              unfold ixN
              rw [if_pos q0, if_pos q1]
            have hL3 := s3 _ _ nLB hL'
            have hD3 := s3 _ _ nDB hD'
            refine ⟨L, _, q, q.toNat, .str (sgn cs'[q.toNat]), rfl, rfl, hL3, by omega, by omega, (ixN_seq ix).1, by simp [letV, hq, sgn], _, (upd_ne nLD.symm).trans hD3, ?_, ?_⟩
            · rw [letV, List.length_map, ld]
              exact small4 (by omega)
            · have er := letV_erase cs' q.toNat
              refine ⟨((sb.trans s3).own hLn).own hDn, ?_, ⟨cs'.eraseIdx q.toNat, ?_, ?_, fun c hc => low' c (List.mem_of_mem_eraseIdx hc)⟩, ds ++ [cs'[q.toNat]], by simp [ld], fun c hc => ?_, ?_⟩
              · exact (b3.other (Ne.symm nLB)).other (Ne.symm nDB)
              · rw [upd_ne nLD, upd_same, er]
              · rw [List.length_eraseIdx_of_lt hq]
                omega
              · rcases List.mem_append.mp hc with z | z
                · exact lowd c z
                · rw [List.mem_singleton.mp z]
                  exact low' _ (List.getElem_mem hq)
              · rw [upd_same, letV, letV, List.map_append]
                rfl
        · rintro H3 ⟨sb, bg, _, ds, ld, lowd, hD3⟩
          have hD4 : H3 D = some (.lst ((ds.map sgn).map V.str)) := by rw [← letV_sgn]; exact hD3
          have l2 : (ds.map sgn).length = ds.length := List.length_map _
          refine ⟨D, ds.map sgn, rfl, SqL.of hD4, by omega, fun ys p pm srt hp => ⟨p, _, rfl, .inl ⟨SqL.of upd_same, fun t ht => ?_⟩⟩⟩
          obtain ⟨es, rfl⟩ := sgns_of (cs := ds) fun y hy => pm.mem_iff.mp hy
          have l3 : es.length = ds.length := by
            have := pm.length_eq
            rw [List.length_map, List.length_map] at this
            exact this
          refine k t es _ (by omega) (by omega) (fun c hc => ?_) ((bg.new hp).ne ht) (upd_same.trans (by rw [letV_sgn])) ((sb.new hp).new ht) ((bg.new hp).new ht)
          obtain ⟨d, hd, e⟩ := List.mem_map.mp (pm.mem_iff.mp (List.mem_map.mpr ⟨c, hc, rfl⟩))
          exact sgn_inj e ▸ lowd d hd
      · have sb1 := sb0.trans s1
        have nLB := n0
        have hLn := hL0
        have hL1 := s1 _ _ n0 e0
        have hlow := alpha_low
        have hc : most ≤ (Str.ofString "abcdefghijklmnopqrstuvwxyz").cps.toList.length := by omega
        have hc6 : (Str.ofString "abcdefghijklmnopqrstuvwxyz").cps.toList.length ≤ 26 := by omega
        generalize (Str.ofString "abcdefghijklmnopqrstuvwxyz").cps.toList = cs at hL1 hlow hc hc6
        generalize L0 = L at hLn hL1 nLB
        refine ⟨_, rfl, _, rfl, B, most, rfl, b1, by omega, Int.le_trans (by omega : most ≤ 5) (by decide +kernel), fun r H2 r0 r1 s2 b2 => ?_⟩
        refine ⟨_, _, rfl, rfl, _, rfl, _, rfl, by omega, by omega, fun D hD => ?_⟩
        have hL2 : H2 L = some (.lst (letV cs)) := s2 _ _ nLB hL1
        have nLD : L ≠ D := ne_of_none hL2 hD
        have nDB : D ≠ B := b2.ne hD
        have hDn : H D = none := by
          cases e : H D with
          | none => rfl
          | some o => exact absurd ((sb1.trans s2) _ _ nDB e) (by rw [hD]; exact fun q => nomatch q)
        refine lc_range (lo := 0) (n := (1 + r).toNat) (fun i H' => SB B H H' ∧ BagAt H' B ∧ (∃ cs' : List Nat, H' L = some (.lst (letV cs')) ∧ cs'.length + i = cs.length ∧ ∀ c ∈ cs', low c) ∧ ∃ ds : List Nat, ds.length = i ∧ (∀ c ∈ ds, low c) ∧ H' D = some (.lst (letV ds)))
          ⟨(sb1.trans s2).new hD, b2.new hD, ⟨cs, (upd_ne nLD).trans hL2, rfl, hlow⟩, [], rfl, by simp, upd_same⟩ ?_ ?_
        · rintro i H' hi ⟨sb, bg, ⟨cs', hL', lc, low'⟩, ds, ld, lowd, hD'⟩
          have l1 : (letV cs').length = cs'.length := List.length_map _
          refine ⟨rfl, _, rfl, .inl ⟨rfl, _, SqL.of hL'⟩, _, rfl, _, rfl, L, _, rfl, .inl (SqL.of hL'), B, _, rfl, bg, by omega, ?_, fun q H3 q0 q1 s3 b3 => ?_⟩
          · exact Int.le_trans (by omega : ((letV cs').length : Int) ≤ 26) (by decide +kernel)
          · have hq : q.toNat < cs'.length := by omega
            have ix : ixN (letV cs').length q = some q.toNat := by
              unfold ixN
              rw [if_pos q0, if_pos q1]
            have hL3 := s3 _ _ nLB hL'
            have hD3 := s3 _ _ nDB hD'
            refine ⟨L, _, q, q.toNat, .str (sgn cs'[q.toNat]), rfl, rfl, hL3, by omega, by omega, (ixN_seq ix).1, by simp [letV, hq, sgn], _, (upd_ne nLD.symm).trans hD3, ?_, ?_⟩
            · rw [letV, List.length_map, ld]
              exact small4 (by omega)
            · have er := letV_erase cs' q.toNat
              refine ⟨((sb.trans s3).own hLn).own hDn, ?_, ⟨cs'.eraseIdx q.toNat, ?_, ?_, fun c hc => low' c (List.mem_of_mem_eraseIdx hc)⟩, ds ++ [cs'[q.toNat]], by simp [ld], fun c hc => ?_, ?_⟩
              · exact (b3.other (Ne.symm nLB)).other (Ne.symm nDB)
              · rw [upd_ne nLD, upd_same, er]
              · rw [List.length_eraseIdx_of_lt hq]
                omega
              · rcases List.mem_append.mp hc with z | z
                · exact lowd c z
                · rw [List.mem_singleton.mp z]
                  exact low' _ (List.getElem_mem hq)
              · rw [upd_same, letV, letV, List.map_append]
                rfl
        · rintro H3 ⟨sb, bg, _, ds, ld, lowd, hD3⟩
          have hD4 : H3 D = some (.lst ((ds.map sgn).map V.str)) := by rw [← letV_sgn]; exact hD3
          have l2 : (ds.map sgn).length = ds.length := List.length_map _
          refine ⟨D, ds.map sgn, rfl, SqL.of hD4, by omega, fun ys p pm srt hp => ⟨p, _, rfl, .inl ⟨SqL.of upd_same, fun t ht => ?_⟩⟩⟩
          obtain ⟨es, rfl⟩ := sgns_of (cs := ds) fun y hy => pm.mem_iff.mp hy
          have l3 : es.length = ds.length := by
            have := pm.length_eq
            rw [List.length_map, List.length_map] at this
            exact this
          refine k t es _ (by omega) (by omega) (fun c hc => ?_) ((bg.new hp).ne ht) (upd_same.trans (by rw [letV_sgn])) ((sb.new hp).new ht) ((bg.new hp).new ht)
          obtain ⟨d, hd, e⟩ := List.mem_map.mp (pm.mem_iff.mp (List.mem_map.mpr ⟨c, hc, rfl⟩))
          exact sgn_inj e ▸ lowd d hd
    · have sb1 := sb0
      have nLB := n0
      have hLn := hL0
      have hL1 := e0
      have hlow := alpha_low
      have b1 := b0
      have hc : most ≤ (Str.ofString "abcdefghijklmnopqrstuvwxyz").cps.toList.length := by omega
      have hc6 : (Str.ofString "abcdefghijklmnopqrstuvwxyz").cps.toList.length ≤ 26 := by omega
      generalize (Str.ofString "abcdefghijklmnopqrstuvwxyz").cps.toList = cs at hL1 hlow hc hc6
      generalize L0 = L at hLn hL1 nLB
      refine ⟨_, rfl, _, rfl, B, most, rfl, b1, by omega, Int.le_trans (by omega : most ≤ 5) (by decide +kernel), fun r H2 r0 r1 s2 b2 => ?_⟩
      refine ⟨_, _, rfl, rfl, _, rfl, _, rfl, by omega, by omega, fun D hD => ?_⟩
      have hL2 : H2 L = some (.lst (letV cs)) := s2 _ _ nLB hL1
      have nLD : L ≠ D := ne_of_none hL2 hD
      have nDB : D ≠ B := b2.ne hD
      have hDn : H D = none := by
        cases e : H D with
        | none => rfl
        | some o => exact absurd ((sb1.trans s2) _ _ nDB e) (by rw [hD]; exact fun q => nomatch q)
      refine lc_range (lo := 0) (n := (1 + r).toNat) (fun i H' => SB B H H' ∧ BagAt H' B ∧ (∃ cs' : List Nat, H' L = some (.lst (letV cs')) ∧ cs'.length + i = cs.length ∧ ∀ c ∈ cs', low c) ∧ ∃ ds : List Nat, ds.length = i ∧ (∀ c ∈ ds, low c) ∧ H' D = some (.lst (letV ds)))
        ⟨(sb1.trans s2).new hD, b2.new hD, ⟨cs, (upd_ne nLD).trans hL2, rfl, hlow⟩, [], rfl, by simp, upd_same⟩ ?_ ?_
      · rintro i H' hi ⟨sb, bg, ⟨cs', hL', lc, low'⟩, ds, ld, lowd, hD'⟩
        have l1 : (letV cs').length = cs'.length := List.length_map _
        refine ⟨rfl, _, rfl, .inl ⟨rfl, _, SqL.of hL'⟩, _, rfl, _, rfl, L, _, rfl, .inl (SqL.of hL'), B, _, rfl, bg, by omega, ?_, fun q H3 q0 q1 s3 b3 => ?_⟩
        · exact Int.le_trans (by omega : ((letV cs').length : Int) ≤ 26) (by decide +kernel)
        · have hq : q.toNat < cs'.length := by omega
          have ix : ixN (letV cs').length q = some q.toNat := by
            unfold ixN
            rw [if_pos q0, if_pos q1]
          have hL3 := s3 _ _ nLB hL'
          have hD3 := s3 _ _ nDB hD'
          refine ⟨L, _, q, q.toNat, .str (sgn cs'[q.toNat]), rfl, rfl, hL3, by omega, by omega, (ixN_seq ix).1, by simp [letV, hq, sgn], _, (upd_ne nLD.symm).trans hD3, ?_, ?_⟩
          · rw [letV, List.length_map, ld]
            exact small4 (by omega)
          · have er := letV_erase cs' q.toNat
            refine ⟨((sb.trans s3).own hLn).own hDn, ?_, ⟨cs'.eraseIdx q.toNat, ?_, ?_, fun c hc => low' c (List.mem_of_mem_eraseIdx hc)⟩, ds ++ [cs'[q.toNat]], by simp [ld], fun c hc => ?_, ?_⟩
            · exact (b3.other (Ne.symm nLB)).other (Ne.symm nDB)
            · rw [upd_ne nLD, upd_same, er]
            · rw [List.length_eraseIdx_of_lt hq]
              omega
            · rcases List.mem_append.mp hc with z | z
              · exact lowd c z
              · rw [List.mem_singleton.mp z]
                exact low' _ (List.getElem_mem hq)
            · rw [upd_same, letV, letV, List.map_append]
              rfl
      · rintro H3 ⟨sb, bg, _, ds, ld, lowd, hD3⟩
        have hD4 : H3 D = some (.lst ((ds.map sgn).map V.str)) := by rw [← letV_sgn]; exact hD3
        have l2 : (ds.map sgn).length = ds.length := List.length_map _
        refine ⟨D, ds.map sgn, rfl, SqL.of hD4, by omega, fun ys p pm srt hp => ⟨p, _, rfl, .inl ⟨SqL.of upd_same, fun t ht => ?_⟩⟩⟩
        obtain ⟨es, rfl⟩ := sgns_of (cs := ds) fun y hy => pm.mem_iff.mp hy
        have l3 : es.length = ds.length := by
          have := pm.length_eq
          rw [List.length_map, List.length_map] at this
          exact this
        refine k t es _ (by omega) (by omega) (fun c hc => ?_) ((bg.new hp).ne ht) (upd_same.trans (by rw [letV_sgn])) ((sb.new hp).new ht) ((bg.new hp).new ht)
        obtain ⟨d, hd, e⟩ := List.mem_map.mp (pm.mem_iff.mp (List.mem_map.mpr ⟨c, hc, rfl⟩))
        exact sgn_inj e ▸ lowd d hd
end
end Wd

set_option Elab.async false
set_option linter.all false
set_option maxRecDepth 100000
set_option maxHeartbeats 4000000
set_option pp.maxSteps 400
set_option pp.deepTerms false
namespace Wd
open PySem L2
theorem inV_words (z : Str) (ws : List Str) : inV (.str z) (ws.map V.str) = true ↔ z ∈ ws := by
  unfold inV
  rw [List.any_eq_true]
  constructor
  · rintro ⟨y, hy, q⟩
    obtain ⟨x, hx, rfl⟩ := List.mem_map.mp hy
    have : (x == z) = true := q
    exact (beq_iff_eq.mp this) ▸ hx
  · exact fun h => ⟨_, List.mem_map.mpr ⟨z, h, rfl⟩, show (z == z) = true from beq_self_eq_true z⟩
theorem flat_strs (ys : List Str) : (ys.map V.str).all flatV = true := by
  rw [List.all_eq_true]
  intro v hv
  obtain ⟨y, _, rfl⟩ := List.mem_map.mp hv
  rfl
def spWords : Sp := fun vs H Q _ => vs = [] ∧ ∀ H' (L : Addr), Same H H' → H L = none → H' L = some (.lst (words.map V.str)) → Q (.ref L) H'
section
variable {P : Program} {w : World} {K : PySem.W.Frag} {mg : Str → Option Value} {base : Heap}
theorem scWords : FnScope ["words"] [] (defScope sWords) := ⟨rfl, rfl, rfl, by decide +kernel, rfl, by decide +kernel, by decide +kernel⟩
theorem ok_words {f : Addr} {fd : FuncData} (F : Fun K "_law_words" "_law_words" sWords f fd) : FnOk P w K mg base CX0 1 f fd [] spWords := by
  refine F.ok scWords (fun vs H Q E h => ?_) (fun cdv A outer s H vs Q E hr h => ?_)
  · obtain ⟨rfl, _⟩ := h
    rfl
  · obtain ⟨rfl, k⟩ := h
    refine ⟨_, pss_cons (ps_set (i := 0) scWords.nd rfl (Or.inl rfl) (pe_lst (pa_cons pe_str (pa_cons pe_str (pa_cons pe_str (pa_cons pe_str (pa_cons pe_str (pa_cons pe_str (pa_cons pe_str (pa_cons pe_str (pa_cons pe_str (pa_cons pe_str (pa_cons pe_str (pa_cons pe_str (pa_cons pe_str pa_nil))))))))))))))) (pss_one (ps_ret (pe_op op_cat (pv 0) (pe_lst (pa_cons pe_str (pa_cons pe_str (pa_cons pe_str (pa_cons pe_str (pa_cons pe_str (pa_cons pe_str (pa_cons pe_str (pa_cons pe_str (pa_cons pe_str (pa_cons pe_str pa_nil)))))))))))))), ?_⟩
    refine ⟨by show 13 ≤ sizeLine; decide, fun l hl => ?_⟩
    refine ⟨_, rfl, by show 10 ≤ sizeLine; decide, fun m hm => ?_⟩
    have hlm : l ≠ m := fun e => by
      rw [e] at hm
      rw [← e, upd_same] at hm
      cases hm
    refine ⟨l, m, _, _, rfl, rfl, (upd_ne hlm).trans upd_same, upd_same, ?_, fun p hp => ?_⟩
    · show 13 + 10 ≤ sizeLine
      decide
    · have hm' : H m = none := by
        rw [upd_ne (Ne.symm hlm)] at hm
        exact hm
      have hpl : p ≠ l := fun z => by
        rw [z, upd_ne hlm, upd_same] at hp
        cases hp
      have hpm : p ≠ m := fun z => by
        rw [z, upd_same] at hp
        cases hp
      have hp' : H p = none := by
        rw [upd_ne hpm, upd_ne hpl] at hp
        exact hp
      refine k _ p (fun b o e => ?_) hp' (upd_same.trans rfl)
      rw [upd_ne (ne_of_none e hp'), upd_ne (ne_of_none e hm'), upd_ne (ne_of_none e hl)]
      exact e
end
end Wd

set_option Elab.async false
set_option linter.all false
set_option maxRecDepth 100000
set_option maxHeartbeats 4000000
namespace Wd
open PySem L2
/-- a short text of letters -/
def LowT (z : Str) : Prop := (1 ≤ z.length ∧ z.length ≤ 8) ∧ ∀ c ∈ z.cps.toList, low c
theorem LowT.ok {z : Str} (h : LowT z) : PyData.strOk z = true := by
  unfold PyData.strOk
  rw [Array.all_eq_true']
  intro c hc
  have := h.2 c (by simpa using hc)
  unfold low at this
  simp
  omega
theorem cps_append (a b : Str) : (a ++ b).cps.toList = a.cps.toList ++ b.cps.toList := by
  show (a.cps ++ b.cps).toList = _
  simp
theorem join_sgn : ∀ ds : List Nat, (Txt.join (Str.ofString "") (ds.map sgn)).cps.toList = ds := by
  intro ds
  rw [show Txt.join (Str.ofString "") (ds.map sgn) = Str.join (Str.ofString "") (ds.map sgn) from StrLaws.glued_eq_join _ _]
  induction ds with
  | nil => rfl
  | cons a r ih =>
    cases r with
    | nil => rfl
    | cons b r =>
      show (sgn a ++ Str.ofString "" ++ Str.join (Str.ofString "") ((b :: r).map sgn)).cps.toList = _
      rw [cps_append, cps_append, ih]
      rfl
theorem len_cps (z : Str) : z.length = z.cps.toList.length := (Array.length_toList (xs := z.cps)).symm
theorem cutS_mem {z : Str} {lo hi : Option Int} {c : Nat} (h : c ∈ (cutS z lo hi).cps.toList) : c ∈ z.cps.toList := by
  have h' : c ∈ (z.cps.toList.drop (HT.sIx z.length 0 lo)).take (HT.sIx z.length z.length hi - HT.sIx z.length 0 lo) := by
    simpa [cutS] using h
  exact List.mem_of_mem_drop (List.mem_of_mem_take h')
theorem LowT.cut {z : Str} (h : ∀ c ∈ z.cps.toList, low c) {c : Nat} (hc : low c) : LowT (cutS z none (some 7) ++ sgn c) := by
  refine ⟨?_, fun d hd => ?_⟩
  · rw [len_cps, cps_append, List.length_append]
    have : (cutS z none (some 7)).cps.toList.length ≤ 7 := by
      have e : (cutS z none (some 7)).cps.toList = (z.cps.toList.drop (HT.sIx z.length 0 none)).take (HT.sIx z.length z.length (some 7) - HT.sIx z.length 0 none) := by simp [cutS]
      rw [e, List.length_take]
      have : HT.sIx z.length z.length (some 7) ≤ 7 := by
        show (HT.sIx z.length z.length (some 7)) ≤ 7
        unfold HT.sIx
        simp
        omega
      omega
    show 1 ≤ _ + 1 ∧ _ + 1 ≤ 8
    omega
  · rw [cps_append] at hd
    rcases List.mem_append.mp hd with q | q
    · exact h d (cutS_mem q)
    · have e : d = c := by simpa [sgn] using q
      exact e ▸ hc
theorem zzz_name : NameS (Str.ofString "zzz") := by
  refine ⟨by decide, by decide, ?_, by decide +kernel⟩
  unfold low
  decide +kernel
theorem sum_ones : ∀ {ys : List Str}, (∀ y ∈ ys, y.length = 1) → (ys.map (·.length)).sum = ys.length
  | [], _ => rfl
  | a :: r, h => by
    rw [List.map_cons, List.sum_cons, List.length_cons, sum_ones (fun y hy => h y (List.mem_cons_of_mem _ hy)), h a (List.mem_cons_self ..)]
    omega
theorem bag_nl {B L : Addr} {H : Hp} {ys : List Str} (b : BagAt H B) (h : H L = some (.lst (ys.map V.str))) : B ≠ L := by
  obtain ⟨x, y, z, hb⟩ := b
  intro e
  rw [← e, hb] at h
  cases ys with
  | nil => cases h
  | cons a r => cases h
def spName : Sp := fun vs H Q _ => ∃ (B L : Addr) (ks : List Str), vs = [.ref B, .ref L] ∧ BagAt H B ∧ H L = some (.lst (ks.map V.str)) ∧ ∀ z H', NameS z → SB B H H' → BagAt H' B → Q (.str z) H'
section
variable {P : Program} {w : World} {K : PySem.W.Frag} {mg : Str → Option Value} {base : Heap} {fT fP fW : Addr}
abbrev nName : List Str := ["bag", "known", "alphabet", "signs", "text", "name", "turn", "sign"]
theorem scName : FnScope nName ["bag", "known"] (defScope sName) := ⟨rfl, rfl, rfl, by decide +kernel, rfl, by decide +kernel, by decide +kernel⟩
theorem ok_name {f : Addr} {fd fdT fdP fdW : FuncData} (F : Fun K "_law_name" "_law_name" sName f fd) (T : GTxt mg fT fP) (wrds : mg "_law_words" = some (.ref fW)) (FT : Fun K "_law_throw" "_law_throw" sThrow fT fdT) (bT : Binds K fdT ["bag", "total"] [])
    (FP : Fun K "_law_pick" "_law_pick" sPick fP fdP) (bP : Binds K fdP ["bag", "items"] []) (FW : Fun K "_law_words" "_law_words" sWords fW fdW) (bW : Binds K fdW [] []) :
    FnOk P w K mg base CX0 3 f fd ["bag", "known"] spName := by
  have GT : FnOk P w K mg base CX0 1 fT fdT ["bag", "total"] spThrow := ok_throw FT T.toTxtA
  have GS : FnOk P w K mg base CX0 2 fP fdP ["bag", "items"] spPickS := ok_pickS FP T.toTxtA FT bT
  have GL : FnOk P w K mg base CX0 2 fP fdP ["bag", "items"] spPickL := ok_pickL FP T.toTxtA FT bT
  have GW : FnOk P w K mg base CX0 1 fW fdW [] spWords := ok_words FW
  refine F.ok scName (fun vs H Q E h => ?_) (fun cdv A outer s H vs Q E hr h => ?_)
  · obtain ⟨B, L, ks, rfl, _⟩ := h
    rfl
  · obtain ⟨B, L, ks, rfl, hB, hL, k⟩ := h
    have hr1 : Room 1 _ := hr.mono (by decide)
    refine ⟨_, pss_cons (ps_set (i := 2) scName.nd rfl (Or.inl rfl) pe_str)
      (pss_cons (ps_set (i := 3) scName.nd rfl (Or.inr rfl) (pe_call GL hr rfl T.pick FP.kp bP .nil pass0 (pa_cons (pv 0) (pa_cons (pe_lst (pa_cons (pv 2) (pa_cons pe_str (pa_cons pe_str pa_nil)))) pa_nil))))
      (pss_cons (ps_set (i := 4) scName.nd rfl (Or.inr rfl) (pe_join pe_str (pe_lc (own := [("turn", 6)]) (g := gName 6) (tt := tYes) rfl scName.nd
          (pi_range1 rfl T.range (pa_cons (pe_op op_add pe_int (pe_call GT hr1 rfl T.thr FT.kp bT .nil pass0 (pa_cons (pv 0) (pa_cons pe_int pa_nil)))) pa_nil))
          (blkOk_by (N := nName) (sc := defScope sName) (by decide +kernel)) (fun _ _ _ _ _ => pg_name (i := 6) scName.nd rfl (Or.inl rfl)) (fun _ _ _ _ _ => pts_nil)
          (fun _ _ _ _ _ => pe_call GS hr rfl T.pick FP.kp bP .nil pass0 (pa_cons (pv 0) (pa_cons (pv 3) pa_nil))))))
      (pss_cons (ps_for PassesOwn.never rfl (pi_list (pe_op op_cat (pe_lst (pa_cons (pv 4) pa_nil)) (pe_lc (own := [("sign", 7)]) (g := gName 7) (tt := tYes) rfl scName.nd (pi_str (pv 2))
          (blkOk_by (N := nName) (sc := defScope sName) (by decide +kernel)) (fun _ _ _ _ _ => pg_name (i := 7) scName.nd rfl (Or.inl rfl)) (fun _ _ _ _ _ => pts_nil)
          (fun _ _ _ _ _ => pe_op op_add_str (pe_slice sl_str (pv 4) po_none (po_some pe_int)) (pv 7))))) (pg_name (i := 5) scName.nd rfl (Or.inl rfl))
        (pss_one (ps_if (PW.pt (pw_and (pt_cmpR op_notIn_seq (pv 5) (pv 1) (by rfl)) (pw_and1 (pt_cmpR op_notIn_seq (pv 5) (pe_call0 GW hr1 rfl wrds FW.kp bW .nil pass0) (by rfl))))) (pss_one (ps_ret (pv 5))) pss_nil)))
      (pss_one (ps_ret pe_str))))), ?_⟩
    refine ⟨_, rfl, _, rfl, by show 3 ≤ sizeLine; decide, fun l hl => ?_⟩
    refine ⟨B, l, [_, _, _], rfl, hB.new hl, (hB.ne hl).symm, upd_same, by decide, by decide, fun y0 H1 hy s1 b1 => ?_⟩
    obtain ⟨y, rfl, hy1, hy2, hy3⟩ : ∃ y : Str, y0 = .str y ∧ 0 < y.length ∧ y.length ≤ 100 ∧ ∀ c ∈ y.cps.toList, low c := by
      simp only [List.mem_cons, List.not_mem_nil, or_false] at hy
      rcases hy with rfl | rfl | rfl
      · exact ⟨_, rfl, by decide, by decide, alpha_low⟩
      · exact ⟨_, rfl, by decide, by decide, ab_low⟩
      · exact ⟨_, rfl, by decide, by decide, st_low⟩
    have s1' : SB B H H1 := fun b o n e => s1 b o n (by rw [upd_ne (ne_of_none e hl)]; exact e)
    refine ⟨⟨_, rfl⟩, _, rfl, B, _, rfl, b1, by decide, by decide +kernel, fun r H2 r0 r1 s2 b2 => ?_⟩
    refine ⟨_, _, rfl, rfl, _, rfl, by omega, by omega, fun D hD => ?_⟩
    refine lc_range (lo := 0) (n := _) (fun i H' => SB B H2 H' ∧ BagAt H' B ∧ ∃ ds : List Nat, ds.length = i ∧ (∀ c ∈ ds, low c) ∧ H' D = some (.lst ((ds.map sgn).map V.str)))
      ⟨(SB.refl B H2).new hD, b2.new hD, [], rfl, (fun z h => by cases h), upd_same⟩ ?_ ?_
    · rintro i H' hi ⟨sb, bg, ds, el, e1, hD'⟩
      refine ⟨rfl, ?_⟩
      refine ⟨_, rfl, _, rfl, B, y, rfl, bg, hy1, hy2, fun c H3 hc s3 b3 => ?_⟩
      have nDB : D ≠ B := (b2.ne hD)
      refine ⟨_, s3 _ _ nDB hD', ?_, ?_⟩
      · rw [List.length_map, List.length_map, el]
        exact small4 (by omega)
      · refine ⟨(sb.trans s3).own hD, b3.other nDB.symm, ds ++ [c], by simp [el], fun z hz => ?_, ?_⟩
        · rcases List.mem_append.mp hz with q | q
          · exact e1 z q
          · rw [List.mem_singleton.mp q]
            exact hy3 c hc
        · rw [upd_same, List.map_append, List.map_append] <;> rfl
    · rintro H3 ⟨s3, b3, ds, el, e1, hD3⟩
      have el9 : 1 ≤ ds.length ∧ ds.length ≤ 8 := by omega
      have one : ∀ z ∈ ds.map sgn, z.length = 1 := fun z hz => by
        obtain ⟨c, _, rfl⟩ := List.mem_map.mp hz
        rfl
      have zl : ((ds.map sgn).map (·.length)).sum + (ds.map sgn).length * (Str.ofString "").length ≤ 16777216 := by
        rw [sum_ones one, List.length_map]
        show ds.length + ds.length * 0 ≤ 16777216
        omega
      refine ⟨_, D, ds.map sgn, rfl, rfl, .inl (SqL.of hD3), zl, ?_⟩
      have tx := join_sgn ds
      have tl : (Txt.join (Str.ofString "") (ds.map sgn)).length = ds.length := by
        rw [len_cps, tx]
      have tlow : ∀ c ∈ (Txt.join (Str.ofString "") (ds.map sgn)).cps.toList, low c := by
        rw [tx]
        exact e1
      generalize ht : Txt.join (Str.ofString "") (ds.map sgn) = text at tl tlow
      have tz : text.length ≤ sizeLine := Nat.le_of_lt (small4 (by omega))
      refine ⟨_, rfl, by show 1 ≤ sizeLine; decide, fun m hm => ?_⟩
      refine ⟨_, rfl, _, rfl, fun D2 hD2 => ?_⟩
      have nm2 : m ≠ D2 := fun e => by
        rw [← e, upd_same] at hD2
        cases hD2
      have hD2' : H3 D2 = none := by
        rw [upd_ne nm2.symm] at hD2
        exact hD2
      refine lc_it walk_str (fun i H' => ∃ zs : List Str, zs.length = i ∧ (∀ z ∈ zs, LowT z) ∧ H' = upd (upd H3 m (.lst [.str text])) D2 (.lst (zs.map V.str))) ⟨[], rfl, (fun z h => by cases h), rfl⟩ (fun _ _ _ _ => trivial) ?_ ?_
      · rintro i x H4 H5 hi ⟨zs, el, zlow, rfl⟩ ⟨rfl, c, hc, rfl⟩
        have hi26 : i < 26 := hi
        have lc : low c := alpha_low c (by
          have := Array.mem_of_getElem? hc
          simpa using this)
        refine ⟨rfl, ?_⟩
        refine ⟨_, rfl, _, rfl, text, rfl, tz, _, rfl, _, _, rfl, rfl, ?_, _, upd_same, ?_, ?_⟩
        · refine Nat.le_trans (Nat.add_le_add_right (cutS_length _ _ _) _) ?_
          exact Nat.le_of_lt (small4 (by show text.length + 1 ≤ 400000; omega))
        · rw [List.length_map, el]
          exact small4 (by omega)
        · refine ⟨zs ++ [cutS text none (some 7) ++ sgn c], by simp [el], fun z hz => ?_, ?_⟩
          · rcases List.mem_append.mp hz with q | q
            · exact zlow z q
            · rw [List.mem_singleton.mp q]
              exact LowT.cut tlow lc
          · rw [upd_upd, List.map_append]
            rfl
      · rintro H4 ⟨zs, el, zlow, rfl⟩
        have elz : zs.length = 26 := el
        refine ⟨m, D2, _, _, rfl, rfl, (upd_ne nm2).trans upd_same, upd_same, ?_, fun p hp => ?_⟩
        · rw [List.length_map, elz]
          show 1 + 26 ≤ sizeLine
          decide
        have npD : p ≠ D2 := fun e => by
          rw [e, upd_same] at hp
          cases hp
        have npm : p ≠ m := fun e => by
          rw [upd_ne npD, e, upd_same] at hp
          cases hp
        have hp3 : H3 p = none := by
          rw [upd_ne npD, upd_ne npm] at hp
          exact hp
        have nBp := b3.ne hp3
        have nL : B ≠ L := bag_nl hB hL
        have sAll : SB B H3 (upd (upd (upd H3 m (.lst [.str text])) D2 (.lst (zs.map V.str))) p (.lst ([V.str text] ++ zs.map V.str))) :=
          (((SB.refl B H3).new hm).new hD2).new hp
        have s3' : SB B H H3 := s1'.trans (s2.trans s3)
        have bAll : BagAt (upd (upd (upd H3 m (.lst [.str text])) D2 (.lst (zs.map V.str))) p (.lst ([V.str text] ++ zs.map V.str))) B :=
          ((b3.new hm).new hD2).new hp
        have all : ∀ z ∈ text :: zs, LowT z := fun z hz => by
          rcases List.mem_cons.mp hz with q | q
          · rw [q]
            exact ⟨by omega, tlow⟩
          · exact zlow z q
        generalize hH : upd (upd (upd H3 m (.lst [.str text])) D2 (.lst (zs.map V.str))) p (.lst ([V.str text] ++ zs.map V.str)) = H9 at sAll bAll
        have hp9 : H9 p = some (.lst ((text :: zs).map V.str)) := by
          rw [← hH, upd_same]
          rfl
        refine ⟨p, rfl, ⟨_, SqL.of hp9⟩, ?_⟩
        refine for_list (K := K) (a := p) (xs := (text :: zs).map V.str) (fun i σ H' => ∃ v : Option V, σ = [some (.ref B), some (.ref L), some (.str _), some (.str y), some (.str text), v, none, none] ∧ SB B H9 H' ∧ BagAt H' B)
          ⟨none, rfl, SB.refl B H9, bAll⟩ (fun i σ H' _ ⟨_, _, sb, _⟩ => SqL.of (sb _ _ nBp hp9)) ?_ ?_
        · rintro i x σ H' hi ⟨v, rfl, sb, bg⟩
          obtain ⟨z, hz, rfl⟩ : ∃ z : Str, z ∈ text :: zs ∧ x = V.str z := by
            obtain ⟨z, hz, e⟩ := List.mem_map.mp (List.mem_of_getElem? hi)
            exact ⟨z, hz, e.symm⟩
          have hL' : H' L = some (.lst (ks.map V.str)) := (s3'.trans (sAll.trans sb)) _ _ nL.symm hL
          refine ⟨_, rfl, _, rfl, L, _, rfl, .inl (SqL.of hL'), rfl, flat_strs _, _, rfl, ?_⟩
          refine ite2 (fun _ => ?_) (fun _ => ?_)
          · refine ⟨_, rfl, rfl, fun H7 l7 same _ hl7 => ⟨l7, _, rfl, .inl (SqL.of hl7), rfl, flat_strs _, _, rfl, ?_⟩⟩
            have bg7 : BagAt H7 B := by
              obtain ⟨a1, a2, a3, q⟩ := bg
              exact ⟨a1, a2, a3, same _ _ q⟩
            refine ite2 (fun c => ?_) (fun _ => ?_)
            · have nw : z ∉ words := fun q => by
                have i1 := (inV_words z words).mpr q
                rw [i1] at c
                exact Bool.noConfusion c
              have az := all z hz
              exact ⟨_, rfl, k _ _ ⟨az.1.1, az.1.2, az.2, nw⟩ (s3'.trans (sAll.trans (sb.trans (SB.of same)))) bg7⟩
            · exact ⟨_, rfl, sb.trans (SB.of same), bg7⟩
          · exact ⟨_, rfl, sb, bg⟩
        · rintro σ H' ⟨v, rfl, sb, bg⟩
          exact k _ _ zzz_name (s3'.trans (sAll.trans sb)) bg
end
end Wd

set_option Elab.async false
set_option linter.all false
set_option maxRecDepth 100000
set_option maxHeartbeats 4000000
namespace Wd
open PySem L2
theorem put_nodup {kvs : List (Key × V)} {k : Key} (v : V) (h : (kvs.map (·.1)).Nodup) : ((putK kvs k v).map (·.1)).Nodup := by
  cases e : valV kvs k with
  | none => exact nd_putK v h e
  | some u =>
    unfold putK
    rw [if_pos (by rw [valV_any, e]; rfl), List.map_map]
    have q : (kvs.map ((·.1) ∘ fun kv => if kv.1 = k then (kv.1, v) else kv)) = kvs.map (·.1) := List.map_congr_left fun p _ => by
      show (if p.1 = k then (p.1, v) else p).1 = p.1
      split <;> rfl
    rw [q]
    exact h
theorem put_mem {kvs : List (Key × V)} {k : Key} {v : V} {p : Key × V} (h : p ∈ putK kvs k v) : p ∈ kvs ∨ p = (k, v) := by
  unfold putK at h
  split at h
  · obtain ⟨q, hq, e⟩ := List.mem_map.mp h
    split at e
    · rename_i c
      exact .inr (by rw [← e, c])
    · exact .inl (e ▸ hq)
  · rcases List.mem_append.mp h with q | q
    · exact .inl q
    · exact .inr (List.mem_singleton.mp q)
theorem put_pos (kvs : List (Key × V)) (k : Key) (v : V) : 1 ≤ (putK kvs k v).length := by
  unfold putK
  split
  · rename_i h
    cases kvs with
    | nil => simp at h
    | cons p r => simp
  · simp
/-- the letters of a source, laid -/
def LetAt (B : Addr) (H : Hp) (v : V) : Prop := ∃ t ds, v = .ref t ∧ t ≠ B ∧ H t = some (.tup (letV ds)) ∧ 1 ≤ ds.length ∧ ds.length ≤ 26 ∧ ∀ c ∈ ds, low c
theorem LetAt.mono {B : Addr} {H H' : Hp} {v : V} (h : LetAt B H v) (s : SB B H H') : LetAt B H' v := by
  obtain ⟨t, ds, e, n, h, r⟩ := h
  exact ⟨t, ds, e, n, s _ _ n h, r⟩
def LayAt (B : Addr) (H : Hp) (d : Addr) (n0 n : Nat) : Prop := ∃ kvs : List (Key × V), H d = some (.dK kvs) ∧ n0 ≤ kvs.length ∧ kvs.length ≤ n ∧ (kvs.map (·.1)).Nodup ∧ ∀ p ∈ kvs, (∃ z, p.1 = Sum.inr z ∧ NameS z) ∧ LetAt B H p.2
def spLayout : Sp := fun vs H Q _ => ∃ (B : Addr) (so le : Int), vs = [.ref B, .int so, .int le] ∧ BagAt H B ∧ 1 ≤ so ∧ so ≤ 5 ∧ 1 ≤ le ∧ le ≤ 5 ∧ ∀ d H', d ≠ B → LayAt B H' d 1 5 → SB B H H' → BagAt H' B → Q (.ref d) H'
theorem keysLow : ∀ {kvs : List (Key × V)}, (∀ p ∈ kvs, ∃ z, p.1 = Sum.inr z ∧ NameS z) → ∃ ks : List Str, kvs.map (·.1) = ks.map Sum.inr ∧ ks.length = kvs.length
  | [], _ => ⟨[], rfl, rfl⟩
  | p :: r, h => by
    obtain ⟨z, e, _⟩ := h p List.mem_cons_self
    obtain ⟨ks, e2, l⟩ := keysLow fun q hq => h q (List.mem_cons_of_mem _ hq)
    exact ⟨z :: ks, by rw [List.map_cons, List.map_cons, e, e2], by rw [List.length_cons, List.length_cons, l]⟩
section
variable {P : Program} {w : World} {K : PySem.W.Frag} {mg : Str → Option Value} {base : Heap} {fT fP fW fN fL : Addr}
abbrev nLayout : List Str := ["bag", "sources", "letters", "found", "turn", "name"]
theorem scLayout : FnScope nLayout ["bag", "sources", "letters"] (defScope sLayout) := ⟨rfl, rfl, rfl, by decide +kernel, rfl, by decide +kernel, by decide +kernel⟩
theorem ok_layout {f : Addr} {fd fdT fdP fdW fdN fdL : FuncData} (F : Fun K "_law_layout" "_law_layout" sLayout f fd) (T : GTxt mg fT fP) (wrds : mg "_law_words" = some (.ref fW)) (mN : mg "_law_name" = some (.ref fN)) (mL : mg "_law_letters" = some (.ref fL))
    (FT : Fun K "_law_throw" "_law_throw" sThrow fT fdT) (bT : Binds K fdT ["bag", "total"] []) (FP : Fun K "_law_pick" "_law_pick" sPick fP fdP) (bP : Binds K fdP ["bag", "items"] []) (FW : Fun K "_law_words" "_law_words" sWords fW fdW) (bW : Binds K fdW [] [])
    (FN : Fun K "_law_name" "_law_name" sName fN fdN) (bN : Binds K fdN ["bag", "known"] []) (FL : Fun K "_law_letters" "_law_letters" sLetters fL fdL) (bL : Binds K fdL ["bag", "most"] []) :
    FnOk P w K mg base CX0 4 f fd ["bag", "sources", "letters"] spLayout := by
  have GT : FnOk P w K mg base CX0 1 fT fdT ["bag", "total"] spThrow := ok_throw FT T.toTxtA
  have GN : FnOk P w K mg base CX0 3 fN fdN ["bag", "known"] spName := ok_name FN T wrds FT bT FP bP FW bW
  have GL : FnOk P w K mg base CX0 2 fL fdL ["bag", "most"] spLetters := ok_letters FL T FT bT
  refine F.ok scLayout (fun vs H Q E h => ?_) (fun cdv A outer s H vs Q E hr h => ?_)
  · obtain ⟨B, so, le, rfl, _⟩ := h
    rfl
  · obtain ⟨B, so, le, rfl, hB, so1, so5, le1, le5, k⟩ := h
    have hr1 : Room 1 _ := hr.mono (by decide)
    have hr2 : Room 2 _ := hr.mono (by decide)
    refine ⟨_, pss_cons (ps_set (i := 3) scLayout.nd rfl (Or.inl rfl) pe_dnewK)
      (pss_cons (ps_for PassesOwn.never rfl (pi_range1 rfl T.range (pa_cons (pe_op op_add pe_int (pe_call GT hr1 rfl T.thr FT.kp bT .nil pass0 (pa_cons (pv 0) (pa_cons (pv 1) pa_nil)))) pa_nil)) (pg_name (i := 4) scLayout.nd rfl (Or.inl rfl))
        (pss_cons (ps_set (i := 5) scLayout.nd rfl (Or.inl rfl) (pe_call GN hr rfl mN FN.kp bN .nil pass0 (pa_cons (pv 0) (pa_cons (pe_callB (call_sortedD rfl) (by rfl) T.sorted (by decide +kernel) (pa_cons (pv 3) pa_nil)) pa_nil))))
        (pss_one (ps_dput (hu_of hr) (pv 3) (pv 5) (pe_call GL hr2 rfl mL FL.kp bL .nil pass0 (pa_cons (pv 0) (pa_cons (pv 2) pa_nil))) rfl))))
      (pss_one (ps_ret (pv 3)))), ?_⟩
    refine fun d hd => ?_
    have nd : d ≠ B := hB.ne hd
    have b0 := hB.new (o := .dK []) hd
    have sb0 := (SB.refl B H).new (o := .dK []) hd
    have e0 : (upd H d (.dK [])) d = some (.dK []) := upd_same
    generalize upd H d (.dK []) = H0 at b0 sb0 e0
    refine ⟨_, rfl, _, rfl, B, so, rfl, b0, by omega, Int.le_trans so5 (by decide +kernel), fun r H1 r0 r1 s1 b1 => ?_⟩
    refine ⟨_, _, rfl, rfl, _, rfl, by omega, by omega, ?_⟩
    refine for_range (lo := 0) (n := (1 + r).toNat) (fun i σ H' => SB B H H' ∧ BagAt H' B ∧ LayAt B H' d (if i = 0 then 0 else 1) i ∧ ∃ v4 v5, σ = [some (.ref B), some (.int so), some (.int le), some (.ref d), v4, v5])
      ⟨sb0.trans s1, b1, ⟨[], s1 _ _ nd e0, Nat.le_refl _, Nat.le_refl _, List.nodup_nil, fun p hp => nomatch hp⟩, _, _, rfl⟩ ?_ ?_
    · rintro i σ H2 hi ⟨sb, bg, ⟨kvs, hk, lk1, lk, ndk, gd⟩, v4, v5, rfl⟩
      obtain ⟨ks, ek, lks⟩ := keysLow fun p hp => (gd p hp).1
      refine ⟨_, rfl, _, rfl, d, kvs, ks, rfl, .inl hk, ek, by omega, fun ys p pm srt hp => ?_⟩
      have sb3 := sb.new (o := .lst (ys.map V.str)) hp
      have b3 := bg.new (o := .lst (ys.map V.str)) hp
      have hk3 : (upd H2 p (.lst (ys.map V.str))) d = some (.dK kvs) := (upd_ne (ne_of_none hk hp)).trans hk
      have gd3 : ∀ q ∈ kvs, LetAt B (upd H2 p (.lst (ys.map V.str))) q.2 := fun q hq => (gd q hq).2.mono ((SB.refl B H2).new hp)
      have ep : (upd H2 p (.lst (ys.map V.str))) p = some (.lst (ys.map V.str)) := upd_same
      generalize upd H2 p (.lst (ys.map V.str)) = H3 at sb3 b3 hk3 gd3 ep
      refine ⟨B, p, ys, rfl, b3, ep, fun z H4 hz s4 b4 => ?_⟩
      refine ⟨_, rfl, _, rfl, B, le, rfl, b4, le1, le5, fun t ds H5 ld1 ld lowd nt et s5 b5 => ?_⟩
      have hk5 := (s4.trans s5) _ _ nd hk3
      refine ⟨_, rfl, _, rfl, d, _, rfl, DPut.k (k := Sum.inr z) hk5 (small4 (by omega)), ?_⟩
      have ntd : t ≠ d := fun q => by
        rw [q, hk5] at et
        cases et
      refine ⟨?_, b5.other (Ne.symm nd), ⟨_, upd_same, by rw [if_neg (by omega)]; exact put_pos _ _ _, ?_, put_nodup _ ndk, fun q hq => ?_⟩, _, _, rfl⟩
      · exact ((sb3.trans s4).trans s5).own hd
      · exact Nat.le_trans (length_putK _ _ _) (by omega)
      · rcases put_mem hq with m | rfl
        · obtain ⟨t', ds', e', n', h', r'⟩ := (gd3 q m).mono (s4.trans s5)
          refine ⟨(gd q m).1, t', ds', e', n', (upd_ne fun z => ?_).trans h', r'⟩
          rw [z, hk5] at h'
          cases h'
        · exact ⟨⟨z, rfl, hz⟩, t, ds, rfl, nt, (upd_ne ntd).trans et, ld1, ld, lowd⟩
    · rintro σ H2 ⟨sb, bg, ⟨kvs, hk, lk1, lk, ndk, gd⟩, v4, v5, rfl⟩
      exact ⟨_, rfl, k d H2 nd ⟨kvs, hk, by rw [if_neg (by omega)] at lk1; exact lk1, by omega, ndk, gd⟩ sb bg⟩
end
end Wd

set_option Elab.async false
set_option linter.all false
set_option maxRecDepth 100000
set_option maxHeartbeats 4000000
set_option pp.maxSteps 400
set_option pp.deepTerms false
namespace Wd
open PySem L2 TL
open SX (S)

open PySem.Spec PyProof.Rows CwR
/-! ### drawn events -/
theorem TK.sb {B : Addr} {H H' : Hp} (b : BagAt H B) (s : SB B H H') : TK H H' := fun a xs e => s _ _ (fun q => by
  obtain ⟨x, y, z, h⟩ := b
  rw [q, h] at e
  cases e) e
def LetO (H : Hp) (v : V) : Prop := ∃ t ds, v = .ref t ∧ H t = some (.tup (letV ds)) ∧ 1 ≤ ds.length ∧ ds.length ≤ 26 ∧ ∀ c ∈ ds, low c
def LayO (H : Hp) (d : Addr) : Prop := ∃ kvs : List (Key × V), H d = some (.dK kvs) ∧ 1 ≤ kvs.length ∧ kvs.length ≤ 5 ∧ (kvs.map (·.1)).Nodup ∧ ∀ p ∈ kvs, (∃ z, p.1 = Sum.inr z ∧ NameS z) ∧ LetO H p.2
theorem LayAt.lay {B d : Addr} {H : Hp} (h : LayAt B H d 1 5) : LayO H d := let ⟨kvs, h1, h2, h3, h4, h5⟩ := h; ⟨kvs, h1, h2, h3, h4, fun p hp => let ⟨a, t, ds, e, _, q, r⟩ := h5 p hp; ⟨a, t, ds, e, q, r⟩⟩
theorem ix_key {kvs : List (Key × V)} {ks : List Str} (ek : kvs.map (·.1) = ks.map Sum.inr) {z : Str} (hz : z ∈ ks) : ∃ v, (Sum.inr z, v) ∈ kvs := by
  have : (Sum.inr z : Key) ∈ kvs.map (·.1) := by
    rw [ek]
    exact List.mem_map.mpr ⟨z, hz, rfl⟩
  obtain ⟨p, hp, e⟩ := List.mem_map.mp this
  exact ⟨p.2, by rw [← e]; exact hp⟩
theorem val_at {kvs : List (Key × V)} {i : Nat} {k : Key} {v : V} (nd : (kvs.map (·.1)).Nodup) (h : kvs[i]? = some (k, v)) : valV kvs k = some v := by
  induction kvs generalizing i with
  | nil => simp at h
  | cons p r ih =>
    rw [List.map_cons, List.nodup_cons] at nd
    cases i with
    | zero =>
      have e : p = (k, v) := by simpa using h
      subst e
      exact valV_pos rfl
    | succ i =>
      have h' : r[i]? = some (k, v) := by simpa using h
      refine (valV_neg fun e => nd.1 ?_).trans (ih nd.2 h')
      rw [e]
      exact List.mem_map.mpr ⟨_, List.mem_of_getElem? h', rfl⟩
theorem val_in {kvs : List (Key × V)} {k : Key} {v : V} (nd : (kvs.map (·.1)).Nodup) (h : (k, v) ∈ kvs) : valV kvs k = some v := by
  obtain ⟨i, hi⟩ := List.getElem?_of_mem h
  exact val_at nd hi
theorem SB.none {B D : Addr} {H H' : Hp} (s : SB B H H') (n : D ≠ B) (h : H' D = none) : H D = none := by
  cases e : H D with
  | none => rfl
  | some o => exact absurd (s _ _ n e) (by rw [h]; exact fun q => nomatch q)
theorem p58 : (10 : Int) ^ 58 * 9 < ten60 := by decide +kernel
theorem name_ok {z : Str} (h : NameS z) : nameB (.str z) = true := by
  obtain ⟨a, b, c, d⟩ := h
  show (decide (1 ≤ z.length) && (decide (z.length ≤ 8) && (z.cps.toList.all lowB && decide (z ∉ words)))) = true
  rw [decide_eq_true a, decide_eq_true b, all_low.mpr c, decide_eq_true d]
  rfl
theorem let_ok {c : Nat} (h : low c) : letterB (.str ⟨#[c]⟩) = true := by
  show (decide ([c].length = 1) && [c].all lowB) = true
  rw [all_low.mpr (by simpa using h)]
  rfl
theorem event_mk {t : Int} {z l : Str} {v : Int} (t0 : 0 ≤ t) (t1 : t < ten60) (nz : nameB (.str z) = true) (hl : letterB (.str l) = true) (v0 : -ten60 < v) (v1 : v < ten60) : eventB (.tuple [.int t, .str z, .str l, .int v]) = true := by
  show (decide (0 ≤ t) && decide (t < ten60) && (nameB (.str z) && (letterB (.str l) && (decide (-ten60 < v) && decide (v < ten60))))) = true
  rw [decide_eq_true t0, decide_eq_true t1, nz, hl, decide_eq_true v0, decide_eq_true v1]
  rfl
theorem last_snoc (es : List PyData) (d : PyData) : lastT (.tuple (es ++ [d])) = evT d := by
  show (match (es ++ [d]).getLast? with | some d => evT d | none => 0) = _
  rw [List.getLast?_append]
  rfl
theorem last_at {es : List PyData} {i : Nat} (h : i + 1 = es.length) : ∃ hi : i < es.length, lastT (.tuple es) = evT es[i] := by
  refine ⟨by omega, ?_⟩
  show (match es.getLast? with | some d => evT d | none => 0) = _
  have : es.getLast? = some (es[i]'(by omega)) := by
    rw [List.getLast?_eq_getElem?, show es.length - 1 = i by omega]
    exact List.getElem?_eq_getElem _
  rw [this]
theorem asc_snoc {es : List PyData} {d : PyData} (as : ascI (es.map evT) = true) (l : lastT (.tuple es) ≤ evT d) : ascI ((es ++ [d]).map evT) = true := by
  refine ascI_iff.mpr fun i hi => ?_
  rw [List.length_map, List.length_append] at hi
  have hi : i < es.length := by simpa using hi
  rw [List.map_append]
  by_cases h : i + 1 < es.length
  · obtain ⟨a, b, e1, e2, r⟩ := ascI_iff.mp as i (by rw [List.length_map]; omega)
    exact ⟨a, b, by rw [List.getElem?_append_left (by rw [List.length_map]; omega)]; exact e1, by rw [List.getElem?_append_left (by rw [List.length_map]; omega)]; exact e2, r⟩
  · obtain ⟨h0, e⟩ := last_at (es := es) (i := i) (by omega)
    refine ⟨evT es[i], evT d, ?_, ?_, by rw [← e]; exact l⟩
    · rw [List.getElem?_append_left (by rw [List.length_map]; omega), List.getElem?_map, List.getElem?_eq_getElem hi]
      rfl
    · rw [List.getElem?_append_right (by rw [List.length_map]; omega), List.length_map, show i + 1 - es.length = 0 by omega]
      rfl
theorem DAL.snoc {A : List Addr} {H : Hp} {ds : List PyData} {xs : List V} {d : PyData} {v : V} (h : DAL A H ds xs) (g : DA A H d v) : DAL A H (ds ++ [d]) (xs ++ [v]) := h.app (.cons g .nil)
structure RowD (es : List PyData) : Prop where
  ev : es.all eventB = true
  as : ascI (es.map evT) = true
theorem RowD.pure {es : List PyData} (h : RowD es) : pureL es = true := pureL_iff.mpr fun d hd => event_pure (List.all_eq_true.mp h.ev d hd)
/-- what the walk of _law_events keeps -/
structure EvW (H0 H : Hp) (B L NM : Addr) (ns : List Str) (i : Nat) (now : Int) : Prop where
  sb : SB B H0 H
  bag : BagAt H B
  nm : H NM = some (.lst (ns.map V.str))
  ev : ∃ xs es, H L = some (.lst xs) ∧ DAL [] H es xs ∧ es.length = i ∧ RowD es ∧ lastT (.tuple es) = now
  lo : 0 ≤ now
  hi : now ≤ i * 10 ^ 58
def spEvts : Sp := fun vs H Q _ => ∃ (B d : Addr) (most gap : Int), vs = [.ref B, .ref d, .int most, .int gap] ∧ BagAt H B ∧ LayO H d ∧ 0 ≤ most ∧ most ≤ 5 ∧ 1 ≤ gap ∧ gap ≤ 10 ^ 58 ∧
  ∀ t es xs H', H' t = some (.tup xs) → DAL [] H' es xs → RowD es → (es.length : Int) ≤ most → 0 ≤ lastT (.tuple es) → lastT (.tuple es) ≤ most * 10 ^ 58 → SB B H H' → BagAt H' B → Q (.ref t) H'
def spLTape : Sp := fun vs H Q _ => ∃ (B d : Addr) (most gap : Int), vs = [.ref B, .ref d, .int most, .int gap] ∧ BagAt H B ∧ LayO H d ∧ 0 ≤ most ∧ most ≤ 5 ∧ 1 ≤ gap ∧ gap ≤ 10 ^ 58 ∧
  ∀ v es l H', DA [] H' (.tuple [.tuple es, .int l]) v → RowD es → (es.length : Int) ≤ most → lastT (.tuple es) ≤ l → 0 ≤ l → l < 10 ^ 59 → SB B H H' → BagAt H' B → Q v H'
section
variable {P : Program} {w : World} {K : PySem.W.Frag} {mg : Str → Option Value} {base : Heap} {fT fP fV fE : Addr}
abbrev nEvts : List Str := ["bag", "layout", "most", "gap", "names", "events", "now", "turn", "name"]
theorem scEvts : FnScope nEvts ["bag", "layout", "most", "gap"] (defScope sEvents) := ⟨rfl, rfl, rfl, by decide +kernel, rfl, by decide +kernel, by decide +kernel⟩
theorem ok_events {f : Addr} {fd fdT fdP fdV : FuncData} (F : Fun K "_law_events" "_law_events" sEvents f fd) (T : GTxt mg fT fP) (mV : mg "_law_value" = some (.ref fV)) (FT : Fun K "_law_throw" "_law_throw" sThrow fT fdT) (bT : Binds K fdT ["bag", "total"] [])
    (FP : Fun K "_law_pick" "_law_pick" sPick fP fdP) (bP : Binds K fdP ["bag", "items"] []) (FV : Fun K "_law_value" "_law_value" sValue fV fdV) (bV : Binds K fdV ["bag"] []) :
    FnOk P w K mg base CX0 3 f fd ["bag", "layout", "most", "gap"] spEvts := by
  have GT : FnOk P w K mg base CX0 1 fT fdT ["bag", "total"] spThrow := ok_throw FT T.toTxtA
  have GL : FnOk P w K mg base CX0 2 fP fdP ["bag", "items"] spPickL := ok_pickL FP T.toTxtA FT bT
  have GP : FnOk P w K mg base CX0 2 fP fdP ["bag", "items"] (spPickT K) := ok_pickT FP T.toTxtA FT bT
  have GV : FnOk P w K mg base CX0 2 fV fdV ["bag"] spValue := ok_value FV T.toTxtA FT bT
  refine F.ok scEvts (fun vs H Q E h => ?_) (fun cdv A outer s H vs Q E hr h => ?_)
  · obtain ⟨B, d, most, gap, rfl, _⟩ := h
    rfl
  · obtain ⟨B, d, most, gap, rfl, hB, lay, m0, m5, g1, g58, k⟩ := h
    have hr1 : Room 1 _ := hr.mono (by decide)
    have hr2 : Room 2 _ := hr.mono (by decide)
    refine ⟨_, pss_cons (ps_set (i := 4) scEvts.nd rfl (Or.inl rfl) (pe_callB (call_sortedD rfl) (by rfl) T.sorted (by decide +kernel) (pa_cons (pv 1) pa_nil)))
      (pss_cons (ps_set (i := 5) scEvts.nd rfl (Or.inl rfl) (pe_lst pa_nil))
      (pss_cons (ps_set (i := 6) scEvts.nd rfl (Or.inl rfl) pe_int)
      (pss_cons (ps_for PassesOwn.never rfl (pi_range1 rfl T.range (pa_cons (pe_call GT hr1 rfl T.thr FT.kp bT .nil pass0 (pa_cons (pv 0) (pa_cons (pe_op op_add (pv 2) pe_int) pa_nil))) pa_nil)) (pg_name (i := 7) scEvts.nd rfl (Or.inl rfl))
        (pss_cons (ps_set (i := 6) scEvts.nd rfl (Or.inl rfl) (pe_op op_add (pv 6) (pe_op op_mul (pe_call GT hr1 rfl T.thr FT.kp bT .nil pass0 (pa_cons (pv 0) (pa_cons (pv 3) pa_nil)))
          (pe_callTy call_int1 (by rfl) T.int (by decide +kernel) (pa_cons (pe_cmpR op_gt (pe_call GT hr1 rfl T.thr FT.kp bT .nil pass0 (pa_cons (pv 0) (pa_cons pe_int pa_nil))) pe_int (nomark _)) pa_nil)))))
        (pss_cons (ps_set (i := 8) scEvts.nd rfl (Or.inl rfl) (pe_call GL hr2 rfl T.pick FP.kp bP .nil pass0 (pa_cons (pv 0) (pa_cons (pv 4) pa_nil))))
        (pss_one (ps_expr (pe_bm PySem.F.plainAttrs_list PySem.F.slot_list_append PySem.F.type_list_append mt_append (pv 5) (pa_cons (pe_tup (pa_cons (pv 6) (pa_cons (pv 8)
          (pa_cons (pe_call GP hr2 rfl T.pick FP.kp bP .nil pass0 (pa_cons (pv 0) (pa_cons (pe_dget (hu_of hr) (pv 1) (pv 8) (fun _ _ => rfl)) pa_nil)))
          (pa_cons (pe_call GV hr2 rfl mV FV.kp bV .nil pass0 (pa_cons (pv 0) pa_nil)) pa_nil))))) pa_nil)))))))
      (pss_one (ps_ret (pe_callTy call_tuple_of (by rfl) T.tuple (by decide +kernel) (pa_cons (pv 5) pa_nil))))))), ?_⟩
    obtain ⟨kvs, hd, k1, k5, nd, gd⟩ := id lay
    obtain ⟨ks, ek, lks⟩ := keysLow fun p hp => (gd p hp).1
    refine ⟨_, rfl, d, kvs, ks, rfl, .inl hd, ek, by omega, fun ns NM pm srt hNM => ?_⟩
    have s1 := (SB.refl B H).new (o := .lst (ns.map V.str)) hNM
    have b1 := hB.new (o := .lst (ns.map V.str)) hNM
    have e1 : (upd H NM (.lst (ns.map V.str))) NM = some (.lst (ns.map V.str)) := upd_same
    have nNM := hB.ne hNM
    generalize upd H NM (.lst (ns.map V.str)) = H1 at s1 b1 e1
    refine ⟨(by show 0 ≤ sizeLine; exact Nat.zero_le _), fun L hL => ?_⟩
    have nL := b1.ne hL
    have hL0 := s1.none nL hL
    have nNL : NM ≠ L := ne_of_none e1 hL
    have s2 := s1.new (o := .lst []) hL
    have b2 := b1.new (o := .lst []) hL
    have e2 : (upd H1 L (.lst [])) NM = some (.lst (ns.map V.str)) := (upd_ne nNL).trans e1
    have f2 : (upd H1 L (.lst [])) L = some (.lst []) := upd_same
    generalize upd H1 L (.lst []) = H2 at s2 b2 e2 f2
    refine ⟨_, rfl, _, rfl, _, _, rfl, rfl, B, _, rfl, b2, by omega, Int.le_trans (by omega : most + 1 ≤ 6) (by decide +kernel), fun r H3 r0 r1 s3 b3 => ?_⟩
    refine ⟨_, rfl, by omega, by omega, ?_⟩
    refine for_range (lo := 0) (n := r.toNat) (fun i σ H' => ∃ now v7 v8, σ = [some (.ref B), some (.ref d), some (.int most), some (.int gap), some (.ref NM), some (.ref L), some (.int now), v7, v8] ∧ EvW H H' B L NM ns i now)
      ⟨0, _, _, rfl, s2.trans s3, b3, s3 _ _ nNM e2, ⟨[], [], s3 _ _ nL f2, .nil, rfl, ⟨rfl, rfl⟩, rfl⟩, Int.le_refl _, by simp⟩ ?_ ?_
    · rintro i σ H4 hi ⟨now, v7, v8, rfl, W⟩
      have w4 := W
      refine ⟨_, rfl, _, rfl, _, rfl, B, gap, rfl, W.bag, by omega, Int.le_trans g58 (by decide +kernel), fun a H5 a0 a1 s5 b5 => ?_⟩
      refine ⟨_, rfl, B, 3, rfl, b5, by decide, by decide +kernel, fun c H6 c0 c1 s6 b6 => ?_⟩
      refine ⟨_, _, rfl, rfl, .inr ⟨_, rfl, ?_⟩⟩
      obtain ⟨g, hg, hg01⟩ : ∃ g : Int, (if decide (c > 0) = true then (1 : Int) else 0) = g ∧ (g = 0 ∨ g = 1) := ⟨_, rfl, by split <;> simp⟩
      rw [hg]
      have nb : 0 ≤ a * g ∧ a * g ≤ 10 ^ 58 := by
        rcases hg01 with e | e <;> rw [e] <;> omega
      refine ⟨_, _, rfl, rfl, .inr ⟨by omega, by omega⟩, _, _, rfl, rfl, ?_⟩
      have s46 := s5.trans s6
      have nm6 := s46 _ _ nNM W.nm
      have lns : ns.length = ks.length := pm.length_eq
      refine ⟨_, rfl, _, rfl, B, NM, _, rfl, b6, nNM.symm, nm6, by rw [List.length_map]; omega, by rw [List.length_map]; omega, fun y H7 hy s7 b7 => ?_⟩
      obtain ⟨z, hz, rfl⟩ := List.mem_map.mp hy
      have zks : z ∈ ks := pm.mem_iff.mp hz
      obtain ⟨lv, hlv⟩ := ix_key ek zks
      have s47 := W.sb.trans (s46.trans s7)
      have nd7 : d ≠ B := fun q => by
        obtain ⟨x1, x2, x3, e⟩ := hB
        rw [q, e] at hd
        cases hd
      have hd7 := s47 _ _ nd7 hd
      obtain ⟨⟨z', ez, nz⟩, t, ds, rfl, ht, d1, d26, dl⟩ := gd _ hlv
      cases ez
      have ntB : t ≠ B := fun q => by
        obtain ⟨x1, x2, x3, e⟩ := hB
        rw [q, e] at ht
        cases ht
      have ht7 := s47 _ _ ntB ht
      obtain ⟨xs, es, hx, px, le, row, en⟩ := W.ev
      have hx7 := (s46.trans s7) _ _ nL hx
      refine ⟨_, rfl, .inl ⟨rfl, _, SqL.of hx7⟩, _, rfl, _, rfl, _, rfl, _, rfl, _, rfl, d, _, rfl, .inl ⟨kvs, _, .inl hd7, rfl, (val_in nd hlv).symm⟩, B, t, letV ds, rfl, b7, fun H8 s8 => SqT.of (s8 _ _ ntB ht7), ?_, ?_, fun y H8 hy8 s8 b8 => ?_⟩
      · unfold letV
        rw [List.length_map]
        omega
      · unfold letV
        rw [List.length_map]
        omega
      obtain ⟨l, hl, rfl⟩ := List.mem_map.mp hy8
      refine ⟨_, rfl, B, rfl, b8, fun v H9 v0 v1 s9 b9 => ?_⟩
      refine ⟨(by show 4 ≤ sizeLine; decide), fun q hq => ?_⟩
      have s49 := s46.trans (s7.trans (s8.trans s9))
      have hx9 := s49 _ _ nL hx
      have nqL : L ≠ q := ne_of_none hx9 hq
      have lx := px.length
      refine ⟨L, xs, _, rfl, rfl, (upd_ne nqL).trans hx9, ?_, _, _, _, rfl, ?_⟩
      · rw [← lx, le]
        exact small4 (by omega)
      have lo5 := W.lo
      have hi5 := W.hi
      have p58' := p58
      have t60 : now + a * g < ten60 := by
        have : (i : Int) * 10 ^ 58 ≤ 5 * 10 ^ 58 := Int.mul_le_mul_of_nonneg_right (by omega) (by decide +kernel)
        omega
      have evd := event_mk (t := now + a * g) (by omega) t60 (name_ok nz) (let_ok (dl l hl)) v0 v1
      have h0 : (upd H9 q (.tup [.int (now + a * g), .str z, .str ⟨#[l]⟩, .int v])) L = some (.lst xs) := (upd_ne nqL).trans hx9
      have k1 : TK H4 H9 := TK.sb W.bag s49
      have k2 : TK H9 (upd H9 q (.tup [.int (now + a * g), .str z, .str ⟨#[l]⟩, .int v])) := TK.of (same_new hq)
      have k3 := TK.lst (ys := xs ++ [.ref q]) h0
      refine ⟨(((W.sb.trans s49).new hq).own hL0), ((b9.new hq).other nL.symm), (upd_ne nNL).trans ((upd_ne (ne_of_none (s49 _ _ nNM W.nm) hq)).trans (s49 _ _ nNM W.nm)), ⟨_, es ++ [.tuple [.int (now + a * g), .str z, .str ⟨#[l]⟩, .int v]], upd_same, ?_, by rw [List.length_append, le]; rfl, ⟨?_, ?_⟩, ?_⟩, by omega, ?_⟩
      · refine ((px.tk k1 row.pure).tk (k2.trans k3) row.pure).snoc ?_
        refine .tup (fun z => nomatch z) (k3 _ _ upd_same) (.cons (.int _) (.cons (.str _) (.cons (.str _) (.cons (.int _) .nil))))
      · rw [List.all_append, row.ev]
        show (true && (eventB _ && true)) = true
        rw [evd]
        rfl
      · exact asc_snoc row.as (by rw [en]; show now ≤ now + a * g; omega)
      · exact last_snoc _ _
      · have : ((i + 1 : Nat) : Int) * 10 ^ 58 = (i : Int) * 10 ^ 58 + 10 ^ 58 := by
          rw [Int.natCast_add, Int.add_mul]
          omega
        rw [this]
        omega
    · rintro σ H4 ⟨now, v7, v8, rfl, W⟩
      obtain ⟨xs, es, hx, px, le, row, en⟩ := W.ev
      have hi5 := W.hi
      have lo5 := W.lo
      have hp := p58
      have rl : (r.toNat : Int) ≤ most := by omega
      have few : (r.toNat : Int) * 10 ^ 58 ≤ most * 10 ^ 58 := Int.mul_le_mul_of_nonneg_right rl (by decide +kernel)
      refine ⟨_, rfl, L, _, rfl, .inl ⟨SqL.of hx, fun l hl => ?_⟩⟩
      have s9 : Same H4 (upd H4 l (.tup xs)) := same_new hl
      exact k l es _ _ upd_same (px.same s9) row (by omega) (by omega) (by omega) (W.sb.trans (SB.of s9)) (W.bag.new hl)
theorem scLTape : FnScope ["bag", "layout", "most", "gap", "events", "reach"] ["bag", "layout", "most", "gap"] (defScope sTape) := ⟨rfl, rfl, rfl, by decide +kernel, rfl, by decide +kernel, by decide +kernel⟩
theorem ok_ltape {f : Addr} {fd fdT fdE : FuncData} (F : Fun K "_law_tape" "_law_tape" sTape f fd) (T : GTxt mg fT fP) (mE : mg "_law_events" = some (.ref fE)) (FT : Fun K "_law_throw" "_law_throw" sThrow fT fdT) (bT : Binds K fdT ["bag", "total"] [])
    (kE : PySem.W.keepIn K (.ref fE) = true) (bE : Binds K fdE ["bag", "layout", "most", "gap"] []) (GE : FnOk P w K mg base CX0 3 fE fdE ["bag", "layout", "most", "gap"] spEvts) :
    FnOk P w K mg base CX0 4 f fd ["bag", "layout", "most", "gap"] spLTape := by
  have GT : FnOk P w K mg base CX0 1 fT fdT ["bag", "total"] spThrow := ok_throw FT T.toTxtA
  refine F.ok scLTape (fun vs H Q E h => ?_) (fun cdv A outer s H vs Q E hr h => ?_)
  · obtain ⟨B, d, most, gap, rfl, _⟩ := h
    rfl
  · obtain ⟨B, d, most, gap, rfl, hB, lay, m0, m5, g1, g58, k⟩ := h
    have hr1 : Room 1 _ := hr.mono (by decide)
    refine ⟨_, pss_cons (ps_set (i := 4) scLTape.nd rfl (Or.inl rfl) (pe_call GE hr rfl mE kE bE .nil pass0 (pa_cons (pv 0) (pa_cons (pv 1) (pa_cons (pv 2) (pa_cons (pv 3) pa_nil))))))
      (pss_cons (ps_set (i := 5) scLTape.nd rfl (Or.inl rfl) (pe_ifExp (pt_truth (pv 4) (by intro _; rfl)) (pe_ix (r := rIxT K) ix_tup (pe_ix (r := rIxT K) ix_tup (pv 4) (pe_un un_neg pe_int) (fun _ _ => rfl)) pe_int (fun _ _ => rfl)) pe_int))
      (pss_one (ps_ret (pe_tup (pa_cons (pv 4) (pa_cons (pe_op op_add (pv 5) (pe_call GT hr1 rfl T.thr FT.kp bT .nil pass0 (pa_cons (pv 0) (pa_cons (pv 3) pa_nil)))) pa_nil)))))), ?_⟩
    refine ⟨_, rfl, _, rfl, _, rfl, _, rfl, B, d, most, gap, rfl, hB, lay, m0, m5, g1, g58, fun t es xs H1 et dl row few last0 last s1 b1 => ?_⟩
    have p58' := p58
    have fin : ∀ (a : Int) H2, SB B H1 H2 → BagAt H2 B → 0 ≤ a → a < gap → ∀ z, H2 z = none → Q (.ref z) (upd H2 z (.tup [.ref t, .int (lastT (.tuple es) + a)])) := fun a H2 s2 b2 a0 a1 z hz => by
      have m58 : most * 10 ^ 58 ≤ 5 * 10 ^ 58 := by omega
      have q59 : lastT (.tuple es) + a < 10 ^ 59 := by omega
      have kk := (TK.sb b1 s2).trans (TK.of (same_new (o := .tup [.ref t, .int (lastT (.tuple es) + a)]) hz))
      exact k (.ref z) es (lastT (.tuple es) + a) _ (.tup (fun z => nomatch z) upd_same (.cons (.tup (fun z => nomatch z) (kk _ _ et) (dl.tk kk row.pure)) (.cons (.int _) .nil))) row few (by omega) (by omega) q59 (s1.trans (s2.new hz)) (b2.new hz)
    have ll := dl.length
    refine ⟨_, rfl, !xs.isEmpty, ?_, ?_⟩
    · exact .inr (.inl ⟨xs, SqT.of et, rfl⟩)
    by_cases e : es = []
    · subst e
      cases dl
      refine iteF ⟨_, rfl, _, rfl, _, rfl, _, rfl, B, gap, rfl, b1, by omega, Int.le_trans g58 (by decide +kernel), fun a H2 a0 a1 s2 b2 => ⟨_, _, rfl, rfl, (by show 2 ≤ sizeLine; decide), fun z hz => fin a H2 s2 b2 a0 a1 z hz⟩⟩
    · have lp : 0 < es.length := List.length_pos_iff.mpr e
      have hx : xs.length - 1 < xs.length := by omega
      obtain ⟨h0, el⟩ := last_at (es := es) (i := xs.length - 1) (by omega)
      obtain ⟨a1, t1, ys1, v1, b1', l1, z1, _, _⟩ := event_head (dl.at (List.getElem?_eq_getElem h0) (v := xs[xs.length - 1]) (List.getElem?_eq_getElem hx)) (List.all_eq_true.mp row.ev _ (List.getElem_mem h0))
      have at1 : atI xs (-1) = some (.ref a1) := by
        rw [← v1]
        exact atI_neg1 hx
      have : (!xs.isEmpty) = true := by
        cases xs with
        | nil => exact absurd hx (by simp)
        | cons x r => rfl
      rw [this]
      refine iteT ⟨_, rfl, _, rfl, t, xs, -1, _, rfl, rfl, SqT.of et, at1, a1, _, _, _, rfl, rfl, SqT.of b1', atI_nat (j := 0) rfl, ?_⟩
      refine ⟨_, rfl, _, rfl, _, rfl, _, rfl, B, gap, rfl, b1, by omega, Int.le_trans g58 (by decide +kernel), fun a H2 a0 a2 s2 b2 => ⟨_, _, rfl, rfl, (by show 2 ≤ sizeLine; decide), fun z hz => ?_⟩⟩
      have z2 := fin a H2 s2 b2 a0 a2 z hz
      rw [el, z1] at z2
      exact z2
end
end Wd

set_option Elab.async false
set_option linter.all false
set_option maxRecDepth 100000
set_option maxHeartbeats 4000000
set_option pp.maxSteps 400
set_option pp.deepTerms false
namespace Wd
open PySem L2 TL
open SX (S)

open PySem.Spec PyProof.Rows CwR
/-! ### how much there is in data -/
mutual
def szD : PyData → Nat
  | .none => 4
  | .bool _ => 8
  | .int _ => 64
  | .str z => 2 * z.length + 4
  | .tuple ds => 8 + szL ds
  | .list ds => 8 + szL ds
  | .dict _ => 8
def szL : List PyData → Nat
  | [] => 0
  | d :: ds => szD d + 2 + szL ds
end
theorem szL_app : ∀ (a b : List PyData), szL (a ++ b) = szL a + szL b
  | [], b => by show szL b = 0 + szL b; omega
  | d :: a, b => by
    show szD d + 2 + szL (a ++ b) = szD d + 2 + szL a + szL b
    rw [szL_app a b]
    omega
theorem szL_all {m : Nat} : ∀ {ds : List PyData}, (∀ d ∈ ds, szD d ≤ m) → szL ds ≤ ds.length * (m + 2)
  | [], _ => Nat.zero_le _
  | d :: ds, h => by
    have h1 := h d (by simp)
    have h2 := szL_all (ds := ds) fun e he => h e (by simp [he])
    show szD d + 2 + szL ds ≤ (ds.length + 1) * (m + 2)
    rw [Nat.add_mul]
    omega
theorem szL_mem : ∀ {ds : List PyData}, ∀ d ∈ ds, szD d + 2 ≤ szL ds
  | [], d, h => nomatch h
  | e :: ds, d, h => by
    show szD d + 2 ≤ szD e + 2 + szL ds
    rcases List.mem_cons.mp h with rfl | h
    · omega
    · have := szL_mem d h
      omega
theorem szL_len : ∀ ds : List PyData, 2 * ds.length ≤ szL ds
  | [] => Nat.le_refl _
  | d :: ds => by
    have := szL_len ds
    show 2 * (ds.length + 1) ≤ szD d + 2 + szL ds
    omega
/-! ### the text of what may be written -/
theorem item_sz : ∀ (k : Nat) {d : PyData}, itemB k d = true → (itemT d).length ≤ szD d
  | k, d, h => by
    rcases no_parts (d := d) with ⟨ds, rfl⟩ | no
    · have hb := itemB_parts h
      have hk : 0 < k := by
        rw [itemB_tup, Bool.and_eq_true, decide_eq_true_eq] at h
        exact h.1
      rw [itemT_tup, List.length_cons, List.length_append, List.length_singleton]
      have j := join_len (s := 32) (xs := ds.map itemT)
      have : ∀ {es : List PyData}, (∀ e ∈ es, itemB (k - 1) e = true) → ((es.map itemT).map (·.length)).sum + (es.map itemT).length ≤ szL es := by
        intro es
        induction es with
        | nil => exact fun _ => Nat.le_refl _
        | cons e es ih =>
          intro h
          have h1 := item_sz (k - 1) (h e (by simp))
          have h2 := ih fun x hx => h x (by simp [hx])
          show (itemT e).length + ((es.map itemT).map (·.length)).sum + ((es.map itemT).length + 1) ≤ szD e + 2 + szL es
          omega
      have := this hb
      show _ ≤ 8 + szL ds
      omega
    · rcases flat_is no h with rfl | ⟨z, rfl, hz⟩ | ⟨i, rfl, h1, h2⟩
      · show 1 ≤ 4
        decide
      · show (tl z).length ≤ 2 * z.length + 4
        have : (tl z).length = z.length := Array.length_toList
        omega
      · have := intL_len h1 h2
        show (intL i).length ≤ 64
        omega
termination_by k => k
theorem items_sz {k : Nat} : ∀ {es : List PyData}, (∀ e ∈ es, itemB k e = true) → ((es.map itemT).map (·.length)).sum + 2 * (es.map itemT).length ≤ szL es
  | [], _ => Nat.le_refl _
  | e :: es, h => by
    have h1 := item_sz k (h e (by simp))
    have h2 := items_sz (es := es) fun x hx => h x (by simp [hx])
    show (itemT e).length + ((es.map itemT).map (·.length)).sum + 2 * ((es.map itemT).length + 1) ≤ szD e + 2 + szL es
    omega
theorem event_sz {d : PyData} (h : eventB d = true) : (evL d).length ≤ szD d := by
  obtain ⟨t, u, l, v, rfl, t1, t2, hu, hl, v1, v2⟩ := event_parts h
  have j := join_len (s := 32) (xs := [intL t, tl u, tl l, intL v])
  have a := intL_len (i := t) (by have : (0 : Int) < ten60 := by decide
                                  omega) t2
  have b := intL_len v1 v2
  have c : (tl u).length = u.length := Array.length_toList
  have e : (tl l).length = l.length := Array.length_toList
  have j : (joinL [32] [intL t, tl u, tl l, intL v]).length ≤ ((intL t).length + ((tl u).length + ((tl l).length + ((intL v).length + 0)))) + 4 := j
  show (joinL [32] [intL t, tl u, tl l, intL v]).length ≤ 8 + (64 + 2 + (2 * u.length + 4 + 2 + (2 * l.length + 4 + 2 + (64 + 2 + 0))))
  omega
theorem events_sz : ∀ {es : List PyData}, es.all eventB = true → ((es.map evL).map (·.length)).sum + 2 * (es.map evL).length ≤ szL es
  | [], _ => Nat.le_refl _
  | e :: es, h => by
    rw [List.all_cons, Bool.and_eq_true] at h
    have h1 := event_sz h.1
    have h2 := events_sz h.2
    show (evL e).length + ((es.map evL).map (·.length)).sum + 2 * ((es.map evL).length + 1) ≤ szD e + 2 + szL es
    omega
theorem rounds_sz : ∀ {rs : List (List PyData)}, (∀ ss ∈ rs, ∀ d ∈ ss, standB d = true) → ((rs.flatMap roundLs).map (·.length)).sum + (rs.flatMap roundLs).length ≤ szL (rs.map .tuple)
  | [], _ => Nat.le_refl _
  | ss :: rs, h => by
    have h1 := items_sz (k := 20) fun d hd => (stand_item (h ss (by simp) d hd)).1
    have h2 := rounds_sz (rs := rs) fun x hx => h x (by simp [hx])
    rw [List.flatMap_cons, List.map_append, List.sum_append, List.length_append]
    have lr : rndW.length = 5 := by decide +kernel
    show (rndW.length + ((ss.map itemT).map (·.length)).sum) + _ + ((ss.map itemT).length + 1 + _) ≤ (8 + szL ss) + 2 + szL (rs.map .tuple)
    omega
theorem paper_sz {d : PyData} (h : paperB d = true) : (paperT d).length ≤ szD d + 10 := by
  unfold paperB at h
  rw [Bool.or_eq_true] at h
  rcases h with h | h
  · obtain ⟨ss, rfl, hs⟩ := listP_parts h
    have h1 := items_sz (k := 20) fun d hd => (stand_item (hs d hd)).1
    have j := join_len (s := 10) (xs := listW :: ss.map itemT)
    have ll : listW.length = 4 := by decide +kernel
    have j : (joinL [10] (listW :: ss.map itemT)).length ≤ (listW.length + ((ss.map itemT).map (·.length)).sum) + ((ss.map itemT).length + 1) := j
    show (joinL [10] (listW :: ss.map itemT)).length ≤ 8 + (2 * (Str.ofString "list").length + 4 + 2 + (8 + szL ss + 2 + 0)) + 10
    omega
  · obtain ⟨es, l, rs, rfl, ev, as, l1, l2, ll, ln, hs⟩ := rowP_parts h
    have h1 := events_sz ev
    have h2 := rounds_sz hs
    have pt : paperT (.tuple [.str (Str.ofString "row"), .tuple es, .int l, .tuple (rs.map .tuple)]) = joinL [10] (tapeLs es l (rs.flatMap roundLs)) := by
      show joinL [10] (tapeLs es l (((rs.map PyData.tuple).map partsD).flatMap roundLs)) = _
      rw [parts_back]
    rw [pt]
    have j := join_len (s := 10) (xs := tapeLs es l (rs.flatMap roundLs))
    have lr : rowW.length = 3 := by decide +kernel
    have lu : (untilL l).length ≤ 69 := by
      have j : (joinL [32] [untW, intL l]).length ≤ (untW.length + ((intL l).length + 0)) + 2 := join_len (s := 32) (xs := [untW, intL l])
      have li := intL_len l1 l2
      have : untW.length = 5 := by decide +kernel
      show (joinL [32] [untW, intL l]).length ≤ _
      omega
    have e1 : ((tapeLs es l (rs.flatMap roundLs)).map (·.length)).sum = rowW.length + (((es.map evL).map (·.length)).sum + ((untilL l).length + ((rs.flatMap roundLs).map (·.length)).sum)) := by
      show ((rowW :: (es.map evL ++ untilL l :: rs.flatMap roundLs)).map (·.length)).sum = _
      rw [List.map_cons, List.sum_cons, List.map_append, List.sum_append, List.map_cons, List.sum_cons]
    have e2 : (tapeLs es l (rs.flatMap roundLs)).length = (es.map evL).length + 2 + (rs.flatMap roundLs).length := by
      show (es.map evL ++ untilL l :: rs.flatMap roundLs).length + 1 = _
      rw [List.length_append, List.length_cons]
      omega
    rw [e1, e2] at j
    show _ ≤ 8 + (2 * (Str.ofString "row").length + 4 + 2 + (8 + szL es + 2 + (64 + 2 + (8 + szL (rs.map .tuple) + 2 + 0)))) + 10
    omega
/-! what repr asks -/
mutual
def okD : PyData → Bool
  | .none => true
  | .bool _ => false
  | .int i => intB (.int i)
  | .str z => z.cps.toList.all fun c => decide (c < 128)
  | .tuple ds => okL ds
  | .list _ => false
  | .dict _ => false
def okL : List PyData → Bool
  | [] => true
  | d :: ds => okD d && okL ds
end
theorem okL_all : ∀ {ds : List PyData}, (∀ d ∈ ds, okD d = true) → okL ds = true
  | [], _ => rfl
  | d :: ds, h => by
    show (okD d && okL ds) = true
    rw [h d (by simp), okL_all fun e he => h e (by simp [he])]
    rfl
theorem okD_int {i : Int} (h1 : -ten60 < i) (h2 : i < ten60) : okD (.int i) = true := by
  show (decide (-ten60 < i) && decide (i < ten60)) = true
  rw [decide_eq_true h1, decide_eq_true h2]
  rfl
theorem okD_str {z : Str} (h : ∀ c ∈ tl z, c < 128) : okD (.str z) = true := List.all_eq_true.mpr fun c hc => decide_eq_true (h c hc)
theorem okD_item : ∀ (k : Nat) {d : PyData}, itemB k d = true → okD d = true ∧ d.depth ≤ k
  | k, d, h => by
    rcases no_parts (d := d) with ⟨ds, rfl⟩ | no
    · have hb := itemB_parts h
      have hk : 0 < k := by
        rw [itemB_tup, Bool.and_eq_true, decide_eq_true_eq] at h
        exact h.1
      have dp : ∀ {es : List PyData}, (∀ e ∈ es, itemB (k - 1) e = true) → okL es = true ∧ PyData.depthAll es ≤ k - 1 := by
        intro es
        induction es with
        | nil => exact fun _ => ⟨rfl, Nat.zero_le _⟩
        | cons e es ih =>
          intro h
          have h1 := okD_item (k - 1) (h e (by simp))
          have h2 := ih fun x hx => h x (by simp [hx])
          refine ⟨?_, ?_⟩
          · show (okD e && okL es) = true
            rw [h1.1, h2.1]
            rfl
          · simp only [PyData.depthAll]
            omega
      have := dp hb
      refine ⟨this.1, ?_⟩
      simp only [PyData.depth]
      omega
    · rcases flat_is no h with rfl | ⟨z, rfl, hz⟩ | ⟨i, rfl, h1, h2⟩
      · exact ⟨rfl, by simp [PyData.depth]⟩
      · exact ⟨okD_str fun c hc => by have := word_sign hz c hc; omega, by simp [PyData.depth]⟩
      · exact ⟨okD_int h1 h2, by simp [PyData.depth]⟩
termination_by k => k
theorem okD_event {d : PyData} (h : eventB d = true) : okD d = true ∧ d.depth ≤ 1 := by
  obtain ⟨t, u, l, v, rfl, t1, t2, hu, hl, v1, v2⟩ := event_parts h
  have z : (0 : Int) < ten60 := by decide
  have a := okD_int (i := t) (by omega) t2
  have b := okD_str (z := u) fun c hc => by have := (name_signs hu).1 c hc; unfold low at this; omega
  have c := okD_str (z := l) fun c hc => by have := (letter_signs hl).1 c hc; unfold low at this; omega
  have e := okD_int v1 v2
  refine ⟨?_, by simp [PyData.depth, PyData.depthAll]⟩
  show (okD (.int t) && (okD (.str u) && (okD (.str l) && (okD (.int v) && true)))) = true
  rw [a, b, c, e]
  rfl
theorem depth_all {k : Nat} : ∀ {ds : List PyData}, (∀ d ∈ ds, d.depth ≤ k) → PyData.depthAll ds ≤ k
  | [], _ => Nat.zero_le _
  | d :: ds, h => by
    have h1 := h d (by simp)
    have h2 := depth_all (ds := ds) fun e he => h e (by simp [he])
    simp only [PyData.depthAll]
    omega
theorem stands_ok {ss : List PyData} (hs : ∀ d ∈ ss, standB d = true) : okD (.tuple ss) = true ∧ (PyData.tuple ss).depth ≤ 21 := by
  refine ⟨okL_all fun d hd => (okD_item 20 (stand_item (hs d hd)).1).1, ?_⟩
  have := depth_all fun d hd => (okD_item 20 (stand_item (hs d hd)).1).2
  simp only [PyData.depth]
  omega
theorem okD_paper {d : PyData} (h : paperB d = true) : okD d = true ∧ d.depth ≤ 24 := by
  unfold paperB at h
  rw [Bool.or_eq_true] at h
  rcases h with h | h
  · obtain ⟨ss, rfl, hs⟩ := listP_parts h
    have := stands_ok hs
    refine ⟨?_, ?_⟩
    · show (okD (.str (Str.ofString "list")) && (okD (.tuple ss) && true)) = true
      rw [this.1]
      rfl
    · have := this.2
      simp only [PyData.depth, PyData.depthAll] at this ⊢
      omega
  · obtain ⟨es, l, rs, rfl, ev, as, l1, l2, ll, ln, hs⟩ := rowP_parts h
    have e1 : okD (.tuple es) = true := okL_all fun d hd => (okD_event (List.all_eq_true.mp ev d hd)).1
    have e2 := depth_all fun d hd => (okD_event (List.all_eq_true.mp ev d hd)).2
    have r1 : okD (.tuple (rs.map .tuple)) = true := okL_all fun d hd => by
      obtain ⟨ss, h, rfl⟩ := List.mem_map.mp hd
      exact (stands_ok (hs ss h)).1
    have r2 : PyData.depthAll (rs.map .tuple) ≤ 21 := depth_all fun d hd => by
      obtain ⟨ss, h, rfl⟩ := List.mem_map.mp hd
      exact (stands_ok (hs ss h)).2
    refine ⟨?_, ?_⟩
    · show (okD (.str (Str.ofString "row")) && (okD (.tuple es) && (okD (.int l) && (okD (.tuple (rs.map .tuple)) && true)))) = true
      rw [e1, r1, okD_int l1 l2]
      rfl
    · simp only [PyData.depth, PyData.depthAll]
      omega
mutual
theorem okD_repr : ∀ {d : PyData}, okD d = true → d.showable = true ∧ d.hasDict = false ∧ d.leavesShort 64 = true ∧ 2 * d.bulk ≤ szD d
  | .none, _ => ⟨rfl, rfl, rfl, by simp [PyData.bulk, szD]⟩
  | .bool _, h => nomatch h
  | .int i, h => by
    have hi := intB_i h
    refine ⟨?_, rfl, ?_, by simp [PyData.bulk, szD]⟩
    · exact decide_eq_true (int_small hi.1 hi.2)
    · show decide ((PyData.shown (.int i)).length ≤ 64) = true
      refine decide_eq_true ?_
      have := intL_len hi.1 hi.2
      have e : (intL i).length = (Str.ofString (toString i)).length := Array.length_toList
      show (Str.ofString (toString i)).length ≤ 64
      omega
  | .str z, h => by
    have h : (z.cps.toList.all fun c => decide (c < 128)) = true := h
    refine ⟨rfl, rfl, ?_, ?_⟩
    · show (z.cps.toList.all fun c => decide (c < 16 ^ 8)) = true
      refine List.all_eq_true.mpr fun c hc => decide_eq_true ?_
      have := of_decide_eq_true (List.all_eq_true.mp h c hc)
      omega
    · show 2 * z.cps.size ≤ 2 * z.length + 4
      have : z.cps.size = z.length := rfl
      omega
  | .tuple ds, h => by
    obtain ⟨a, b, c, e⟩ := okL_repr (show okL ds = true from h)
    refine ⟨?_, ?_, ?_, ?_⟩
    · simp only [PyData.showable, a]
    · simp only [PyData.hasDict, b]
    · simp only [PyData.leavesShort, c]
    · simp only [PyData.bulk, szD]
      omega
  | .list _, h => nomatch h
  | .dict _, h => nomatch h
theorem okL_repr : ∀ {ds : List PyData}, okL ds = true → PyData.showableAll ds = true ∧ PyData.hasDictAll ds = false ∧ PyData.leavesShortAll 64 ds = true ∧ 2 * PyData.bulkAll ds ≤ szL ds
  | [], _ => ⟨rfl, rfl, rfl, Nat.le_refl _⟩
  | d :: ds, h => by
    have h : (okD d && okL ds) = true := h
    rw [Bool.and_eq_true] at h
    obtain ⟨a, b, c, e⟩ := okD_repr h.1
    obtain ⟨a2, b2, c2, e2⟩ := okL_repr h.2
    refine ⟨?_, ?_, ?_, ?_⟩
    · simp only [PyData.showableAll, a, a2, Bool.and_self]
    · simp only [PyData.hasDictAll, b, b2, Bool.or_self]
    · simp only [PyData.leavesShortAll, c, c2, Bool.and_self]
    · simp only [PyData.bulkAll, szL]
      omega
end
theorem shown_small {d : PyData} (h : okD d = true) (s : szD d ≤ 330000) : d.shown.length ≤ sizeLine := by
  obtain ⟨_, _, c, e⟩ := okD_repr h
  have := PyData.shown_le_bulk 64 (by decide) d c
  have z : (16777216 : Nat) ≤ sizeLine := by decide
  omega
/-- papers whose text is not too long -/
theorem pap_ok {d : PyData} (h : paperB d = true) (f : fitB 390000 d = true) (s : szD d ≤ 320000) : PapOk d := by
  have ps := paper_sz h
  unfold paperB at h
  rw [Bool.or_eq_true] at h
  have st : ∀ {x : PyData}, standB x = true → fitB 390000 x = true → szD x ≤ 320000 → StOk x := fun {x} h1 h2 h3 => ⟨h1, h2, by have := item_sz 20 (stand_item h1).1; omega⟩
  rcases h with h | h
  · obtain ⟨ss, rfl, hs⟩ := listP_parts h
    obtain ⟨n1, f1⟩ := fit_tup f
    obtain ⟨n2, f2⟩ := fit_tup (f1 (.tuple ss) (by simp))
    have s : 8 + (2 * (Str.ofString "list").length + 4 + 2 + (8 + szL ss + 2 + 0)) ≤ 320000 := s
    exact .list n2 (fun x hx => st (hs x hx) (f2 x hx) (by have := szL_mem x hx; omega)) (by omega)
  · obtain ⟨es, l, rs, rfl, ev, as, l1, l2, ll, ln, hs⟩ := rowP_parts h
    obtain ⟨n1, f1⟩ := fit_tup f
    obtain ⟨n2, f2⟩ := fit_tup (f1 (.tuple es) (by simp))
    obtain ⟨n3, f3⟩ := fit_tup (f1 (.tuple (rs.map .tuple)) (by simp))
    have s : 8 + (2 * (Str.ofString "row").length + 4 + 2 + (8 + szL es + 2 + (64 + 2 + (8 + szL (rs.map .tuple) + 2 + 0)))) ≤ 320000 := s
    refine .row ev as l1 l2 ll ln n2 (fun ss hss => ?_) (by omega)
    have hm : PyData.tuple ss ∈ rs.map PyData.tuple := List.mem_map_of_mem hss
    obtain ⟨n4, f4⟩ := fit_tup (f3 _ hm)
    have z := szL_mem _ hm
    have z : 8 + szL ss + 2 ≤ szL (rs.map .tuple) := z
    exact ⟨n4, fun x hx => st (hs ss hss x hx) (f4 x hx) (by have := szL_mem x hx; omega)⟩
end Wd

set_option Elab.async false
set_option linter.all false
set_option maxRecDepth 100000
set_option maxHeartbeats 4000000
set_option pp.maxSteps 400
set_option pp.deepTerms false
namespace Wd
open PySem L2 TL
open SX (S)

open PySem.Spec PyProof.Rows CwR
/-! ### drawn items -/
theorem item_mono : ∀ {k n : Nat} {d : PyData}, k ≤ n → itemB k d = true → itemB n d = true
  | k, n, d, h, g => by
    rcases no_parts (d := d) with ⟨ds, rfl⟩ | no
    · have hb := itemB_parts g
      have hk : 0 < k := by
        rw [itemB_tup, Bool.and_eq_true, decide_eq_true_eq] at g
        exact g.1
      rw [itemB_tup, Bool.and_eq_true, decide_eq_true_eq]
      exact ⟨by omega, List.all_eq_true.mpr fun e he => item_mono (k := k - 1) (n := n - 1) (by omega) (hb e he)⟩
    · by_cases hn : d = .none
      · subst hn
        cases n <;> rfl
      · rw [itemB_no no hn] at g ⊢
        exact g
termination_by k => k
structure Itm (k w : Nat) (d : PyData) : Prop where
  i : itemB k d = true
  f : fitB 400 d = true
  w : szD d ≤ w
theorem Itm.pure {k w : Nat} {d : PyData} (h : Itm k w d) : pureB d = true := item_pure k h.i
theorem Itm.mono {k w k' w' : Nat} {d : PyData} (h : Itm k w d) (hk : k ≤ k') (hw : w ≤ w') : Itm k' w' d := ⟨item_mono hk h.i, h.f, Nat.le_trans h.w hw⟩
theorem itm_int {i : Int} (h1 : -ten60 < i) (h2 : i < ten60) : Itm 0 64 (.int i) := ⟨by
  show (wordB (.int i) || intB (.int i)) = true
  rw [show intB (.int i) = true from by show (decide (-ten60 < i) && decide (i < ten60)) = true; rw [decide_eq_true h1, decide_eq_true h2]; rfl, Bool.or_true], rfl, Nat.le_refl _⟩
theorem itm_no : Itm 0 64 .none := ⟨rfl, rfl, by decide⟩
theorem itm_str {z : Str} (h : ∀ c ∈ z.cps.toList, low c) (h1 : 1 ≤ z.length) (h2 : z.length ≤ 20) : Itm 0 64 (.str z) := by
  refine ⟨?_, ?_, by show 2 * z.length + 4 ≤ 64; omega⟩
  · show (wordB (.str z) || intB (.str z)) = true
    have : wordB (.str z) = true := by
      show (decide (z.cps.toList ≠ []) && z.cps.toList.all lowB) = true
      have hne : z.cps.toList ≠ [] := fun e => by
        rw [len_cps, e] at h1
        exact absurd h1 (by decide)
      rw [all_low.mpr h, decide_eq_true hne]
      rfl
    rw [this, Bool.true_or]
  · unfold fitB
    rw [Bool.and_eq_true, decide_eq_true_eq]
    refine ⟨by omega, ?_⟩
    have := sign_ok (cs := tl z) fun c hc => by have := h c hc; unfold low at this; omega
    rw [show S (tl z) = z from SX.S_tl z] at this
    exact this
theorem itm_tup {k w : Nat} {ds : List PyData} (h : ∀ d ∈ ds, itemB k d = true ∧ fitB 400 d = true) (l : ds.length ≤ 400) (hw : 8 + szL ds ≤ w) : Itm (k + 1) w (.tuple ds) := by
  refine ⟨List.all_eq_true.mpr fun d hd => (h d hd).1, ?_, hw⟩
  unfold fitB
  rw [Bool.and_eq_true, decide_eq_true_eq]
  exact ⟨l, fitL_of fun d hd => (h d hd).2⟩
def spAtom : Sp := fun vs H Q _ => ∃ B : Addr, vs = [.ref B] ∧ BagAt H B ∧ ∀ d v H', DA [] H' d v → Itm 0 64 d → SB B H H' → BagAt H' B → Q v H'
/-- all but B and L stands -/
def SO (B L : Addr) (H H' : Hp) : Prop := ∀ b o, b ≠ B → b ≠ L → H b = some o → H' b = some o
theorem SO.refl (B L : Addr) (H : Hp) : SO B L H H := fun _ _ _ _ h => h
theorem SO.trans {B L : Addr} {H H1 H2 : Hp} (a : SO B L H H1) (b : SO B L H1 H2) : SO B L H H2 := fun c o n m h => b c o n m (a c o n m h)
theorem SO.of {B L : Addr} {H H' : Hp} (a : SB B H H') : SO B L H H' := fun c o n _ h => a c o n h
theorem SO.upd {B L : Addr} {H H1 : Hp} {o : HO} (a : SO B L H H1) : SO B L H (upd H1 L o) := fun c u n m h => by
  rw [upd_ne m]
  exact a c u n m h
theorem SO.own {B L p : Addr} {H H1 : Hp} {o : HO} (a : SO B L H H1) (hp : H p = none) : SO B L H (L2.upd H1 p o) := fun c u n m h => by
  rw [upd_ne (ne_of_none h hp)]
  exact a c u n m h
theorem TK.so {B L : Addr} {H H' : Hp} {xs : List V} (b : BagAt H B) (l : H L = some (.lst xs)) (s : SO B L H H') : TK H H' := fun a ys e => s _ _ (fun q => by
  obtain ⟨x, y, z, h⟩ := b
  rw [q, h] at e
  cases e) (fun q => by rw [q, l] at e; cases e) e
def spShape (n : Nat) : Sp := fun vs H Q _ => ∃ (B L : Addr) (k m : Nat), k < n ∧ m ≤ 100 ∧ vs = [.ref B, .int (k : Nat), .ref L] ∧ BagAt H B ∧ H L = some (.lst [.int (m : Nat)]) ∧
  ∀ d v H' m', m' ≤ m → DA [] H' d v → Itm k (64 + 480 * (m - m')) d → SO B L H H' → BagAt H' B → H' L = some (.lst [.int (m' : Nat)]) → Q v H'
def spDeep : Sp := fun vs H Q _ => ∃ (B : Addr) (k : Nat), vs = [.ref B, .int (k : Nat)] ∧ BagAt H B ∧ 1 ≤ k ∧ k ≤ 30 ∧ ∀ d v H', DA [] H' d v → Itm k (8 + 78 * (k - 1)) d → SB B H H' → BagAt H' B → Q v H'
section
variable {P : Program} {w : World} {K : PySem.W.Frag} {mg : Str → Option Value} {base : Heap} {fT fP fA : Addr} {fdT fdP dA : FuncData}
abbrev nAtom : List Str := ["bag", "way", "rows", "letters", "turn"]
theorem scAtom : FnScope nAtom ["bag"] (defScope sAtom) := ⟨rfl, rfl, rfl, by decide +kernel, rfl, by decide +kernel, by decide +kernel⟩
theorem onver_low : ∀ c ∈ (Str.ofString "onver").cps.toList, low c := by unfold low; decide +kernel
theorem ok_atom {f : Addr} {fd : FuncData} (F : Fun K "_law_atom" "_law_atom" sAtom f fd) (T : GTxt mg fT fP) (FT : Fun K "_law_throw" "_law_throw" sThrow fT fdT) (bT : Binds K fdT ["bag", "total"] [])
    (FP : Fun K "_law_pick" "_law_pick" sPick fP fdP) (bP : Binds K fdP ["bag", "items"] []) : FnOk P w K mg base CX0 3 f fd ["bag"] spAtom := by
  have GT : FnOk P w K mg base CX0 1 fT fdT ["bag", "total"] spThrow := ok_throw FT T.toTxtA
  have GS : FnOk P w K mg base CX0 2 fP fdP ["bag", "items"] spPickS := ok_pickS FP T.toTxtA FT bT
  have GL : FnOk P w K mg base CX0 2 fP fdP ["bag", "items"] spPickL := ok_pickL FP T.toTxtA FT bT
  refine F.ok scAtom (fun vs H Q E h => ?_) (fun cdv A outer s H vs Q E hr h => ?_)
  · obtain ⟨B, rfl, _⟩ := h
    rfl
  · obtain ⟨B, rfl, hB, k⟩ := h
    have nd := scAtom.nd
    have hr1 : Room 1 _ := hr.mono (by decide)
    have hr2 : Room 2 _ := hr
    refine ⟨_, pss_cons (ps_set (i := 1) nd rfl (Or.inl rfl) (pe_call GT hr1 rfl T.thr FT.kp bT .nil pass0 (pa_cons (pv 0) (pa_cons pe_int pa_nil))))
      (pss_cons (ps_if (pt_cmpR op_eq (pv 1) pe_int (nomark _)) (pss_one (ps_ret pe_non)) pss_nil)
      (pss_cons (ps_if (pt_cmpR op_lt (pv 1) pe_int (nomark _)) (pss_cons (ps_set (i := 2) nd rfl (Or.inl rfl) (pe_lst (pa_cons pe_int (pa_cons pe_int (pa_cons (pe_un un_neg pe_int) (pa_cons (pe_op op_sub (pe_op op_pow pe_int pe_int) pe_int) (pa_cons (pe_op op_sub pe_int (pe_op op_pow pe_int pe_int)) (pa_cons (pe_call GT hr1 rfl T.thr FT.kp bT .nil pass0 (pa_cons (pv 0) (pa_cons (pe_op op_pow pe_int pe_int) pa_nil))) (pa_cons (pe_op op_add pe_int (pe_call GT hr1 rfl T.thr FT.kp bT .nil pass0 (pa_cons (pv 0) (pa_cons pe_int pa_nil)))) pa_nil)))))))))
      (pss_one (ps_ret (pe_call GL hr2 rfl T.pick FP.kp bP .nil pass0 (pa_cons (pv 0) (pa_cons (pv 2) pa_nil)))))) pss_nil)
      (pss_cons (ps_set (i := 3) nd rfl (Or.inr rfl) (pe_call GL hr2 rfl T.pick FP.kp bP .nil pass0 (pa_cons (pv 0) (pa_cons (pe_lst (pa_cons pe_str (pa_cons pe_str (pa_cons pe_str pa_nil)))) pa_nil))))
      (pss_one (ps_ret (pe_join pe_str (pe_lc (own := [("turn", 4)]) (g := gName 4) (tt := tYes) rfl nd (pi_range1 rfl T.range (pa_cons (pe_op op_add pe_int (pe_call GT hr1 rfl T.thr FT.kp bT .nil pass0 (pa_cons (pv 0) (pa_cons pe_int pa_nil)))) pa_nil)) (blkOk_by (N := nAtom) (sc := defScope sAtom) (by decide +kernel)) (fun _ _ _ _ _ => pg_name (i := 4) nd rfl (Or.inl rfl)) (fun _ _ _ _ _ => pts_nil) (fun _ _ _ _ _ => (pe_call GS hr2 rfl T.pick FP.kp bP .nil pass0 (pa_cons (pv 0) (pa_cons (pv 3) pa_nil))))))))))), ?_⟩
    have t6 := t60
    refine ⟨_, rfl, B, _, rfl, hB, by decide, by decide +kernel, fun r H1 r0 r1 s1 b1 => ?_⟩
    refine ⟨_, rfl, rfl, _, rfl, ?_⟩
    refine ite2 (fun _ => k .none .non H1 .non itm_no s1 b1) (fun c1 => ?_)
    refine ⟨_, rfl, _, _, rfl, rfl, _, rfl, ?_⟩
    refine ite2 (fun _ => ?_) (fun c2 => ?_)
    · refine ⟨_, rfl, _, _, rfl, rfl, ⟨by decide, by decide, by decide⟩, _, _, rfl, rfl, _, _, rfl, rfl, ⟨by decide, by decide, by decide⟩, _, _, rfl, rfl, ?_⟩
      refine ⟨_, rfl, _, _, rfl, rfl, ⟨by decide, by decide, by decide⟩, B, _, rfl, b1, by decide +kernel, by decide +kernel, fun q H2 q0 q1 s2 b2 => ?_⟩
      have q1 : q < ten60 := q1
      refine ⟨_, rfl, B, _, rfl, b2, by decide, by decide +kernel, fun u H3 u0 u1 s3 b3 => ⟨_, _, rfl, rfl, by show 7 ≤ sizeLine; decide, fun l hl => ?_⟩⟩
      refine ⟨_, rfl, _, rfl, B, l, [_, _, _, _, _, _, _], rfl, b3.new hl, (b3.ne hl).symm, upd_same, (by show 0 < 7; decide), (by show 7 ≤ 100; decide), fun y H4 hy s4 b4 => ?_⟩
      have s13 := ((s1.trans s2).trans s3).new (o := .lst [.int 0, .int 1, .int (-1), .int (10 ^ (60 : Int).toNat - 1), .int (1 - 10 ^ (60 : Int).toNat), .int q, .int (10 + u)]) hl
      have s14 := s13.trans s4
      simp only [List.mem_cons, List.not_mem_nil, or_false] at hy
      have z : ∀ i : Int, -ten60 < i → i < ten60 → Q (.int i) H4 := fun i h1 h2 => k (.int i) (.int i) H4 (.int i) (itm_int h1 h2) s14 b4
      rcases hy with rfl | rfl | rfl | rfl | rfl | rfl | rfl
      · exact z _ (by decide +kernel) (by decide +kernel)
      · exact z _ (by decide +kernel) (by decide +kernel)
      · exact z _ (by decide +kernel) (by decide +kernel)
      · exact z _ (by decide +kernel) (by decide +kernel)
      · exact z _ (by decide +kernel) (by decide +kernel)
      · exact z _ (by omega) q1
      · exact z _ (by omega) (by omega)
    · refine ⟨_, rfl, by show 3 ≤ sizeLine; decide, fun l hl => ?_⟩
      refine ⟨B, l, [_, _, _], rfl, b1.new hl, (b1.ne hl).symm, upd_same, by decide, by decide, fun y0 H2 hy s2 b2 => ?_⟩
      obtain ⟨y, rfl, hy1, hy2, hy3⟩ : ∃ y : Str, y0 = .str y ∧ 0 < y.length ∧ y.length ≤ 100 ∧ ∀ c ∈ y.cps.toList, low c := by
        simp only [List.mem_cons, List.not_mem_nil, or_false] at hy
        rcases hy with rfl | rfl | rfl
        · exact ⟨_, rfl, by decide, by decide, ab_low⟩
        · exact ⟨_, rfl, by decide, by decide, onver_low⟩
        · exact ⟨_, rfl, by decide, by decide, alpha_low⟩
      have s2' : SB B H H2 := s1.trans fun b o n e => s2 b o n (by rw [upd_ne (ne_of_none e hl)]; exact e)
      refine ⟨⟨_, rfl⟩, _, rfl, B, _, rfl, b2, by decide, by decide +kernel, fun r H3 r0 r1 s3 b3 => ?_⟩
      refine ⟨_, _, rfl, rfl, _, rfl, by omega, by omega, fun D hD => ?_⟩
      refine lc_range (lo := 0) (n := _) (fun i H' => SB B H3 H' ∧ BagAt H' B ∧ ∃ ds : List Nat, ds.length = i ∧ (∀ c ∈ ds, low c) ∧ H' D = some (.lst ((ds.map sgn).map V.str)))
        ⟨(SB.refl B H3).new hD, b3.new hD, [], rfl, (fun z h => by cases h), upd_same⟩ ?_ ?_
      · rintro i H' hi ⟨sb, bg, ds, el, e1, hD'⟩
        refine ⟨rfl, ?_⟩
        refine ⟨_, rfl, _, rfl, B, y, rfl, bg, hy1, hy2, fun c H4 hc s4 b4 => ?_⟩
        have nDB : D ≠ B := (b3.ne hD)
        refine ⟨_, s4 _ _ nDB hD', ?_, ?_⟩
        · rw [List.length_map, List.length_map, el]
          exact small4 (by omega)
        · refine ⟨(sb.trans s4).own hD, b4.other nDB.symm, ds ++ [c], by simp [el], fun z hz => ?_, ?_⟩
          · rcases List.mem_append.mp hz with q | q
            · exact e1 z q
            · rw [List.mem_singleton.mp q]
              exact hy3 c hc
          · rw [upd_same, List.map_append, List.map_append] <;> rfl
      · rintro H4 ⟨s4, b4, ds, el, e1, hD4⟩
        have el9 : 1 ≤ ds.length ∧ ds.length ≤ 12 := by omega
        have one : ∀ z ∈ ds.map sgn, z.length = 1 := fun z hz => by
          obtain ⟨c, _, rfl⟩ := List.mem_map.mp hz
          rfl
        have zl : ((ds.map sgn).map (·.length)).sum + (ds.map sgn).length * (Str.ofString "").length ≤ 16777216 := by
          rw [sum_ones one, List.length_map]
          show ds.length + ds.length * 0 ≤ 16777216
          omega
        refine ⟨_, D, ds.map sgn, rfl, rfl, .inl (SqL.of hD4), zl, ?_⟩
        have tx := join_sgn ds
        have tl : (Txt.join (Str.ofString "") (ds.map sgn)).length = ds.length := by
          rw [len_cps, tx]
        have tlow : ∀ c ∈ (Txt.join (Str.ofString "") (ds.map sgn)).cps.toList, low c := by
          rw [tx]
          exact e1
        exact k _ _ H4 (.str _) (itm_str tlow (by omega) (by omega)) ((s2'.trans s3).trans s4) b4
abbrev nShape : List Str := ["bag", "depth", "left", "turn"]
theorem scShape : FnScope nShape ["bag", "depth", "left"] (defScope sShape) := ⟨rfl, rfl, rfl, by decide +kernel, rfl, by decide +kernel, by decide +kernel⟩
theorem ok_shape {f : Addr} {fd : FuncData} (F : Fun K "_law_shape" "_law_shape" sShape f fd) (T : GTxt mg fT fP) (m : mg "_law_shape" = some (.ref f)) (bd : Binds K fd ["bag", "depth", "left"] []) (FT : Fun K "_law_throw" "_law_throw" sThrow fT fdT) (bT : Binds K fdT ["bag", "total"] []) (A : At P w K mg base 3 "_law_atom" fA dA ["bag"] spAtom) :
    ∀ n, FnOk P w K mg base CX0 (n + 4) f fd ["bag", "depth", "left"] (spShape n)
  | 0 => F.ok scShape (fun vs H Q E ⟨B, L, k, m, _, _, h, _⟩ => by rw [h]; rfl) fun cdv Ao outer s H vs Q E hr ⟨B, L, k, m, hk, _⟩ => absurd hk (by omega)
  | n + 1 => by
    have G := ok_shape F T m bd FT bT A n
    have GT : FnOk P w K mg base CX0 1 fT fdT ["bag", "total"] spThrow := ok_throw FT T.toTxtA
    refine F.ok scShape (fun vs H Q E h => ?_) (fun cdv Ao outer s H vs Q E hr h => ?_)
    · obtain ⟨B, L, k, m, _, _, rfl, _⟩ := h
      rfl
    · obtain ⟨B, L, k, mm, hk, m8, rfl, hB, hL, q⟩ := h
      have nd := scShape.nd
      have hr1 : Room 1 _ := hr.mono (by omega)
      have hr3 : Room 3 _ := hr.mono (by omega)
      have nBL : B ≠ L := fun e => by
        obtain ⟨x, y, z, h⟩ := hB
        rw [e, hL] at h
        injection h with h
        injection h with h
        cases h
      refine ⟨_, pss_cons (ps_if (PW.pt (pw_or (pt_cmpR op_eq (pv 1) pe_int (nomark _)) (pw_or (pt_cmpR op_eq (pe_ix (r := rIxL K) ix_list (pv 2) pe_int (fun _ _ => rfl)) pe_int (nomark _)) (pw_or1 (pt_cmpR op_eq (pe_call GT hr1 rfl T.thr FT.kp bT .nil pass0 (pa_cons (pv 0) (pa_cons pe_int pa_nil))) pe_int (nomark _)))))) (pss_one (ps_ret (pe_call A.g hr3 rfl A.m A.kp A.b .nil pass0 (pa_cons (pv 0) pa_nil)))) pss_nil)
      (pss_cons (ps_asg (pe_op op_sub (pe_ix (r := rIxL K) ix_list (pv 2) pe_int (fun _ _ => rfl)) pe_int) (pg_sub (pv 2) pe_int set_list))
      (pss_one (ps_ret (pe_callTy call_tuple_of (by rfl) T.tuple (by decide +kernel) (pa_cons (pe_lc (own := [("turn", 3)]) (g := gName 3) (tt := tYes) rfl nd (pi_range1 rfl T.range (pa_cons (pe_call GT hr1 rfl T.thr FT.kp bT .nil pass0 (pa_cons (pv 0) (pa_cons pe_int pa_nil))) pa_nil)) (blkOk_by (N := nShape) (sc := defScope sShape) (by decide +kernel)) (fun _ _ _ _ _ => pg_name (i := 3) nd rfl (Or.inl rfl)) (fun _ _ _ _ _ => pts_nil) (fun _ _ _ _ _ => (pe_call G hr rfl m F.kp bd .nil pass0 (pa_cons (pv 0) (pa_cons (pe_op op_sub (pv 1) pe_int) (pa_cons (pv 2) pa_nil)))))) pa_nil))))), ?_⟩
      have atom : ∀ H1, SB B H H1 → BagAt H1 B → spAtom ([.ref B] ++ []) H1 Q E0 := fun H1 s1 b1 => ⟨B, rfl, b1, fun d v H2 dv it s2 b2 => q d v H2 mm (Nat.le_refl _) dv (it.mono (Nat.zero_le _) (by omega)) (.of (s1.trans s2)) b2 ((s1.trans s2) _ _ nBL.symm hL)⟩
      refine ⟨_, rfl, rfl, _, rfl, ?_⟩
      by_cases k0 : k = 0
      · subst k0
        exact iteT ⟨_, rfl, atom H (SB.refl _ _) hB⟩
      rw [decide_eq_false (show V.int (k : Nat) ≠ V.int 0 from fun e => k0 (by injection e with e; omega))]
      refine iteF ⟨_, rfl, L, _, 0, _, rfl, rfl, SqL.of hL, rfl, rfl, _, rfl, ?_⟩
      by_cases m0 : mm = 0
      · subst m0
        exact iteT ⟨_, rfl, atom H (SB.refl _ _) hB⟩
      rw [decide_eq_false (show V.int (mm : Nat) ≠ V.int 0 from fun e => m0 (by injection e with e; omega))]
      refine iteF ⟨_, rfl, B, _, rfl, hB, by decide, by decide +kernel, fun r H1 r0 r1 s1 b1 => ?_⟩
      refine ⟨rfl, _, rfl, ?_⟩
      refine ite2 (fun _ => ⟨_, rfl, atom H1 s1 b1⟩) (fun c => ?_)
      have hL1 := s1 _ _ nBL.symm hL
      refine ⟨_, rfl, L, _, 0, _, rfl, rfl, SqL.of hL1, rfl, _, _, rfl, rfl, _, rfl, L, _, _, 0, rfl, rfl, hL1, rfl, ?_⟩
      have em : ((mm : Nat) : Int) - 1 = ((mm - 1 : Nat) : Int) := by omega
      have hL2 : (upd H1 L (.lst [V.int (((mm : Nat) : Int) - 1)])) L = some (.lst [.int ((mm - 1 : Nat) : Int)]) := by rw [upd_same, em]
      have s2 : SO B L H (upd H1 L (.lst [V.int (((mm : Nat) : Int) - 1)])) := (SO.of s1).upd
      have b2 : BagAt (upd H1 L (.lst [V.int (((mm : Nat) : Int) - 1)])) B := b1.other nBL
      refine ⟨_, rfl, B, _, rfl, b2, by decide, by decide +kernel, fun r H3 r0 r7 s3 b3 => ?_⟩
      have hL3 := s3 _ _ nBL.symm hL2
      have s3 := s2.trans (SO.of s3)
      clear hL2 s2 b2 hL1
      refine ⟨_, rfl, by omega, by omega, fun D hD => ?_⟩
      have nDB : D ≠ B := b3.ne hD
      have nDL : D ≠ L := fun e => by rw [e, hL3] at hD; cases hD
      refine lc_range (lo := 0) (n := r.toNat) (fun i H' => SO B L H3 H' ∧ BagAt H' B ∧ ∃ (m' : Nat) (ds : List PyData) (ys : List V), m' ≤ mm - 1 ∧ H' L = some (.lst [.int (m' : Nat)]) ∧ H' D = some (.lst ys) ∧ DAL [] H' ds ys ∧ ds.length = i ∧ (∀ d ∈ ds, itemB (k - 1) d = true ∧ fitB 400 d = true) ∧ szL ds ≤ i * 66 + 480 * (mm - 1 - m'))
        ⟨(SO.refl B L H3).own hD, b3.new hD, mm - 1, [], [], Nat.le_refl _, (upd_ne nDL.symm).trans hL3, upd_same, .nil, rfl, (fun d h => nomatch h), Nat.zero_le _⟩ ?_ ?_
      · rintro i H' hi ⟨so, bg, m', ds, ys, hm, hl, hd, dl, le, ok, sz⟩
        have ek : ((k : Nat) : Int) - 1 = ((k - 1 : Nat) : Int) := by omega
        refine ⟨rfl, _, rfl, _, rfl, _, _, rfl, rfl, _, rfl, B, L, k - 1, m', by omega, by omega, congrArg (fun i => [V.ref B, V.int i, V.ref L]) ek, bg, hl, fun d v H4 m2 hm2 dv it so4 b4 hl4 => ?_⟩
        have ly := dl.length
        have hd4 := so4 _ _ nDB nDL hd
        have kt := TK.so bg hl so4
        have pl : pureL ds = true := pureL_iff.mpr fun d hd => item_pure _ (ok d hd).1
        have kt2 := TK.lst (ys := ys ++ [v]) hd4
        refine ⟨ys, hd4, small4 (by omega), (so.trans so4).own hD, b4.other nDB.symm, m2, ds ++ [d], ys ++ [v], by omega, (upd_ne nDL.symm).trans hl4, upd_same, ((dl.tk kt pl).tk kt2 pl).snoc (dv.tk kt2 it.pure), by simp [le], fun e he => ?_, ?_⟩
        · rcases List.mem_append.mp he with he | he
          · exact ok e he
          · rw [List.mem_singleton.mp he]
            exact ⟨it.i, it.f⟩
        · rw [szL_app]
          have := it.w
          show szL ds + (szD d + 2 + 0) ≤ _
          omega
      · rintro H4 ⟨so, bg, m', ds, ys, hm, hl, hd, dl, le, ok, sz⟩
        refine ⟨D, ys, rfl, .inl ⟨SqL.of hd, fun p hp => ?_⟩⟩
        have sp := same_new (o := .tup ys) hp
        have it : Itm (k - 1 + 1) (64 + 480 * (mm - m')) (.tuple ds) := itm_tup ok (by omega) (by omega)
        rw [show k - 1 + 1 = k by omega] at it
        refine q (.tuple ds) (.ref p) _ m' (by omega) (.tup (fun z => nomatch z) upd_same (dl.same sp)) it ((s3.trans so).trans (.of (.of sp))) (bg.new hp) (sp _ _ hl)
abbrev nDeep : List Str := ["bag", "depth", "found", "turn"]
theorem scDeep : FnScope nDeep ["bag", "depth"] (defScope sDeep) := ⟨rfl, rfl, rfl, by decide +kernel, rfl, by decide +kernel, by decide +kernel⟩
theorem ok_deep {f : Addr} {fd : FuncData} (F : Fun K "_law_deep" "_law_deep" sDeep f fd) (T : GTxt mg fT fP) (FT : Fun K "_law_throw" "_law_throw" sThrow fT fdT) (bT : Binds K fdT ["bag", "total"] [])
    (FP : Fun K "_law_pick" "_law_pick" sPick fP fdP) (bP : Binds K fdP ["bag", "items"] []) (A : At P w K mg base 3 "_law_atom" fA dA ["bag"] spAtom) : FnOk P w K mg base CX0 4 f fd ["bag", "depth"] spDeep := by
  have GL : FnOk P w K mg base CX0 2 fP fdP ["bag", "items"] spPickL := ok_pickL FP T.toTxtA FT bT
  refine F.ok scDeep (fun vs H Q E h => ?_) (fun cdv Ao outer s H vs Q E hr h => ?_)
  · obtain ⟨B, k, rfl, _⟩ := h
    rfl
  · obtain ⟨B, k, rfl, hB, k1, k30, q⟩ := h
    have nd := scDeep.nd
    have hr2 : Room 2 _ := hr.mono (by decide)
    refine ⟨_, pss_cons (ps_set (i := 2) nd rfl (Or.inl rfl) (pe_tup pa_nil))
      (pss_cons (ps_for PassesOwn.never rfl (pi_range1 rfl T.range (pa_cons (pe_op op_sub (pv 1) pe_int) pa_nil)) (pg_name (i := 3) nd rfl (Or.inl rfl)) (pss_one (ps_set (i := 2) nd rfl (Or.inl rfl) (pe_call GL hr2 rfl T.pick FP.kp bP .nil pass0 (pa_cons (pv 0) (pa_cons (pe_lst (pa_cons (pe_tup (pa_cons (pv 2) pa_nil)) (pa_cons (pe_tup (pa_cons (pv 2) (pa_cons (pe_call A.g hr rfl A.m A.kp A.b .nil pass0 (pa_cons (pv 0) pa_nil)) pa_nil))) (pa_cons (pe_tup (pa_cons (pe_call A.g hr rfl A.m A.kp A.b .nil pass0 (pa_cons (pv 0) pa_nil)) (pa_cons (pv 2) pa_nil))) (pa_cons (pe_tup (pa_cons pe_non (pa_cons (pv 2) (pa_cons (pe_tup pa_nil) pa_nil)))) pa_nil))))) pa_nil))))))
      (pss_one (ps_ret (pv 2)))), ?_⟩
    refine ⟨by show 0 ≤ sizeLine; decide, fun p hp => ?_⟩
    have sp := (SB.refl B H).new (o := .tup []) hp
    have bp := hB.new (o := .tup []) hp
    have dp : DA [] (upd H p (.tup [])) (.tuple []) (.ref p) := .tup (fun z => nomatch z) upd_same .nil
    generalize upd H p (.tup []) = H1 at sp bp dp
    refine ⟨_, rfl, _, _, rfl, rfl, _, rfl, by omega, by omega, ?_⟩
    have en : (((k : Nat) : Int) - 1).toNat = k - 1 := by omega
    rw [en]
    refine for_range (lo := 0) (n := k - 1) (fun i σ H' => ∃ (d : PyData) (v : V) (v3 : Option V), σ = [some (.ref B), some (.int (k : Nat)), some v, v3] ∧ DA [] H' d v ∧ Itm (i + 1) (8 + 78 * i) d ∧ SB B H H' ∧ BagAt H' B)
      ⟨.tuple [], _, _, rfl, dp, ⟨rfl, rfl, by decide⟩, sp, bp⟩ ?_ ?_
    · rintro i σ H2 hi ⟨d, v, v3, rfl, dv, it, s2, b2⟩
      dsimp only
      have pd := it.pure
      -- (found,)
      refine ⟨_, rfl, _, rfl, by show 1 ≤ sizeLine; decide, fun p1 hp1 => ?_⟩
      have n1 := same_new (o := .tup [v]) hp1
      have e1 : DA [] (upd H2 p1 (.tup [v])) (.tuple [d]) (.ref p1) := .tup (fun z => nomatch z) upd_same (.cons (dv.same n1) .nil)
      have s3 := s2.trans (SB.of n1)
      have b3 := b2.new (o := .tup [v]) hp1
      have dv := dv.same n1
      generalize upd H2 p1 (.tup [v]) = H3 at e1 s3 b3 dv
      -- (found, atom)
      refine ⟨_, rfl, _, rfl, B, rfl, b3, fun da va H4 dva ita s4 b4 => ?_⟩
      have k4 := TK.sb b3 s4
      have dv := dv.tk k4 pd
      refine ⟨by show 2 ≤ sizeLine; decide, fun p2 hp2 => ?_⟩
      have n2 := same_new (o := .tup [v, va]) hp2
      have e2 : DA [] (upd H4 p2 (.tup [v, va])) (.tuple [d, da]) (.ref p2) := .tup (fun z => nomatch z) upd_same (.cons (dv.same n2) (.cons (dva.same n2) .nil))
      have e1 := (e1.tk k4 (pureL_iff.mpr (by simpa using pd))).same n2
      have s5 := (s3.trans s4).trans (SB.of n2)
      have b5 := b4.new (o := .tup [v, va]) hp2
      have dv := dv.same n2
      generalize upd H4 p2 (.tup [v, va]) = H5 at e1 e2 s5 b5 dv
      -- (atom, found)
      refine ⟨_, rfl, B, rfl, b5, fun dc vc H6 dvc itc s6 b6 => ⟨_, rfl, by show 2 ≤ sizeLine; decide, fun p3 hp3 => ?_⟩⟩
      have k6 := TK.sb b5 s6
      have pu1 : pureB (.tuple [d]) = true := pureL_iff.mpr (by simpa using pd)
      have pu2 : pureB (.tuple [d, da]) = true := pureL_iff.mpr (by simpa using ⟨pd, ita.pure⟩)
      have dv := dv.tk k6 pd
      have n3 := same_new (o := .tup [vc, v]) hp3
      have e3 : DA [] (upd H6 p3 (.tup [vc, v])) (.tuple [dc, d]) (.ref p3) := .tup (fun z => nomatch z) upd_same (.cons (dvc.same n3) (.cons (dv.same n3) .nil))
      have e1 := (e1.tk k6 pu1).same n3
      have e2 := (e2.tk k6 pu2).same n3
      have s7 := (s5.trans s6).trans (SB.of n3)
      have b7 := b6.new (o := .tup [vc, v]) hp3
      have dv := dv.same n3
      generalize upd H6 p3 (.tup [vc, v]) = H7 at e1 e2 e3 s7 b7 dv
      -- (None, found, ())
      refine ⟨_, rfl, by show 0 ≤ sizeLine; decide, fun p0 hp0 => ⟨by show 3 ≤ sizeLine; decide, fun p4 hp4 => ?_⟩⟩
      have n0 := same_new (o := .tup []) hp0
      have e0 : DA [] (upd H7 p0 (.tup [])) (.tuple []) (.ref p0) := .tup (fun z => nomatch z) upd_same .nil
      have n4 := same_new (o := .tup [.non, v, .ref p0]) hp4
      have e4 : DA [] (upd (upd H7 p0 (.tup [])) p4 (.tup [.non, v, .ref p0])) (.tuple [.none, d, .tuple []]) (.ref p4) := .tup (fun z => nomatch z) upd_same (.cons .non (.cons ((dv.same n0).same n4) (.cons (e0.same n4) .nil)))
      have n04 := n0.trans n4
      have e1 := e1.same n04
      have e2 := e2.same n04
      have e3 := e3.same n04
      have s8 := s7.trans (SB.of n04)
      have b8 := (b7.new (o := .tup []) hp0).new (o := .tup [.non, v, .ref p0]) hp4
      generalize upd (upd H7 p0 (.tup [])) p4 (.tup [.non, v, .ref p0]) = H8 at e1 e2 e3 e4 s8 b8
      refine ⟨by show 4 ≤ sizeLine; decide, fun l hl => ?_⟩
      have nl := same_new (o := .lst [.ref p1, .ref p2, .ref p3, .ref p4]) hl
      have e1 := e1.same nl
      have e2 := e2.same nl
      have e3 := e3.same nl
      have e4 := e4.same nl
      have s9 := s8.trans (SB.of nl)
      have b9 := b8.new (o := .lst [.ref p1, .ref p2, .ref p3, .ref p4]) hl
      refine ⟨B, l, [_, _, _, _], rfl, b9, (b8.ne hl).symm, upd_same, (by show 0 < 4; decide), (by show 4 ≤ 100; decide), fun y H10 hy s10 b10 => ?_⟩
      have k10 := TK.sb b9 s10
      have s10 := s9.trans s10
      have pu3 : pureB (.tuple [dc, d]) = true := pureL_iff.mpr (by simpa using ⟨itc.pure, pd⟩)
      have pu4 : pureB (.tuple [.none, d, .tuple []]) = true := pureL_iff.mpr (by simpa using ⟨rfl, pd, rfl⟩)
      have w := it.w
      have wa := ita.w
      have wc := itc.w
      have i1 := it.i
      have f1 := it.f
      have ia := item_mono (Nat.zero_le (i + 1)) ita.i
      have ic := item_mono (Nat.zero_le (i + 1)) itc.i
      have fin : ∀ {ds : List PyData}, (∀ d ∈ ds, itemB (i + 1) d = true ∧ fitB 400 d = true) → ds.length ≤ 400 → szL ds ≤ 78 * (i + 1) → Itm (i + 1 + 1) (8 + 78 * (i + 1)) (.tuple ds) := fun h1 h2 h3 => itm_tup h1 h2 (by omega)
      simp only [List.mem_cons, List.not_mem_nil, or_false] at hy
      rcases hy with rfl | rfl | rfl | rfl
      · refine ⟨_, _, _, rfl, e1.tk k10 pu1, fin (fun x hx => ?_) (by show 1 ≤ 400; decide) (by show szD d + 2 + 0 ≤ _; omega), s10, b10⟩
        rw [List.mem_singleton.mp hx]
        exact ⟨i1, f1⟩
      · refine ⟨_, _, _, rfl, e2.tk k10 pu2, fin (fun x hx => ?_) (by show 2 ≤ 400; decide) (by show szD d + 2 + (szD da + 2 + 0) ≤ _; omega), s10, b10⟩
        have hx : x = d ∨ x = da := by simpa using hx
        rcases hx with rfl | rfl
        · exact ⟨i1, f1⟩
        · exact ⟨ia, ita.f⟩
      · refine ⟨_, _, _, rfl, e3.tk k10 pu3, fin (fun x hx => ?_) (by show 2 ≤ 400; decide) (by show szD dc + 2 + (szD d + 2 + 0) ≤ _; omega), s10, b10⟩
        have hx : x = dc ∨ x = d := by simpa using hx
        rcases hx with rfl | rfl
        · exact ⟨ic, itc.f⟩
        · exact ⟨i1, f1⟩
      · refine ⟨_, _, _, rfl, e4.tk k10 pu4, fin (fun x hx => ?_) (by show 3 ≤ 400; decide) (by show 4 + 2 + (szD d + 2 + (8 + 0 + 2 + 0)) ≤ _; omega), s10, b10⟩
        have hx : x = .none ∨ x = d ∨ x = .tuple [] := by simpa using hx
        rcases hx with rfl | rfl | rfl
        · exact ⟨by cases i <;> rfl, rfl⟩
        · exact ⟨i1, f1⟩
        · exact ⟨rfl, rfl⟩
    · rintro σ H2 ⟨d, v, v3, rfl, dv, it, s2, b2⟩
      rw [show k - 1 + 1 = k by omega] at it
      exact ⟨_, rfl, q d v H2 dv it s2 b2⟩
theorem scNumber : FnScope ["bag"] ["bag"] (defScope sNumber) := ⟨rfl, rfl, rfl, by decide +kernel, rfl, by decide +kernel, by decide +kernel⟩
theorem ok_number {f : Addr} {fd : FuncData} (F : Fun K "_law_number" "_law_number" sNumber f fd) (T : GTxt mg fT fP) (FT : Fun K "_law_throw" "_law_throw" sThrow fT fdT) (bT : Binds K fdT ["bag", "total"] [])
    (FP : Fun K "_law_pick" "_law_pick" sPick fP fdP) (bP : Binds K fdP ["bag", "items"] []) : FnOk P w K mg base CX0 3 f fd ["bag"] spValue := by
  have GT : FnOk P w K mg base CX0 1 fT fdT ["bag", "total"] spThrow := ok_throw FT T.toTxtA
  have GL : FnOk P w K mg base CX0 2 fP fdP ["bag", "items"] spPickL := ok_pickL FP T.toTxtA FT bT
  refine F.ok scNumber (fun vs H Q E h => ?_) (fun cdv A outer s H vs Q E hr h => ?_)
  · obtain ⟨B, rfl, _⟩ := h
    rfl
  · obtain ⟨B, rfl, hB, k⟩ := h
    have nd := scNumber.nd
    have hr1 : Room 1 _ := hr.mono (by decide)
    refine ⟨_, pss_one (ps_ret (pe_call GL hr rfl T.pick FP.kp bP .nil pass0 (pa_cons (pv 0) (pa_cons (pe_lst (pa_cons pe_int (pa_cons pe_int (pa_cons pe_int (pa_cons (pe_un un_neg pe_int) (pa_cons pe_int (pa_cons (pe_call GT hr1 rfl T.thr FT.kp bT .nil pass0 (pa_cons (pv 0) (pa_cons pe_int pa_nil))) (pa_cons (pe_op op_sub (pe_op op_pow pe_int pe_int) pe_int) (pa_cons (pe_op op_sub pe_int (pe_op op_pow pe_int pe_int)) (pa_cons (pe_un un_neg (pe_call GT hr1 rfl T.thr FT.kp bT .nil pass0 (pa_cons (pv 0) (pa_cons (pe_op op_pow pe_int pe_int) pa_nil)))) pa_nil)))))))))) pa_nil)))), ?_⟩
    have t6 := t60
    refine ⟨_, rfl, _, rfl, _, rfl, B, _, rfl, hB, by decide, by decide +kernel, fun u H1 u0 u1 s1 b1 => ?_⟩
    refine ⟨_, _, rfl, rfl, ⟨by decide, by decide, by decide⟩, _, _, rfl, rfl, _, _, rfl, rfl, ⟨by decide, by decide, by decide⟩, _, _, rfl, rfl, ?_⟩
    refine ⟨_, rfl, _, _, rfl, rfl, ⟨by decide, by decide, by decide⟩, B, _, rfl, b1, by decide +kernel, by decide +kernel, fun q H2 q0 q1 s2 b2 => ?_⟩
    have q1 : q < 10 ^ 40 := q1
    have q2 : q < ten60 := Int.lt_trans q1 (by decide +kernel)
    refine ⟨_, rfl, by show 9 ≤ sizeLine; decide, fun l hl => ?_⟩
    have nl := same_new (o := .lst [.int 0, .int 0, .int 1, .int (-1), .int 2, .int u, .int (10 ^ (60 : Int).toNat - 1), .int (1 - 10 ^ (60 : Int).toNat), .int (-q)]) hl
    have s3 := (s1.trans s2).trans (SB.of nl)
    refine ⟨B, l, [_, _, _, _, _, _, _, _, _], rfl, b2.new hl, (b2.ne hl).symm, upd_same, (by show 0 < 9; decide), (by show 9 ≤ 100; decide), fun y H4 hy s4 b4 => ?_⟩
    have s4 := s3.trans s4
    simp only [List.mem_cons, List.not_mem_nil, or_false] at hy
    have z : ∀ i : Int, -ten60 < i → i < ten60 → Q (.int i) H4 := fun i h1 h2 => k i H4 h1 h2 s4 b4
    rcases hy with rfl | rfl | rfl | rfl | rfl | rfl | rfl | rfl | rfl
    · exact z _ (by decide +kernel) (by decide +kernel)
    · exact z _ (by decide +kernel) (by decide +kernel)
    · exact z _ (by decide +kernel) (by decide +kernel)
    · exact z _ (by decide +kernel) (by decide +kernel)
    · exact z _ (by decide +kernel) (by decide +kernel)
    · exact z _ (by omega) (by omega)
    · exact z _ (by decide +kernel) (by decide +kernel)
    · exact z _ (by decide +kernel) (by decide +kernel)
    · exact z (-q) (by omega) (by omega)
end
end Wd

set_option Elab.async false
set_option linter.all false
set_option maxRecDepth 100000
set_option maxHeartbeats 4000000
set_option pp.maxSteps 400
set_option pp.deepTerms false
namespace Wd
open PySem L2 TL
open SX (S)

open PySem.Spec PyProof.Rows CwR
/-! ### drawn stands and papers -/
/-- a comprehension of drawn data -/
theorem lc_drawR {lo : Int} {n : Nat} (p : PyData → Prop) (pu : ∀ d, p d → pureB d = true) {B : Addr} {g : TG} {te : TE} {vs : List Nat} {σ : L2.St} {H1 : Hp} {D : Addr} {Qd : Hp → Prop} (hB : BagAt H1 B) (hD : H1 D = none) (hn : n ≤ 400000)
    (hs : ∀ i H' (kT : VK), i < n → SB B H1 H' → BagAt H' B → (∀ d v H4, SB B H' H4 → BagAt H4 B → DA [] H4 d v → p d → kT v H4) → g (.int (lo + i)) (wipe σ vs) H' fun σ2 H2 => wipe σ2 vs = wipe σ vs ∧ te σ2 H2 kT)
    (hd : ∀ H ys ds, SB B H1 H → BagAt H B → H D = some (.lst ys) → DAL [] H ds ys → ds.length = n → (∀ d ∈ ds, p d) → Qd H) :
    ∃ W : Nat → Nat → Hp → Prop, (∃ m, W 0 m (upd H1 D (.lst []))) ∧ ∀ i m H, W i m H →
      ((Itr lo n).stop i H ∧ Qd H) ∨ ((Itr lo n).go i H ∧ ∃ Nx : Hp → Prop, (∀ H', Nx H' → ∃ m', m' < m ∧ W (i + 1) m' H') ∧ ∀ x H', (Itr lo n).yld i H x H' → g x (wipe σ vs) H' fun σ2 H2 => wipe σ2 vs = wipe σ vs ∧ tYes σ2 H2 fun b H3 =>
        if b = true then te σ2 H3 fun y H4 => ∃ acc, H4 D = some (.lst acc) ∧ acc.length < sizeLine ∧ Nx (upd H4 D (.lst (acc ++ [y]))) else Nx H3) := by
  have nDB : D ≠ B := hB.ne hD
  refine lc_range (lo := lo) (n := n) (fun i H' => SB B H1 H' ∧ BagAt H' B ∧ ∃ (ds : List PyData) (ys : List V), H' D = some (.lst ys) ∧ DAL [] H' ds ys ∧ ds.length = i ∧ ∀ d ∈ ds, p d)
    ⟨(SB.refl B H1).new hD, hB.new hD, [], [], upd_same, .nil, rfl, fun d h => nomatch h⟩ ?_ fun H ⟨s, b, ds, ys, h1, h2, h3, h4⟩ => hd H ys ds s b h1 h2 h3 h4
  rintro i H hi ⟨s, b, ds, ys, h1, h2, h3, h4⟩
  have pl : pureL ds = true := pureL_iff.mpr fun d hd => pu d (h4 d hd)
  refine hs i H _ hi s b fun d v H4 s4 b4 dv pd => ⟨ys, s4 _ _ nDB h1, small4 (by rw [← h2.length]; omega), (s.trans s4).own hD, b4.other nDB.symm, ds ++ [d], ys ++ [v], upd_same, ?_, by simp [h3], fun e he => ?_⟩
  · have k2 := TK.lst (ys := ys ++ [v]) (s4 _ _ nDB h1)
    exact ((h2.tk (TK.sb b s4) pl).tk k2 pl).snoc (dv.tk k2 (pu d pd))
  · rcases List.mem_append.mp he with he | he
    · exact h4 e he
    · rw [List.mem_singleton.mp he]
      exact pd
def IntD (d : PyData) : Prop := ∃ i, d = .int i ∧ -ten60 < i ∧ i < ten60
theorem IntD.pure {d : PyData} (h : IntD d) : pureB d = true := by
  obtain ⟨i, rfl, _⟩ := h
  rfl
theorem IntD.int {d : PyData} (h : IntD d) : intB d = true ∧ szD d = 64 ∧ fitB 400 d = true := by
  obtain ⟨i, rfl, h1, h2⟩ := h
  refine ⟨?_, rfl, rfl⟩
  show (decide (-ten60 < i) && decide (i < ten60)) = true
  rw [decide_eq_true h1, decide_eq_true h2]
  rfl
def RowI (n : Nat) (d : PyData) : Prop := ∃ ds, d = .tuple ds ∧ ds.length = n ∧ ∀ x ∈ ds, IntD x
theorem RowI.pure {n : Nat} {d : PyData} (h : RowI n d) : pureB d = true := by
  obtain ⟨ds, rfl, _, h⟩ := h
  exact pureL_iff.mpr fun x hx => (h x hx).pure
theorem RowI.sz {n : Nat} {d : PyData} (hn : n ≤ 13) (h : RowI n d) : areB (n : Nat) d = true ∧ szD d ≤ 866 ∧ fitB 400 d = true := by
  obtain ⟨ds, rfl, l, h⟩ := h
  refine ⟨?_, ?_, ?_⟩
  · show (decide ((ds.length : Int) = (n : Nat)) && ds.all intB) = true
    rw [l, decide_eq_true rfl, List.all_eq_true.mpr fun x hx => (h x hx).int.1]
    rfl
  · have := szL_all (m := 64) fun x hx => Nat.le_of_eq (h x hx).int.2.1
    rw [l] at this
    show 8 + szL ds ≤ 866
    have : n * (64 + 2) ≤ 13 * 66 := Nat.mul_le_mul_right 66 hn
    omega
  · unfold fitB
    rw [Bool.and_eq_true, decide_eq_true_eq]
    exact ⟨by omega, fitL_of fun x hx => (h x hx).int.2.2⟩
structure StD (d : PyData) : Prop where
  s : standB d = true
  f : fitB 400 d = true
  w : szD d ≤ 19700
theorem StD.pure {d : PyData} (h : StD d) : pureB d = true := item_pure 20 (stand_item h.s).1
theorem std_mk {a b : PyData} {cs rs : List PyData} {n : Nat} (ha : Itm 19 3904 a) (hb : Itm 19 3904 b) (hc : ∀ x ∈ cs, IntD x) (lc : cs.length ≤ 8) (n1 : 1 ≤ n) (n13 : n ≤ 13) (lr : rs.length = n) (hr : ∀ x ∈ rs, RowI n x) : StD (.tuple [a, b, .tuple cs, .tuple rs]) := by
  have c1 : cs.all intB = true := List.all_eq_true.mpr fun x hx => (hc x hx).int.1
  have c2 := szL_all (m := 64) fun x hx => Nat.le_of_eq (hc x hx).int.2.1
  have c3 : fitB 400 (.tuple cs) = true := by
    unfold fitB
    rw [Bool.and_eq_true, decide_eq_true_eq]
    exact ⟨by omega, fitL_of fun x hx => (hc x hx).int.2.2⟩
  have r2 := szL_all (m := 866) fun x hx => ((hr x hx).sz n13).2.1
  have r3 : fitB 400 (.tuple rs) = true := by
    unfold fitB
    rw [Bool.and_eq_true, decide_eq_true_eq]
    exact ⟨by omega, fitL_of fun x hx => ((hr x hx).sz n13).2.2⟩
  refine ⟨?_, ?_, ?_⟩
  · show (itemB 19 a && (itemB 19 b && (cs.all intB && (decide (1 ≤ rs.length) && (decide (rs.length ≤ 13) && rs.all (areB (rs.length : Nat))))))) = true
    rw [ha.i, hb.i, c1, lr, decide_eq_true n1, decide_eq_true n13, List.all_eq_true.mpr fun x hx => ((hr x hx).sz n13).1]
    rfl
  · show (decide (4 ≤ 400) && (fitB 400 a && (fitB 400 b && (fitB 400 (.tuple cs) && (fitB 400 (.tuple rs) && true))))) = true
    rw [ha.f, hb.f, c3, r3]
    rfl
  · have h1 := ha.w
    have h2 := hb.w
    have h3 : cs.length * (64 + 2) ≤ 8 * 66 := Nat.mul_le_mul_right 66 lc
    have h4 : rs.length * (866 + 2) ≤ 13 * 868 := Nat.mul_le_mul_right 868 (by omega)
    show 8 + (szD a + 2 + (szD b + 2 + (8 + szL cs + 2 + (8 + szL rs + 2 + 0)))) ≤ 19700
    omega
def spStand : Sp := fun vs H Q _ => ∃ B : Addr, vs = [.ref B] ∧ BagAt H B ∧ ∀ d v H', DA [] H' d v → StD d → SB B H H' → BagAt H' B → Q v H'
def spStands : Sp := fun vs H Q _ => ∃ (B : Addr) (most : Nat), vs = [.ref B, .int (most : Nat)] ∧ BagAt H B ∧ most ≤ 4 ∧ ∀ ss v H', DA [] H' (.tuple ss) v → ss.length ≤ most → (∀ d ∈ ss, StD d) → SB B H H' → BagAt H' B → Q v H'
structure PapD (d : PyData) : Prop where
  p : paperB d = true
  f : fitB 400 d = true
  w : szD d ≤ 158500
  u : pureB d = true
  n : ∀ x ∈ paperLs d, x.length ≤ 19800
def spPaper : Sp := fun vs H Q _ => ∃ B : Addr, vs = [.ref B] ∧ BagAt H B ∧ ∀ d v H', DA [] H' d v → PapD d → SB B H H' → BagAt H' B → Q v H'
theorem event_small {d : PyData} (h : eventB d = true) : szD d ≤ 170 := by
  obtain ⟨t, u, l, v, rfl, t1, t2, hu, hl, v1, v2⟩ := event_parts h
  have a := (name_signs hu).2.2
  have b := (letter_signs hl).2
  have c : (tl u).length = u.length := Array.length_toList
  have e : (tl l).length = l.length := Array.length_toList
  show 8 + (64 + 2 + (2 * u.length + 4 + 2 + (2 * l.length + 4 + 2 + (64 + 2 + 0)))) ≤ 170
  omega
theorem fit_mk {m : Nat} {ds : List PyData} (l : ds.length ≤ m) (h : ∀ d ∈ ds, fitB m d = true) : fitB m (.tuple ds) = true := by
  unfold fitB
  rw [Bool.and_eq_true, decide_eq_true_eq]
  exact ⟨l, fitL_of h⟩
theorem stand_line {d : PyData} (h : StD d) : (itemT d).length ≤ 19800 := by
  have := item_sz 20 (stand_item h.s).1
  have := h.w
  omega
theorem pap_list {ss : List PyData} (l : ss.length ≤ 4) (h : ∀ d ∈ ss, StD d) : PapD (.tuple [.str (Str.ofString "list"), .tuple ss]) := by
  have a : ss.all standB = true := List.all_eq_true.mpr fun d hd => (h d hd).s
  have b := szL_all (m := 19700) fun d hd => (h d hd).w
  have c : ss.length * (19700 + 2) ≤ 4 * 19702 := Nat.mul_le_mul_right 19702 l
  have f := fit_mk (m := 400) (by omega) fun d hd => (h d hd).f
  refine ⟨?_, ?_, ?_, ?_, fun x hx => ?_⟩
  · show ((isStrB (Str.ofString "list") (.str (Str.ofString "list")) && ss.all standB) || _) = true
    rw [a]
    rfl
  · refine fit_mk (by show 2 ≤ 400; decide) fun d hd => ?_
    have hd : d = .str (Str.ofString "list") ∨ d = .tuple ss := by simpa using hd
    rcases hd with rfl | rfl
    · decide +kernel
    · exact f
  · show 8 + (2 * 4 + 4 + 2 + (8 + szL ss + 2 + 0)) ≤ 158500
    omega
  · show (true && (pureL ss && true)) = true
    rw [pureL_iff.mpr fun d hd => (h d hd).pure]
    rfl
  · have hx : x ∈ listW :: ss.map itemT := hx
    rcases List.mem_cons.mp hx with rfl | hx
    · decide +kernel
    · obtain ⟨d, hd, rfl⟩ := List.mem_map.mp hx
      exact stand_line (h d hd)
theorem pap_row {es : List PyData} {l : Int} {rs : List PyData} (row : RowD es) (n4 : es.length ≤ 4) (ll : lastT (.tuple es) ≤ l) (l0 : 0 ≤ l) (l1 : l < ten60) (lr : rs.length = es.length) (h : ∀ x ∈ rs, ∃ ss, x = .tuple ss ∧ ss.length ≤ 2 ∧ ∀ d ∈ ss, StD d) : PapD (.tuple [.str (Str.ofString "row"), .tuple es, .int l, .tuple rs]) := by
  have z : (0 : Int) < ten60 := by decide
  have a : rs.all standsB = true := List.all_eq_true.mpr fun x hx => by
    obtain ⟨ss, rfl, _, h⟩ := h x hx
    exact List.all_eq_true.mpr fun d hd => (h d hd).s
  have b := szL_all (ds := es) (m := 170) fun d hd => event_small (List.all_eq_true.mp row.ev d hd)
  have b2 : es.length * (170 + 2) ≤ 4 * 172 := Nat.mul_le_mul_right 172 n4
  have fe := fit_mk (m := 400) (ds := es) (by omega) fun d hd => fit_up (by decide) (event_fit (List.all_eq_true.mp row.ev d hd))
  have c := szL_all (ds := rs) (m := 39412) fun x hx => by
    obtain ⟨ss, rfl, l2, h⟩ := h x hx
    have b := szL_all (m := 19700) fun d hd => (h d hd).w
    have c : ss.length * (19700 + 2) ≤ 2 * 19702 := Nat.mul_le_mul_right 19702 l2
    show 8 + szL ss ≤ 39412
    omega
  have c2 : rs.length * (39412 + 2) ≤ 4 * 39414 := Nat.mul_le_mul_right 39414 (by omega)
  have fr := fit_mk (m := 400) (ds := rs) (by omega) fun x hx => by
    obtain ⟨ss, rfl, l2, h⟩ := h x hx
    exact fit_mk (by omega) fun d hd => (h d hd).f
  refine ⟨?_, ?_, ?_, ?_, fun x hx => ?_⟩
  · show (_ || (isStrB (Str.ofString "row") (.str (Str.ofString "row")) && ((es.all eventB && ascI (es.map evT)) && (((decide (-ten60 < l) && decide (l < ten60)) && decide (lastT (.tuple es) ≤ l)) && (decide (rs.length = es.length) && rs.all standsB))))) = true
    rw [row.ev, row.as, decide_eq_true (show -ten60 < l by omega), decide_eq_true l1, decide_eq_true ll, decide_eq_true lr, a]
    exact Bool.or_true _
  · refine fit_mk (by show 4 ≤ 400; decide) fun d hd => ?_
    have hd : d = .str (Str.ofString "row") ∨ d = .tuple es ∨ d = .int l ∨ d = .tuple rs := by simpa using hd
    rcases hd with rfl | rfl | rfl | rfl
    · decide +kernel
    · exact fe
    · rfl
    · exact fr
  · show 8 + (2 * 3 + 4 + 2 + (8 + szL es + 2 + (64 + 2 + (8 + szL rs + 2 + 0)))) ≤ 158500
    omega
  · show (true && (pureL es && (true && (pureL rs && true)))) = true
    rw [row.pure, pureL_iff.mpr fun x hx => by
      obtain ⟨ss, rfl, l2, h⟩ := h x hx
      exact pureL_iff.mpr fun d hd => (h d hd).pure]
    rfl
  · have hx : x ∈ rowW :: (es.map evL ++ untilL l :: (rs.map partsD).flatMap roundLs) := hx
    rcases List.mem_cons.mp hx with rfl | hx
    · decide +kernel
    · rcases List.mem_append.mp hx with hx | hx
      · obtain ⟨d, hd, rfl⟩ := List.mem_map.mp hx
        exact Nat.le_trans (event_line (List.all_eq_true.mp row.ev d hd)).1 (by decide)
      · rcases List.mem_cons.mp hx with rfl | hx
        · exact Nat.le_trans (until_line (by omega) l1).1 (by decide)
        · obtain ⟨ss, hs, hx⟩ := List.mem_flatMap.mp hx
          obtain ⟨y, hy, rfl⟩ := List.mem_map.mp hs
          obtain ⟨ts, rfl, _, ht⟩ := h y hy
          rcases List.mem_cons.mp hx with rfl | hx
          · decide +kernel
          · obtain ⟨d, hd, rfl⟩ := List.mem_map.mp hx
            exact stand_line (ht d hd)
def standScope : Scope := { kind := ScopeKind.function, names := [(Str.ofString ".0", NameKind.local), (Str.ofString "i", NameKind.local), (Str.ofString "tuple", NameKind.globalImplicit), (Str.ofString "range", NameKind.globalImplicit), (Str.ofString "bag", NameKind.cell), (Str.ofString "size", NameKind.cell)], isGenerator := false, isCoroutine := false }
section
variable {P : Program} {w : World} {K : PySem.W.Frag} {mg : Str → Option Value} {base : Heap} {fT fP fU fSh fDe fSd fSs fTa fLa : Addr} {fdT fdP dU dSh dDe dSd dSs dTa dLa : FuncData}
abbrev nStand : List Str := ["bag", "size", "rows", "classes", "shapes", "i", "j", "turn"]
theorem scStand : FnScope nStand ["bag"] (defScope sStand) := ⟨rfl, rfl, rfl, by decide +kernel, rfl, by decide +kernel, by decide +kernel⟩
theorem ok_stand {f : Addr} {fd : FuncData} (F : Fun K "_law_stand" "_law_stand" sStand f fd) (T : GTxt mg fT fP) (FT : Fun K "_law_throw" "_law_throw" sThrow fT fdT) (bT : Binds K fdT ["bag", "total"] [])
    (FP : Fun K "_law_pick" "_law_pick" sPick fP fdP) (bP : Binds K fdP ["bag", "items"] []) (U : At P w K mg base 3 "_law_number" fU dU ["bag"] spValue) (Sh : At P w K mg base 11 "_law_shape" fSh dSh ["bag", "depth", "left"] (spShape 7)) (De : At P w K mg base 4 "_law_deep" fDe dDe ["bag", "depth"] spDeep) :
    FnOk P w K mg base CX0 12 f fd ["bag"] spStand := by
  have GT : FnOk P w K mg base CX0 1 fT fdT ["bag", "total"] spThrow := ok_throw FT T.toTxtA
  have GL : FnOk P w K mg base CX0 2 fP fdP ["bag", "items"] spPickL := ok_pickL FP T.toTxtA FT bT
  refine F.ok scStand (fun vs H Q E h => ?_) (fun cdv Ao outer s H vs Q E hr h => ?_)
  · obtain ⟨B, rfl, _⟩ := h
    rfl
  · obtain ⟨B, rfl, hB, k⟩ := h
    have nd := scStand.nd
    have hr1 : Room 1 _ := hr.mono (by decide)
    have hr2 : Room 2 _ := hr.mono (by decide)
    have hr3 : Room 3 _ := hr.mono (by decide)
    have hr4 : Room 4 _ := hr.mono (by decide)
    have hr11 : Room 11 _ := hr.mono (by decide)
    refine ⟨_, pss_cons (ps_set (i := 1) nd rfl (Or.inr rfl) (pe_call GL hr2 rfl T.pick FP.kp bP .nil pass0 (pa_cons (pv 0) (pa_cons (pe_lst (pa_cons pe_int (pa_cons pe_int (pa_cons pe_int (pa_cons pe_int (pa_cons pe_int (pa_cons pe_int (pa_cons pe_int (pa_cons pe_int (pa_cons pe_int pa_nil)))))))))) pa_nil))))
      (pss_cons (ps_setLc (i := 2) (own := [("i", 5)]) (g := gName 5) (tt := tYes) rfl nd rfl rfl (sw_true rfl rfl rfl (by decide +kernel)) (pi_range1 rfl T.range (pa_cons (pv 1) pa_nil)) (blkOk_by (N := nStand) (sc := (defScope sStand)) (by decide +kernel)) (fun _ _ _ _ _ => pg_name (i := 5) nd rfl (Or.inl rfl)) (fun _ _ _ _ _ => pts_nil) (fun _ _ _ _ _ => (pe_callTy (call_tupO (K := K) rfl) (by rfl) T.tuple (by decide +kernel) (pa_cons (pe_lc (own := [("j", 6)]) (g := gName 6) (tt := tYes) rfl nd (pi_range1 rfl T.range (pa_cons (pv 1) pa_nil)) (blkOk_by (N := nStand) (sc := standScope) (by decide +kernel)) (fun _ _ _ _ _ => pg_name (i := 6) nd rfl (Or.inl rfl)) (fun _ _ _ _ _ => pts_nil) (fun _ _ _ _ _ => (pe_ifExp (pt_cmpR op_lt (pv 1) pe_int (nomark _)) (pe_call U.g hr3 rfl U.m U.kp U.b .nil pass0 (pa_cons (pv 0) pa_nil)) (pe_call GT hr1 rfl T.thr FT.kp bT .nil pass0 (pa_cons (pv 0) (pa_cons pe_int pa_nil)))))) pa_nil))))
      (pss_cons (ps_set (i := 3) nd rfl (Or.inl rfl) (pe_callTy call_tuple_of (by rfl) T.tuple (by decide +kernel) (pa_cons (pe_lc (own := [("turn", 7)]) (g := gName 7) (tt := tYes) rfl nd (pi_range1 rfl T.range (pa_cons (pe_call GT hr1 rfl T.thr FT.kp bT .nil pass0 (pa_cons (pv 0) (pa_cons pe_int pa_nil))) pa_nil)) (blkOk_by (N := nStand) (sc := (defScope sStand)) (by decide +kernel)) (fun _ _ _ _ _ => pg_name (i := 7) nd rfl (Or.inl rfl)) (fun _ _ _ _ _ => pts_nil) (fun _ _ _ _ _ => (pe_call U.g hr3 rfl U.m U.kp U.b .nil pass0 (pa_cons (pv 0) pa_nil)))) pa_nil)))
      (pss_cons (ps_setLc (i := 4) (own := [("turn", 7)]) (g := gName 7) (tt := tYes) rfl nd rfl rfl (sw_true rfl rfl rfl (by decide +kernel)) (pi_range1 rfl T.range (pa_cons pe_int pa_nil)) (blkOk_by (N := nStand) (sc := (defScope sStand)) (by decide +kernel)) (fun _ _ _ _ _ => pg_name (i := 7) nd rfl (Or.inl rfl)) (fun _ _ _ _ _ => pts_nil) (fun _ _ _ _ _ => (pe_call Sh.g hr11 rfl Sh.m Sh.kp Sh.b .nil pass0 (pa_cons (pv 0) (pa_cons (pe_op op_add pe_int (pe_call GT hr1 rfl T.thr FT.kp bT .nil pass0 (pa_cons (pv 0) (pa_cons pe_int pa_nil)))) (pa_cons (pe_lst (pa_cons pe_int pa_nil)) pa_nil))))))
      (pss_cons (ps_if (pt_cmpR op_eq (pe_call GT hr1 rfl T.thr FT.kp bT .nil pass0 (pa_cons (pv 0) (pa_cons pe_int pa_nil))) pe_int (nomark _)) (pss_one (ps_asg (pe_call De.g hr4 rfl De.m De.kp De.b .nil pass0 (pa_cons (pv 0) (pa_cons pe_int pa_nil))) (pg_sub (pv 4) (pe_call GT hr1 rfl T.thr FT.kp bT .nil pass0 (pa_cons (pv 0) (pa_cons pe_int pa_nil))) set_list))) pss_nil)
      (pss_one (ps_ret (pe_tup (pa_cons (pe_ix ix_list (pv 4) pe_int (fun _ _ => rfl)) (pa_cons (pe_ix ix_list (pv 4) pe_int (fun _ _ => rfl)) (pa_cons (pv 3) (pa_cons (pe_callTy call_tuple_of (by rfl) T.tuple (by decide +kernel) (pa_cons (pv 2) pa_nil)) pa_nil))))))))))), ?_⟩
    have t6 := t60
    refine ⟨_, rfl, by show 9 ≤ sizeLine; decide, fun l hl => ?_⟩
    have nl := same_new (o := .lst [.int 1, .int 1, .int 2, .int 2, .int 3, .int 4, .int 5, .int 8, .int 13]) hl
    refine ⟨B, l, [_, _, _, _, _, _, _, _, _], rfl, hB.new hl, (hB.ne hl).symm, upd_same, (by show 0 < 9; decide), (by show 9 ≤ 100; decide), fun y H1 hy s1 b1 => ?_⟩
    have s1 := (SB.of nl).trans s1
    obtain ⟨n, rfl, n1, n13⟩ : ∃ n : Nat, y = .int (n : Nat) ∧ 1 ≤ n ∧ n ≤ 13 := by
      simp only [List.mem_cons, List.not_mem_nil, or_false] at hy
      rcases hy with rfl | rfl | rfl | rfl | rfl | rfl | rfl | rfl | rfl
      · exact ⟨1, rfl, by decide, by decide⟩
      · exact ⟨1, rfl, by decide, by decide⟩
      · exact ⟨2, rfl, by decide, by decide⟩
      · exact ⟨2, rfl, by decide, by decide⟩
      · exact ⟨3, rfl, by decide, by decide⟩
      · exact ⟨4, rfl, by decide, by decide⟩
      · exact ⟨5, rfl, by decide, by decide⟩
      · exact ⟨8, rfl, by decide, by decide⟩
      · exact ⟨13, rfl, by decide, by decide⟩
    -- rows
    refine ⟨_, rfl, _, rfl, by omega, by omega, fun R hR => ?_⟩
    have nRB := b1.ne hR
    rw [Int.toNat_natCast]
    refine lc_drawR (lo := 0) (n := n) (RowI n) (fun d h => h.pure) b1 hR (by omega) ?_ ?_
    · intro i H2 kT hi s2 b2 kk
      refine ⟨rfl, _, rfl, _, rfl, by omega, by omega, fun D hD => ?_⟩
      have nDB := b2.ne hD
      rw [Int.toNat_natCast]
      refine lc_drawR (lo := 0) (n := n) IntD (fun d h => h.pure) b2 hD (by omega) ?_ ?_
      · intro j H3 kT3 hj s3 b3 kk3
        refine ⟨rfl, _, rfl, _, _, rfl, rfl, _, rfl, ?_⟩
        refine ite2 (fun _ => ?_) (fun _ => ?_)
        · exact ⟨_, rfl, B, rfl, b3, fun i H4 h1 h2 s4 b4 => kk3 (.int i) (.int i) H4 s4 b4 (.int i) ⟨i, rfl, h1, h2⟩⟩
        · exact ⟨_, rfl, B, _, rfl, b3, by decide, by decide +kernel, fun r H4 r0 r1 s4 b4 => kk3 (.int r) (.int r) H4 s4 b4 (.int r) ⟨r, rfl, by omega, by omega⟩⟩
      · intro H3 ys ds s3 b3 hd3 dl le pd
        refine ⟨D, ys, rfl, .inl ⟨SqL.of hd3, fun q hq => ?_⟩⟩
        have sq := same_new (o := .tup ys) hq
        exact kk (.tuple ds) (.ref q) _ (s3.trans (SB.of sq)) (b3.new hq) (.tup (fun z => nomatch z) upd_same (dl.same sq)) ⟨ds, rfl, le, pd⟩
    intro H2 rv rs s2 b2 hR2 drs lr okr
    have s2 := s1.trans s2
    have plr : pureL rs = true := pureL_iff.mpr fun d hd => (okr d hd).pure
    -- classes
    refine ⟨_, rfl, B, _, rfl, b2, by decide, by decide +kernel, fun r H3 r0 r8 s3 b3 => ?_⟩
    have hR3 := s3 _ _ nRB hR2
    have drs := drs.tk (TK.sb b2 s3) plr
    have s3 := s2.trans s3
    refine ⟨_, rfl, by omega, by omega, fun C hC => ?_⟩
    have nCB := b3.ne hC
    refine lc_drawR (lo := 0) (n := r.toNat) IntD (fun d h => h.pure) b3 hC (by omega) ?_ ?_
    · intro j H4 kT hj s4 b4 kk
      exact ⟨rfl, _, rfl, B, rfl, b4, fun i H5 h1 h2 s5 b5 => kk (.int i) (.int i) H5 s5 b5 (.int i) ⟨i, rfl, h1, h2⟩⟩
    intro H4 cv cs s4 b4 hC4 dcs lc okc
    have hR4 := s4 _ _ nRB hR3
    have drs := drs.tk (TK.sb b3 s4) plr
    have s4 := s3.trans s4
    refine ⟨C, cv, rfl, .inl ⟨SqL.of hC4, fun ct hct => ?_⟩⟩
    have nct := same_new (o := .tup cv) hct
    have hR5 := nct _ _ hR4
    have drs := drs.same nct
    have dct : DA [] (upd H4 ct (.tup cv)) (.tuple cs) (.ref ct) := .tup (fun z => nomatch z) upd_same (dcs.same nct)
    have s5 := s4.trans (SB.of nct)
    have b5 := b4.new (o := .tup cv) hct
    have pct : pureB (.tuple cs) = true := pureL_iff.mpr fun d hd => (okc d hd).pure
    generalize upd H4 ct (.tup cv) = H5 at hR5 drs dct s5 b5
    clear hC4 dcs hR4 hR3 hR2
    -- shapes
    refine ⟨_, rfl, by decide, by decide, fun Z hZ => ?_⟩
    have nZB := b5.ne hZ
    refine lc_drawR (lo := 0) (n := (2 : Int).toNat) (Itm 6 3904) (fun d h => h.pure) b5 hZ (by decide) ?_ ?_
    · intro j H6 kT hj s6 b6 kk
      refine ⟨rfl, _, rfl, _, rfl, B, _, rfl, b6, by decide, by decide +kernel, fun u H7 u0 u6 s7 b7 => ⟨_, _, rfl, rfl, by show 1 ≤ sizeLine; decide, fun L hL => ?_⟩⟩
      have nL := same_new (o := .lst [.int 8]) hL
      have eu : (1 : Int) + u = ((1 + u.toNat : Nat) : Int) := by omega
      refine ⟨B, L, 1 + u.toNat, 8, by omega, by decide, congrArg (fun i => [V.ref B, V.int i, V.ref L]) eu, b7.new hL, upd_same, fun d v H8 m' hm dv it so b8 hl8 => ?_⟩
      refine kk d v H8 (fun b o n e => ?_) b8 dv (it.mono (by omega) (by omega))
      have e7 := s7 b o n e
      exact so b o n (ne_of_none e7 hL) (nL _ _ e7)
    intro H6 zv zs s6 b6 hZ6 dzs lz okz
    have hR6 := s6 _ _ nRB hR5
    have drs := drs.tk (TK.sb b5 s6) plr
    have dct := dct.tk (TK.sb b5 s6) pct
    have hZ0 : H Z = none := SB.none s5 nZB hZ
    have s6 := s5.trans s6
    obtain ⟨d1, d2, v1, v2, rfl, rfl, da1, da2⟩ := two2 dzs lz
    have it1 := okz d1 (by simp)
    have it2 := okz d2 (by simp)
    -- the end
    have fin : ∀ {H7 : Hp} {d1 d2 : PyData} {v1 v2 : V} {q p : Addr}, SB B H H7 → TK H6 H7 → BagAt H7 B → Itm 19 3904 d1 → Itm 19 3904 d2 → DA [] H7 d1 v1 → DA [] H7 d2 v2 → H7 q = none → (upd H7 q (.tup rv)) p = none → Q (.ref p) (upd (upd H7 q (.tup rv)) p (.tup [v1, v2, .ref ct, .ref q])) := by
      intro H7 d1 d2 v1 v2 q p s7 kt b7 i1 i2 a1 a2 hq hp
      have nq := same_new (o := .tup rv) hq
      have np := same_new (o := .tup [v1, v2, .ref ct, .ref q]) hp
      have nqp := nq.trans np
      refine k (.tuple [d1, d2, .tuple cs, .tuple rs]) _ _ ?_ (std_mk i1 i2 okc (by omega) n1 n13 lr okr) (s7.trans (SB.of nqp)) ((b7.new hq).new hp)
      exact .tup (fun z => nomatch z) upd_same (.cons (a1.same nqp) (.cons (a2.same nqp) (.cons ((dct.tk kt pct).same nqp) (.cons (.tup (fun z => nomatch z) (np _ _ upd_same) ((drs.tk kt plr).same nqp)) .nil))))
    refine ⟨_, rfl, B, _, rfl, b6, by decide, by decide +kernel, fun r2 H7 _ _ s7 b7 => ?_⟩
    have hZ7 := s7 _ _ nZB hZ6
    have hR7 := s7 _ _ nRB hR6
    have k7 := TK.sb b6 s7
    have a1 := da1.tk k7 it1.pure
    have a2 := da2.tk k7 it2.pure
    refine ⟨rfl, _, rfl, ?_⟩
    refine ite2 (fun _ => ?_) (fun _ => ?_)
    · refine ⟨_, rfl, B, 19, rfl, b7, by decide, by decide, fun dd vd H8 dvd itd s8 b8 => ?_⟩
      have hZ8 := s8 _ _ nZB hZ7
      have hR8 := s8 _ _ nRB hR7
      have k8 := TK.sb b7 s8
      have a1 := a1.tk k8 it1.pure
      have a2 := a2.tk k8 it2.pure
      refine ⟨_, rfl, _, rfl, B, _, rfl, b8, by decide, by decide +kernel, fun u H9 u0 u2 s9 b9 => ?_⟩
      have hZ9 := s9 _ _ nZB hZ8
      have hR9 := s9 _ _ nRB hR8
      have k9 := TK.sb b8 s9
      have a1 := a1.tk k9 it1.pure
      have a2 := a2.tk k9 it2.pure
      have dvd := dvd.tk k9 itd.pure
      have nRZ : R ≠ Z := fun e => by rw [e, hZ] at hR5; cases hR5
      have itd : Itm 19 3904 dd := itd.mono (Nat.le_refl _) (by decide)
      have s69 := s6.trans ((s7.trans s8).trans s9)
      have u01 : u = 0 ∨ u = 1 := by omega
      rcases u01 with rfl | rfl
      · refine ⟨Z, _, _, 0, rfl, rfl, hZ9, rfl, ?_⟩
        have kz := TK.lst (ys := [vd, v2]) hZ9
        have hRz : (upd H9 Z (.lst [vd, v2])) R = _ := (upd_ne nRZ).trans hR9
        have hZz : (upd H9 Z (.lst [vd, v2])) Z = _ := upd_same
        refine ⟨_, rfl, Z, _, 0, _, rfl, rfl, SqL.of hZz, rfl, _, rfl, Z, _, 1, _, rfl, rfl, SqL.of hZz, rfl, _, rfl, _, rfl, R, rv, rfl, .inl ⟨SqL.of hRz, fun q hq => ⟨by show 4 ≤ sizeLine; decide, fun p hp => ?_⟩⟩⟩
        exact fin (s69.own hZ0) ((k7.trans k8).trans (k9.trans kz)) (b9.other nZB.symm) itd (it2.mono (by decide) (Nat.le_refl _)) (dvd.tk kz itd.pure) (a2.tk kz it2.pure) hq hp
      · refine ⟨Z, _, _, 1, rfl, rfl, hZ9, rfl, ?_⟩
        have kz := TK.lst (ys := [v1, vd]) hZ9
        have hRz : (upd H9 Z (.lst [v1, vd])) R = _ := (upd_ne nRZ).trans hR9
        have hZz : (upd H9 Z (.lst [v1, vd])) Z = _ := upd_same
        refine ⟨_, rfl, Z, _, 0, _, rfl, rfl, SqL.of hZz, rfl, _, rfl, Z, _, 1, _, rfl, rfl, SqL.of hZz, rfl, _, rfl, _, rfl, R, rv, rfl, .inl ⟨SqL.of hRz, fun q hq => ⟨by show 4 ≤ sizeLine; decide, fun p hp => ?_⟩⟩⟩
        exact fin (s69.own hZ0) ((k7.trans k8).trans (k9.trans kz)) (b9.other nZB.symm) (it1.mono (by decide) (Nat.le_refl _)) itd (a1.tk kz it1.pure) (dvd.tk kz itd.pure) hq hp
    · refine ⟨_, rfl, Z, _, 0, _, rfl, rfl, SqL.of hZ7, rfl, _, rfl, Z, _, 1, _, rfl, rfl, SqL.of hZ7, rfl, _, rfl, _, rfl, R, rv, rfl, .inl ⟨SqL.of hR7, fun q hq => ⟨by show 4 ≤ sizeLine; decide, fun p hp => ?_⟩⟩⟩
      exact fin (s6.trans s7) k7 b7 (it1.mono (by decide) (Nat.le_refl _)) (it2.mono (by decide) (Nat.le_refl _)) a1 a2 hq hp
end
end Wd

set_option Elab.async false
set_option linter.all false
set_option maxRecDepth 100000
set_option maxHeartbeats 4000000
set_option pp.maxSteps 400
set_option pp.deepTerms false
namespace Wd
open PySem L2 TL
open SX (S)

open PySem.Spec PyProof.Rows CwR
theorem LayO.sb {B d : Addr} {H H' : Hp} (b : BagAt H B) (s : SB B H H') (h : LayO H d) : LayO H' d := by
  obtain ⟨kvs, h1, h2, h3, h4, h5⟩ := h
  have nd : d ≠ B := fun q => by
    obtain ⟨x, y, z, e⟩ := b
    rw [q, e] at h1
    cases h1
  refine ⟨kvs, s _ _ nd h1, h2, h3, h4, fun p hp => ?_⟩
  obtain ⟨a, t, ds, e, q, r⟩ := h5 p hp
  exact ⟨a, t, ds, e, TK.sb b s _ _ q, r⟩
section
variable {P : Program} {w : World} {K : PySem.W.Frag} {mg : Str → Option Value} {base : Heap} {fT fP fU fSh fDe fSd fSs fTa fLa : Addr} {fdT fdP dU dSh dDe dSd dSs dTa dLa : FuncData}
abbrev nStands : List Str := ["bag", "most", "turn"]
theorem scStands : FnScope nStands ["bag", "most"] (defScope sStands) := ⟨rfl, rfl, rfl, by decide +kernel, rfl, by decide +kernel, by decide +kernel⟩
theorem ok_stands {f : Addr} {fd : FuncData} (F : Fun K "_law_stands" "_law_stands" sStands f fd) (T : GTxt mg fT fP) (FT : Fun K "_law_throw" "_law_throw" sThrow fT fdT) (bT : Binds K fdT ["bag", "total"] [])
    (Sd : At P w K mg base 12 "_law_stand" fSd dSd ["bag"] spStand) : FnOk P w K mg base CX0 13 f fd ["bag", "most"] spStands := by
  have GT : FnOk P w K mg base CX0 1 fT fdT ["bag", "total"] spThrow := ok_throw FT T.toTxtA
  refine F.ok scStands (fun vs H Q E h => ?_) (fun cdv Ao outer s H vs Q E hr h => ?_)
  · obtain ⟨B, m, rfl, _⟩ := h
    rfl
  · obtain ⟨B, m, rfl, hB, m4, k⟩ := h
    have nd := scStands.nd
    have hr1 : Room 1 _ := hr.mono (by decide)
    refine ⟨_, pss_one (ps_ret (pe_callTy call_tuple_of (by rfl) T.tuple (by decide +kernel) (pa_cons (pe_lc (own := [("turn", 2)]) (g := gName 2) (tt := tYes) rfl nd (pi_range1 rfl T.range (pa_cons (pe_call GT hr1 rfl T.thr FT.kp bT .nil pass0 (pa_cons (pv 0) (pa_cons (pe_op op_add (pv 1) pe_int) pa_nil))) pa_nil)) (blkOk_by (N := nStands) (sc := (defScope sStands)) (by decide +kernel)) (fun _ _ _ _ _ => pg_name (i := 2) nd rfl (Or.inl rfl)) (fun _ _ _ _ _ => pts_nil) (fun _ _ _ _ _ => (pe_call Sd.g hr rfl Sd.m Sd.kp Sd.b .nil pass0 (pa_cons (pv 0) pa_nil)))) pa_nil))), ?_⟩
    have t61 : (100 : Int) ≤ ten61 := by decide +kernel
    refine ⟨_, rfl, _, rfl, _, _, rfl, rfl, B, _, rfl, hB, by omega, by omega, fun r H1 r0 r1 s1 b1 => ?_⟩
    refine ⟨_, rfl, by omega, by omega, fun D hD => ?_⟩
    refine lc_drawR (lo := 0) (n := r.toNat) StD (fun d h => h.pure) b1 hD (by omega) ?_ ?_
    · intro j H2 kT hj s2 b2 kk
      exact ⟨rfl, _, rfl, B, rfl, b2, fun d v H3 dv sd s3 b3 => kk d v H3 s3 b3 dv sd⟩
    · intro H2 ys ds s2 b2 hD2 dl le ok
      refine ⟨D, ys, rfl, .inl ⟨SqL.of hD2, fun q hq => ?_⟩⟩
      have sq := same_new (o := .tup ys) hq
      exact k ds (.ref q) _ (.tup (fun z => nomatch z) upd_same (dl.same sq)) (by omega) ok ((s1.trans s2).trans (SB.of sq)) (b2.new hq)
abbrev nPaper : List Str := ["bag", "events", "late", "turn"]
theorem scPaper : FnScope nPaper ["bag"] (defScope sPaper) := ⟨rfl, rfl, rfl, by decide +kernel, rfl, by decide +kernel, by decide +kernel⟩
theorem ok_paper {f : Addr} {fd : FuncData} (F : Fun K "_law_paper" "_law_paper" sPaper f fd) (T : GTxt mg fT fP) (FT : Fun K "_law_throw" "_law_throw" sThrow fT fdT) (bT : Binds K fdT ["bag", "total"] [])
    (FP : Fun K "_law_pick" "_law_pick" sPick fP fdP) (bP : Binds K fdP ["bag", "items"] []) (Ss : At P w K mg base 13 "_law_stands" fSs dSs ["bag", "most"] spStands) (Ta : At P w K mg base 4 "_law_tape" fTa dTa ["bag", "layout", "most", "gap"] spLTape) (La : At P w K mg base 4 "_law_layout" fLa dLa ["bag", "sources", "letters"] spLayout) :
    FnOk P w K mg base CX0 14 f fd ["bag"] spPaper := by
  have GT : FnOk P w K mg base CX0 1 fT fdT ["bag", "total"] spThrow := ok_throw FT T.toTxtA
  have GL : FnOk P w K mg base CX0 2 fP fdP ["bag", "items"] spPickL := ok_pickL FP T.toTxtA FT bT
  refine F.ok scPaper (fun vs H Q E h => ?_) (fun cdv Ao outer s H vs Q E hr h => ?_)
  · obtain ⟨B, rfl, _⟩ := h
    rfl
  · obtain ⟨B, rfl, hB, k⟩ := h
    have nd := scPaper.nd
    have hr1 : Room 1 _ := hr.mono (by decide)
    have hr2 : Room 2 _ := hr.mono (by decide)
    have hr4 : Room 4 _ := hr.mono (by decide)
    refine ⟨_, pss_cons (ps_if (pt_cmpR op_eq (pe_call GT hr1 rfl T.thr FT.kp bT .nil pass0 (pa_cons (pv 0) (pa_cons pe_int pa_nil))) pe_int (nomark _)) (pss_one (ps_ret (pe_tup (pa_cons pe_str (pa_cons (pe_call Ss.g hr rfl Ss.m Ss.kp Ss.b .nil pass0 (pa_cons (pv 0) (pa_cons pe_int pa_nil))) pa_nil))))) pss_nil)
      (pss_cons (ps_asg (pe_call Ta.g hr4 rfl Ta.m Ta.kp Ta.b .nil pass0 (pa_cons (pv 0) (pa_cons (pe_call La.g hr4 rfl La.m La.kp La.b .nil pass0 (pa_cons (pv 0) (pa_cons pe_int (pa_cons pe_int pa_nil)))) (pa_cons pe_int (pa_cons (pe_call GL hr2 rfl T.pick FP.kp bP .nil pass0 (pa_cons (pv 0) (pa_cons (pe_lst (pa_cons pe_int (pa_cons pe_int (pa_cons (pe_op op_pow pe_int pe_int) pa_nil)))) pa_nil))) pa_nil))))) (pg_tup rfl (pgs_cons (pg_name (i := 1) nd rfl (Or.inl rfl)) (pgs_cons (pg_name (i := 2) nd rfl (Or.inl rfl)) pgs_nil))))
      (pss_one (ps_ret (pe_tup (pa_cons pe_str (pa_cons (pv 1) (pa_cons (pv 2) (pa_cons (pe_callTy call_tuple_of (by rfl) T.tuple (by decide +kernel) (pa_cons (pe_lc (own := [("turn", 3)]) (g := gName 3) (tt := tYes) rfl nd (pi_range1 rfl T.range (pa_cons (pe_callB call_len_seq (by rfl) T.len PySem.boot_len (pa_cons (pv 1) pa_nil)) pa_nil)) (blkOk_by (N := nPaper) (sc := (defScope sPaper)) (by decide +kernel)) (fun _ _ _ _ _ => pg_name (i := 3) nd rfl (Or.inl rfl)) (fun _ _ _ _ _ => pts_nil) (fun _ _ _ _ _ => (pe_call Ss.g hr rfl Ss.m Ss.kp Ss.b .nil pass0 (pa_cons (pv 0) (pa_cons pe_int pa_nil))))) pa_nil)) pa_nil)))))))), ?_⟩
    refine ⟨_, rfl, B, _, rfl, hB, by decide, by decide +kernel, fun r H1 r0 r1 s1 b1 => ?_⟩
    refine ⟨rfl, _, rfl, ?_⟩
    refine ite2 (fun _ => ?_) (fun _ => ?_)
    · refine ⟨_, rfl, B, 4, rfl, b1, by decide, fun ss v H2 dv l4 ok s2 b2 => ⟨by show 2 ≤ sizeLine; decide, fun p hp => ?_⟩⟩
      have np := same_new (o := .tup [.str (Str.ofString "list"), v]) hp
      exact k _ (.ref p) _ (.tup (fun z => nomatch z) upd_same (.cons (.str _) (.cons (dv.same np) .nil))) (pap_list l4 ok) ((s1.trans s2).trans (SB.of np)) (b2.new hp)
    · refine ⟨_, rfl, _, rfl, B, 4, 2, rfl, b1, by decide, by decide, by decide, by decide, fun d H2 nd2 lay s2 b2 => ?_⟩
      have lay := lay.lay
      refine ⟨_, rfl, _, _, rfl, rfl, ⟨by decide, by decide, by decide⟩, by show 3 ≤ sizeLine; decide, fun l hl => ?_⟩
      have nl := same_new (o := .lst [.int 1, .int 3, .int (10 ^ (58 : Int).toNat)]) hl
      refine ⟨B, l, [_, _, _], rfl, b2.new hl, (b2.ne hl).symm, upd_same, (by show 0 < 3; decide), (by show 3 ≤ 100; decide), fun y H3 hy s3 b3 => ?_⟩
      have s3 := (SB.of nl).trans s3
      have lay := lay.sb b2 s3
      obtain ⟨g, rfl, g1, g58⟩ : ∃ g : Int, y = .int g ∧ 1 ≤ g ∧ g ≤ 10 ^ 58 := by
        simp only [List.mem_cons, List.not_mem_nil, or_false] at hy
        rcases hy with rfl | rfl | rfl
        · exact ⟨_, rfl, by decide, by decide +kernel⟩
        · exact ⟨_, rfl, by decide, by decide +kernel⟩
        · exact ⟨_, rfl, by decide +kernel, by decide +kernel⟩
      refine ⟨B, d, 4, g, rfl, b3, lay, by decide, by decide, g1, g58, fun v es lt H4 dv row few ll l0 l59 s4 b4 => ?_⟩
      cases dv with
      | @tup p xs _ np ep dl =>
      cases dl with
      | @cons _ _ v1 _ d1 dl =>
      cases dl with
      | @cons _ _ v2 _ d2 dl =>
        cases dl
        cases d2
        cases d1 with
        | @tup b ys _ nb eb de =>
          have lb := de.length
          have n4 : es.length ≤ 4 := by omega
          refine ⟨p, _, rfl, SqT.of ep, rfl, _, _, rfl, _, _, rfl, rfl, ?_⟩
          refine ⟨_, rfl, _, rfl, _, rfl, b, ys, rfl, .inr (SqT.of eb), _, rfl, by omega, by omega, fun D hD => ?_⟩
          rw [Int.toNat_natCast]
          refine lc_drawR (lo := 0) (n := ys.length) (fun x => ∃ ss, x = .tuple ss ∧ ss.length ≤ 2 ∧ ∀ d ∈ ss, StD d) (fun d h => by
            obtain ⟨ss, rfl, _, h⟩ := h
            exact pureL_iff.mpr fun x hx => (h x hx).pure) b4 hD (by omega) ?_ ?_
          · intro j H5 kT hj s5 b5 kk
            exact ⟨rfl, _, rfl, B, 2, rfl, b5, by decide, fun ss v H6 dv l2 ok s6 b6 => kk (.tuple ss) v H6 s6 b6 dv ⟨ss, rfl, l2, ok⟩⟩
          · intro H5 zs rs s5 b5 hD5 dr lr ok
            refine ⟨D, zs, rfl, .inl ⟨SqL.of hD5, fun q hq => ⟨by show 4 ≤ sizeLine; decide, fun z hz => ?_⟩⟩⟩
            have nq := same_new (o := .tup zs) hq
            have nz := same_new (o := .tup [.str (Str.ofString "row"), .ref b, .int lt, .ref q]) hz
            have nqz := nq.trans nz
            have k5 := TK.sb b4 s5
            have p59 : (10 : Int) ^ 59 < ten60 := by decide +kernel
            refine k (.tuple [.str (Str.ofString "row"), .tuple es, .int lt, .tuple rs]) (.ref z) _ ?_ (pap_row row n4 ll l0 (by omega) (by omega) ok) ((((s1.trans s2).trans s3).trans s4).trans (s5.trans (SB.of nqz))) ((b5.new hq).new hz)
            exact .tup (fun z => nomatch z) upd_same (.cons (.str _) (.cons (.tup (fun z => nomatch z) (nqz _ _ (k5 _ _ eb)) ((de.tk k5 row.pure).same nqz)) (.cons (.int _) (.cons (.tup (fun z => nomatch z) (nz _ _ upd_same) (dr.same nqz)) .nil))))
end
end Wd

set_option Elab.async false
set_option linter.all false
set_option maxRecDepth 100000
set_option maxHeartbeats 4000000
set_option pp.maxSteps 400
set_option pp.deepTerms false
namespace Wd
open PySem L2 TL
open SX (S)

open PySem.Spec PyProof.Rows
/-! ### the items of texts, by the law -/
def wv (x : List Nat) : List PyData := if x = [45] then [.none] else if wordB (.str (S x)) = true then [.str (S x)] else match intD x with
  | .int i => [.int i]
  | _ => []
theorem intD_back {i : Int} (h1 : -ten60 < i) (h2 : i < ten60) : intD (intL i) = .int i := by
  unfold intD
  rw [int_back h1 h2]
  show (if intL i = intL i ∧ -ten60 < i ∧ i < ten60 then PyData.int i else .none) = _
  rw [if_pos ⟨rfl, h1, h2⟩]
theorem intL_no {i : Int} (h1 : -ten60 < i) (h2 : i < ten60) : intL i ≠ [45] := fun e => by
  obtain ⟨cs, h, dg, l1, _⟩ := intL_dig h1 h2
  rw [e] at h
  rcases h with h | h
  · subst h
    have := (dg 45 (by simp)).1
    omega
  · cases cs with
    | nil => exact absurd l1 (by decide)
    | cons c r => cases h
theorem wv_item {k : Nat} {d : PyData} (no : ∀ ds, d ≠ .tuple ds) (h : itemB k d = true) : wv (itemT d) = [d] := by
  rcases flat_is no h with rfl | ⟨z, rfl, hz⟩ | ⟨i, rfl, h1, h2⟩
  · exact if_pos rfl
  · have pw := plain_word hz
    have n45 : tl z ≠ [45] := fun e => by
      have := word_sign hz 45 (by rw [e]; simp)
      omega
    show (if tl z = [45] then [PyData.none] else if wordB (.str (S (tl z))) = true then [PyData.str (S (tl z))] else _) = _
    rw [if_neg n45, if_pos pw.2, show S (tl z) = z from SX.S_tl z]
  · show (if intL i = [45] then [PyData.none] else if wordB (.str (S (intL i))) = true then [PyData.str (S (intL i))] else match intD (intL i) with | .int i => [PyData.int i] | _ => []) = _
    rw [if_neg (intL_no h1 h2), if_neg (by rw [int_noword h1 h2]; decide), intD_back h1 h2]
theorem wv_cases (x : List Nat) : wv x = [] ∨ ∃ d, wv x = [d] ∧ itemT d = x ∧ (∀ ds, d ≠ .tuple ds) ∧ (∀ k, itemB k d = true) ∧ Plain x := by
  unfold wv
  split
  · rename_i h
    exact .inr ⟨_, rfl, h.symm, (fun ds e => nomatch e), fun k => by cases k <;> rfl, by rw [h]; exact ⟨by decide, by decide, by decide, by decide⟩⟩
  · split
    · rename_i h
      have e : itemT (.str (S x)) = x := by
        show tl (S x) = x
        simp [tl, S]
      refine .inr ⟨_, rfl, e, (fun ds e => nomatch e), fun k => ?_, ?_⟩
      · rw [itemB_no (d := .str (S x)) (fun ds e => (by cases e)) (fun e => (by cases e)), h]
        rfl
      · have := (plain_word h).1
        rwa [show tl (S x) = x from e] at this
    · rcases intD_cases x with h | ⟨i, h⟩
      · rw [h]
        exact .inl rfl
      · rw [h]
        obtain ⟨h1, h2, h3⟩ := intD_int h
        have hi : intB (.int i) = true := by
          show (decide (-ten60 < i) && decide (i < ten60)) = true
          rw [decide_eq_true h1, decide_eq_true h2]
          rfl
        refine .inr ⟨_, rfl, h3.symm, (fun ds e => nomatch e), fun k => ?_, by rw [h3]; exact plain_int h1 h2⟩
        rw [itemB_no (d := .int i) (fun ds e => (by cases e)) (fun e => (by cases e)), hi, Bool.or_true]
/-- nothing, or a blank or a bracket -/
def Sep (r : List Nat) : Prop := ∀ c, r.head? = some c → c = 32 ∨ c = 40 ∨ c = 41
theorem plain_cut : ∀ {a b r s : List Nat}, 32 ∉ a → 40 ∉ a → 41 ∉ a → 32 ∉ b → 40 ∉ b → 41 ∉ b → Sep r → Sep s → a ++ r = b ++ s → a = b ∧ r = s
  | [], [], r, s, _, _, _, _, _, _, _, _, h => ⟨rfl, h⟩
  | [], c :: b, r, s, _, _, _, h1, h2, h3, hr, _, h => by
    have h : r = c :: (b ++ s) := h
    rcases hr c (by rw [h]; rfl) with e | e | e
    · exact absurd (by rw [e]; simp) h1
    · exact absurd (by rw [e]; simp) h2
    · exact absurd (by rw [e]; simp) h3
  | c :: a, [], r, s, h1, h2, h3, _, _, _, _, hs, h => by
    have h : c :: (a ++ r) = s := h
    rcases hs c (by rw [← h]; rfl) with e | e | e
    · exact absurd (by rw [e]; simp) h1
    · exact absurd (by rw [e]; simp) h2
    · exact absurd (by rw [e]; simp) h3
  | c :: a, d :: b, r, s, h1, h2, h3, g1, g2, g3, hr, hs, h => by
    have h : c :: (a ++ r) = d :: (b ++ s) := h
    injection h with e h
    have m : ∀ {x : Nat} {c : Nat} {l : List Nat}, x ∉ c :: l → x ∉ l := fun h e => h (List.mem_cons_of_mem _ e)
    obtain ⟨e1, e2⟩ := plain_cut (m h1) (m h2) (m h3) (m g1) (m g2) (m g3) hr hs h
    exact ⟨by rw [e, e1], e2⟩
theorem item_head {k : Nat} {d : PyData} (h : itemB k d = true) : ∃ c t, itemT d = c :: t ∧ c ≠ 32 ∧ c ≠ 41 ∧ ((∃ ds, d = .tuple ds) ↔ c = 40) := by
  rcases no_parts (d := d) with ⟨ds, rfl⟩ | no
  · exact ⟨40, _, itemT_tup ds, by decide, by decide, fun _ => rfl, fun _ => ⟨ds, rfl⟩⟩
  · obtain ⟨_, ⟨p0, p1, p2, p3⟩, _⟩ := flat_item no h
    cases e : itemT d with
    | nil => exact absurd e p0
    | cons c t =>
      rw [e] at p1 p2 p3
      refine ⟨c, t, rfl, fun q => p1 (by rw [q]; simp), fun q => p3 (by rw [q]; simp), fun ⟨ds, q⟩ => absurd q (no ds), fun q => absurd (by rw [q]; simp) p2⟩
def aft (ds : List PyData) (r : List Nat) : List Nat := match ds with
  | [] => 41 :: r
  | d :: t => 32 :: (joinL [32] ((d :: t).map itemT) ++ 41 :: r)
theorem join_step (d : PyData) (ds : List PyData) (r : List Nat) : joinL [32] ((d :: ds).map itemT) ++ 41 :: r = itemT d ++ aft ds r := by
  cases ds with
  | nil => rfl
  | cons e t =>
    show (itemT d ++ ([32] ++ joinL [32] ((e :: t).map itemT))) ++ 41 :: r = itemT d ++ 32 :: (_ ++ 41 :: r)
    rw [List.append_assoc]
    rfl
theorem aft_sep (ds : List PyData) (r : List Nat) : Sep (aft ds r) := fun c h => by
  cases ds with
  | nil =>
    cases h
    exact .inr (.inr rfl)
  | cons d t =>
    cases h
    exact .inl rfl
theorem tup_rest (ds : List PyData) (r : List Nat) : itemT (.tuple ds) ++ r = 40 :: (joinL [32] (ds.map itemT) ++ 41 :: r) := by
  rw [itemT_tup]
  show 40 :: ((joinL [32] (ds.map itemT) ++ [41]) ++ r) = _
  rw [List.append_assoc]
  rfl
/-- a text begins with one item at most -/
theorem item_uniq : ∀ (k : Nat) {k' : Nat} {d e : PyData} {r s : List Nat}, itemB k d = true → itemB k' e = true → itemT d ++ r = itemT e ++ s → ((∀ ds, d ≠ .tuple ds) → Sep r) → ((∀ ds, e ≠ .tuple ds) → Sep s) → d = e ∧ r = s
  | k, k', d, e, r, s, hd, he, h, sr, ss => by
    obtain ⟨c1, t1, e1, _, _, f1⟩ := item_head hd
    obtain ⟨c2, t2, e2, _, _, f2⟩ := item_head he
    have cc : c1 = c2 := by
      rw [e1, e2] at h
      injection h
    rcases no_parts (d := d) with ⟨ds, rfl⟩ | no
    · obtain ⟨es, rfl⟩ := f2.mpr (cc ▸ f1.mp ⟨ds, rfl⟩)
      have hb := itemB_parts hd
      have hc := itemB_parts he
      have hk : 0 < k := by
        rw [itemB_tup, Bool.and_eq_true, decide_eq_true_eq] at hd
        exact hd.1
      rw [tup_rest, tup_rest] at h
      injection h with _ h
      have many : ∀ (ds es : List PyData), (∀ d ∈ ds, itemB (k - 1) d = true) → (∀ d ∈ es, itemB (k' - 1) d = true) → joinL [32] (ds.map itemT) ++ 41 :: r = joinL [32] (es.map itemT) ++ 41 :: s → ds = es ∧ r = s := by
        intro ds
        induction ds with
        | nil =>
          intro es _ hc h
          cases es with
          | nil =>
            injection h with _ h
            exact ⟨rfl, h⟩
          | cons e t =>
            rw [join_step] at h
            obtain ⟨c, t', ec, _, n41, _⟩ := item_head (hc e (by simp))
            rw [ec] at h
            injection h with h _
            exact absurd h.symm n41
        | cons d ds ih =>
          intro es hb hc h
          cases es with
          | nil =>
            rw [join_step] at h
            obtain ⟨c, t', ec, _, n41, _⟩ := item_head (hb d (by simp))
            rw [ec] at h
            injection h with h _
            exact absurd h n41
          | cons e t =>
            rw [join_step, join_step] at h
            have hu := item_uniq (k - 1) (hb d (by simp)) (hc e (by simp)) h (fun _ => aft_sep _ _) (fun _ => aft_sep _ _)
            clear h
            obtain ⟨rfl, h⟩ := hu
            have hb2 : ∀ x ∈ ds, itemB (k - 1) x = true := fun x hx => hb x (by simp [hx])
            have hc2 : ∀ x ∈ t, itemB (k' - 1) x = true := fun x hx => hc x (by simp [hx])
            cases ds with
            | nil =>
              cases t with
              | nil =>
                have h : 41 :: r = 41 :: s := h
                injection h with _ h
                exact ⟨rfl, h⟩
              | cons y ys =>
                have h : 41 :: r = 32 :: (joinL [32] ((y :: ys).map itemT) ++ 41 :: s) := h
                injection h with h _
                exact absurd h (by decide)
            | cons x xs =>
              cases t with
              | nil =>
                have h : 32 :: (joinL [32] ((x :: xs).map itemT) ++ 41 :: r) = 41 :: s := h
                injection h with h _
                exact absurd h (by decide)
              | cons y ys =>
                have h : 32 :: (joinL [32] ((x :: xs).map itemT) ++ 41 :: r) = 32 :: (joinL [32] ((y :: ys).map itemT) ++ 41 :: s) := h
                injection h with _ h
                obtain ⟨h1, h2⟩ := ih (y :: ys) hb2 hc2 h
                exact ⟨by rw [h1], h2⟩
      obtain ⟨h1, h2⟩ := many ds es hb hc h
      exact ⟨by rw [h1], h2⟩
    · have no' : ∀ es, e ≠ .tuple es := fun es q => by
        obtain ⟨ds, q⟩ := f1.mpr (cc.trans (f2.mp ⟨es, q⟩))
        exact no ds q
      obtain ⟨_, ⟨_, p1, p2, p3⟩, _⟩ := flat_item no hd
      obtain ⟨_, ⟨_, q1, q2, q3⟩, _⟩ := flat_item no' he
      obtain ⟨ht, hr⟩ := plain_cut p1 p2 p3 q1 q2 q3 (sr no) (ss no') h
      have w1 := wv_item no hd
      have w2 := wv_item no' he
      rw [ht, w2] at w1
      injection w1 with w1
      exact ⟨w1.symm, hr⟩
termination_by k => k
/-- an item that a text begins with -/
def RdI (k : Nat) (x : List Nat) (d : PyData) (r : List Nat) : Prop := itemB k d = true ∧ x = itemT d ++ r ∧ ((∀ ds, d ≠ .tuple ds) → Sep r)
theorem RdI.uniq {k k' : Nat} {x r s : List Nat} {d e : PyData} (a : RdI k x d r) (b : RdI k' x e s) : d = e ∧ r = s :=
  item_uniq k a.1 b.1 (a.2.1.symm.trans b.2.1) a.2.2 b.2.2
theorem item_strip {k k' : Nat} : ∀ {ds es : List PyData} {r rest : List Nat}, (∀ d ∈ ds, itemB k d = true) → (∀ e ∈ es, itemB k' e = true) → joinL [32] (es.map itemT) ++ 41 :: rest = (ds.flatMap fun d => itemT d ++ [32]) ++ r →
    ∃ es2, es = ds ++ es2 ∧ (es2 = [] → ds = []) ∧ joinL [32] (es2.map itemT) ++ 41 :: rest = r
  | [], es, r, rest, _, _, h => ⟨es, rfl, fun _ => rfl, h⟩
  | d :: ds, [], r, rest, hd, _, h => by
    obtain ⟨c, t, ec, _, n41, _⟩ := item_head (hd d (by simp))
    rw [List.flatMap_cons, ec] at h
    injection h with h _
    exact absurd h.symm n41
  | d :: ds, e :: t, r, rest, hd, he, h => by
    rw [join_step, List.flatMap_cons, List.append_assoc, List.append_assoc] at h
    have sp : Sep ([32] ++ ((ds.flatMap fun d => itemT d ++ [32]) ++ r)) := fun c hc => by
      cases hc
      exact .inl rfl
    have hu := item_uniq k' (he e (by simp)) (hd d (by simp)) h (fun _ => aft_sep _ _) (fun _ => sp)
    clear h
    obtain ⟨rfl, h⟩ := hu
    cases t with
    | nil =>
      have h : 41 :: rest = 32 :: ((ds.flatMap fun d => itemT d ++ [32]) ++ r) := h
      injection h with h _
      exact absurd h (by decide)
    | cons y ys =>
      have h : 32 :: (joinL [32] ((y :: ys).map itemT) ++ 41 :: rest) = 32 :: ((ds.flatMap fun d => itemT d ++ [32]) ++ r) := h
      injection h with _ h
      obtain ⟨es2, h1, h2, h3⟩ := item_strip (ds := ds) (fun x hx => hd x (by simp [hx])) (fun x hx => he x (by simp [hx])) h
      refine ⟨es2, by rw [h1]; rfl, fun z => ?_, h3⟩
      have := h2 z
      rw [z, this] at h1
      cases h1
/-! ### slices of texts -/
theorem slice_mid {a : List Nat} {i j : Nat} (h : i ≤ j) (hi : i ≤ a.length) : Txt.slice (S a) (some (i : Int)) (some (j : Int)) = S ((a.drop i).take (j - i)) := by
  have hl : ((S a).length : Int) = (a.length : Int) := by rw [SX.S_len]
  have core : ∀ {b : Nat}, i ≤ b → b ≤ a.length → Txt.slice (S a) (some (i : Int)) (some (b : Int)) = S ((a.drop i).take (b - i)) := fun {b} h1 h2 => by
    have e := beq_iff_eq.mp (PyProof.Rows.slice_closes (x := S a) (i := (i : Int)) (j := (b : Int)) ⟨by omega, by omega, by show (b : Int) ≤ (a.length : Int); omega⟩)
    refine e.trans (TL.ext_tl ?_)
    show (a.drop (i : Int).toNat).take ((b : Int) - (i : Int)).toNat = _
    rw [Int.toNat_natCast, show ((b : Int) - (i : Int)).toNat = b - i by omega]
  by_cases hj : j ≤ a.length
  · exact core h hj
  · have e2 : Txt.slice (S a) (some (i : Int)) (some (j : Int)) = Txt.slice (S a) (some (i : Int)) (some (a.length : Int)) := by
      unfold Txt.slice
      rw [SX.S_len, SX.idx_hi (by omega)]
    rw [e2, core hi (Nat.le_refl _)]
    congr 1
    rw [List.take_of_length_le (by rw [List.length_drop] <;> omega), List.take_of_length_le (by rw [List.length_drop] <;> omega)]
end Wd

set_option Elab.async false
set_option linter.all false
set_option maxRecDepth 100000
set_option maxHeartbeats 4000000
set_option pp.maxSteps 400
set_option pp.deepTerms false
namespace Wd
open PySem L2 TL
open SX (S)

open PySem.Spec PyProof.Rows CwR
/-! ### a list == [], a list != [] -/
def rEqNil (K : PySem.W.Frag) : R2 := fun x y H Q => ∃ a b xs, x = .ref a ∧ y = .ref b ∧ SqL K H a xs ∧ SqL K H b [] ∧ Q (.bl xs.isEmpty) H
def rNeNil (K : PySem.W.Frag) : R2 := fun x y H Q => ∃ a b xs, x = .ref a ∧ y = .ref b ∧ SqL K H a xs ∧ SqL K H b [] ∧ Q (.bl (!xs.isEmpty)) H
theorem op_eqNil' {X : Cx} (hu : X.A.units < cLine) : OpR X (compareOp .Eq) (rEqNil X.K) := by
  intro pins s σ H x y v u Q I rx ry h
  obtain ⟨a, b, xs, rfl, rfl, ha, hb, q⟩ := h
  cases rx
  cases ry
  obtain ⟨its, r, pl, _⟩ := I.list ha
  obtain ⟨its2, r2, pl2, _⟩ := I.list hb
  have l1 := r.length
  have l2 := r2.length
  have e2 : its2 = [] := by
    cases its2 with
    | nil => rfl
    | cons z zs => exact absurd l2 (by simp)
  subst e2
  cases xs with
  | nil =>
    have e1 : its = [] := by
      cases its with
      | nil => rfl
      | cons z zs => exact absurd l1 (by simp)
    subst e1
    exact SeqAt.eq_listAt (items := [].toArray) (items2 := [].toArray) (e := fun _ => true) pl.isList pl2.isList rfl hu (fun j h1 _ => absurd h1 (by simp)) ⟨.bl true, H, I, rfl, q⟩
  | cons z zs =>
    refine SeqAt.eq_list_lengthsAt (items := its.toArray) (items2 := [].toArray) pl.isList pl2.isList ?_ hu ⟨.bl false, H, I, rfl, q⟩
    cases its with
    | nil => exact absurd l1 (by simp)
    | cons y ys => rfl
theorem op_neNil' {X : Cx} (hu : X.A.units < cLine) : OpR X (compareOp .NotEq) (rNeNil X.K) := by
  intro pins s σ H x y v u Q I rx ry h
  obtain ⟨a, b, xs, rfl, rfl, ha, hb, q⟩ := h
  cases rx
  cases ry
  obtain ⟨its, r, pl, _⟩ := I.list ha
  obtain ⟨its2, r2, pl2, _⟩ := I.list hb
  have l1 := r.length
  have l2 := r2.length
  have e2 : its2 = [] := by
    cases its2 with
    | nil => rfl
    | cons z zs => exact absurd l2 (by simp)
  subst e2
  cases xs with
  | nil =>
    have e1 : its = [] := by
      cases its with
      | nil => rfl
      | cons z zs => exact absurd l1 (by simp)
    subst e1
    exact SeqAt.RcNeAt.lists (items := [].toArray) (items2 := [].toArray) (e := fun _ => true) pl.isList pl2.isList rfl hu (fun j h1 _ => absurd h1 (by simp)) X.prog X.w X.xe (EP X pins σ Q) ⟨.bl false, H, I, rfl, q⟩
  | cons z zs =>
    refine SeqAt.RcNeAt.lists_lengths (items := its.toArray) (items2 := [].toArray) pl.isList pl2.isList ?_ hu X.prog X.w X.xe (EP X pins σ Q) ⟨.bl true, H, I, rfl, q⟩
    cases its with
    | nil => exact absurd l1 (by simp)
    | cons y ys => rfl
/-- a comprehension with a test, of which only the emptiness counts -/
theorem lc_filt {J : It} {n : Nat} {G : Hp → Prop} {Y : Nat → Hp → V → Hp → Prop} (w : Walk J n G Y) (b : Nat → Bool) {g : TG} {tt : TT} {te : TE} {vs : List Nat} {σ : L2.St} {H1 : Hp} {D : Addr} {Qd : Hp → Prop}
    (hD : H1 D = none) (hn : n ≤ 400000) (hG : ∀ H, Same H1 H → G H)
    (hs : ∀ i x H H' (kN : Hp → Prop) (kT : VK), i < n → Same H1 H → Y i H x H' → (∀ H3, Same H H3 → b i = true → kN H3) → (∀ y H4, Same H H4 → b i = false → kT y H4) → g x (wipe σ vs) H' fun σ2 H2 => wipe σ2 vs = wipe σ vs ∧ tt σ2 H2 fun c H3 => if c = true then te σ2 H3 kT else kN H3)
    (hd : ∀ H ys, Same H1 H → H D = some (.lst ys) → (ys.isEmpty = true ↔ ∀ i, i < n → b i = true) → Qd H) :
    ∃ W : Nat → Nat → Hp → Prop, (∃ m, W 0 m (upd H1 D (.lst []))) ∧ ∀ i m H, W i m H →
      (J.stop i H ∧ Qd H) ∨ (J.go i H ∧ ∃ Nx : Hp → Prop, (∀ H', Nx H' → ∃ m', m' < m ∧ W (i + 1) m' H') ∧ ∀ x H', J.yld i H x H' → g x (wipe σ vs) H' fun σ2 H2 => wipe σ2 vs = wipe σ vs ∧ tt σ2 H2 fun c H3 =>
        if c = true then te σ2 H3 fun y H4 => ∃ acc, H4 D = some (.lst acc) ∧ acc.length < sizeLine ∧ Nx (upd H4 D (.lst (acc ++ [y]))) else Nx H3) := by
  have past : ∀ {H : Hp} {o : HO}, Same H1 H → Same H1 (upd H D o) := fun s b u e => by
    rw [upd_ne (ne_of_none e hD)]
    exact s _ _ e
  refine lc_it w (fun i H => Same H1 H ∧ ∃ ys, H D = some (.lst ys) ∧ ys.length ≤ i ∧ (ys.isEmpty = true ↔ ∀ j, j < i → b j = true)) ⟨past (Same.refl _), [], upd_same, Nat.le_refl _, fun _ j h => absurd h (Nat.not_lt_zero j), fun _ => rfl⟩ (fun i H _ ⟨s, _⟩ => hG H s) ?_
    (fun H ⟨s, ys, d, l, p⟩ => hd H ys s d p)
  rintro i x H H' hi ⟨s, ys, d, l, p⟩ y
  refine hs i x H H' _ _ hi s y (fun H3 s3 hb => ⟨s.trans s3, ys, s3 _ _ d, by omega, p.trans ⟨fun h j hj => ?_, fun h j hj => h j (by omega)⟩⟩) fun z H4 s4 hb => ⟨ys, s4 _ _ d, small4 (by omega), past (s.trans s4), ys ++ [z], upd_same, by simp; omega, ?_⟩
  · by_cases e : j = i
    · rw [e]
      exact hb
    · exact h j (by omega)
  · constructor
    · intro h
      cases ys with
      | nil => exact absurd h (by simp)
      | cons a r => exact absurd h (by simp)
    · intro h
      have := h i (by omega)
      rw [hb] at this
      cases this
theorem lc_notall {J : It} {n : Nat} {G : Hp → Prop} {Y : Nat → Hp → V → Hp → Prop} (w : Walk J n G Y) (ds : List PyData) (hw : ds.length = n) (p : PyData → Bool) {g : TG} {tt : TT} {te : TE} {vs : List Nat} {σ : L2.St} {H1 : Hp} {D : Addr} {Qd : Hp → Prop}
    (hD : H1 D = none) (hn : n ≤ 400000) (hG : ∀ H, Same H1 H → G H)
    (hs : ∀ i x H H' (kN : Hp → Prop) (kT : VK) (hi : i < ds.length), Same H1 H → Y i H x H' → (∀ H3, Same H H3 → p ds[i] = true → kN H3) → (∀ y H4, Same H H4 → p ds[i] = false → kT y H4) → g x (wipe σ vs) H' fun σ2 H2 => wipe σ2 vs = wipe σ vs ∧ tt σ2 H2 fun c H3 => if c = true then te σ2 H3 kT else kN H3)
    (hd : ∀ H ys, Same H1 H → H D = some (.lst ys) → ys.isEmpty = ds.all p → Qd H) :
    ∃ W : Nat → Nat → Hp → Prop, (∃ m, W 0 m (upd H1 D (.lst []))) ∧ ∀ i m H, W i m H →
      (J.stop i H ∧ Qd H) ∨ (J.go i H ∧ ∃ Nx : Hp → Prop, (∀ H', Nx H' → ∃ m', m' < m ∧ W (i + 1) m' H') ∧ ∀ x H', J.yld i H x H' → g x (wipe σ vs) H' fun σ2 H2 => wipe σ2 vs = wipe σ vs ∧ tt σ2 H2 fun c H3 =>
        if c = true then te σ2 H3 fun y H4 => ∃ acc, H4 D = some (.lst acc) ∧ acc.length < sizeLine ∧ Nx (upd H4 D (.lst (acc ++ [y]))) else Nx H3) := by
  refine lc_filt w (fun i => match ds[i]? with | some d => p d | none => true) hD hn hG (fun i x H H' kN kT hi s y h1 h2 => ?_) fun H ys s d e => hd H ys s d ?_
  · have hi' : i < ds.length := by omega
    have e : (match ds[i]? with | some d => p d | none => true) = p ds[i] := by rw [List.getElem?_eq_getElem hi']
    exact hs i x H H' kN kT hi' s y (fun H3 s3 h => h1 H3 s3 (by rw [e]; exact h)) fun z H4 s4 h => h2 z H4 s4 (by rw [e]; exact h)
  · have : (∀ i, i < n → (match ds[i]? with | some d => p d | none => true) = true) ↔ ds.all p = true := by
      rw [List.all_eq_true]
      constructor
      · intro h d hd
        obtain ⟨i, hi, rfl⟩ := List.getElem_of_mem hd
        have := h i (by omega)
        rw [List.getElem?_eq_getElem hi] at this
        exact this
      · intro h i hi
        have hi' : i < ds.length := by omega
        rw [List.getElem?_eq_getElem hi']
        exact h _ (List.getElem_mem hi')
    rw [this] at e
    cases h1 : ys.isEmpty with
    | true => exact (e.mp h1).symm
    | false =>
      cases h2 : ds.all p with
      | false => rfl
      | true => exact absurd (e.mpr h2) (by rw [h1]; decide)
section
variable {K : PySem.W.Frag} {A : List Addr} {H : Hp}
theorem DA.isInt {d : PyData} {v : V} (h : DA A H d v) : (∃ i, v = .int i ∧ d = .int i ∧ Isi K H v "int" true ∧ Isi K H v "bool" false) ∨ (∃ b, v = .bl b ∧ d = .bool b ∧ Isi K H v "int" true ∧ Isi K H v "bool" true) ∨ ((∀ i, d ≠ .int i) ∧ (∀ i, d ≠ .bool i) ∧ Isi K H v "int" false) := by
  cases h with
  | non => exact .inr (.inr ⟨fun ds e => (nomatch e), fun ds e => (nomatch e), isi_ty (.base .non) (by decide)⟩)
  | bl b => exact .inr (.inl ⟨b, rfl, rfl, isi_ty (.base (.bl b)) (by decide), isi_ty (.base (.bl b)) (by decide)⟩)
  | int i => exact .inl ⟨i, rfl, rfl, isi_ty (.base (.int i)) (by decide), isi_ty (.base (.int i)) (by decide)⟩
  | str z => exact .inr (.inr ⟨fun ds e => (nomatch e), fun ds e => (nomatch e), isi_ty (.base (.str z)) (by decide)⟩)
  | tup n e l => exact .inr (.inr ⟨fun ds e => (nomatch e), fun ds e => (nomatch e), isi_ty (.base (.tup e)) (by decide)⟩)
  | lst n e l => exact .inr (.inr ⟨fun ds e => (nomatch e), fun ds e => (nomatch e), isi_ty (.base (.lst e)) (by decide)⟩)
  | dic n e => exact .inr (.inr ⟨fun ds e => (nomatch e), fun ds e => (nomatch e), isi_ty (.base (.dK e)) (by decide)⟩)
end
end Wd

set_option Elab.async false
set_option linter.all false
set_option maxRecDepth 100000
set_option maxHeartbeats 4000000
set_option pp.maxSteps 400
set_option pp.deepTerms false
namespace Wd
open PySem L2 TL
open SX (S)

open PySem.Spec PyProof.Rows CwR
/-! ### the value of a word, by the law -/
theorem numL_head : ∀ (n : Nat), (numL n).head? = some 48 → n = 0
  | n, h => by
    by_cases hn : n < 10
    · rw [numL_lt hn] at h
      injection h with h
      omega
    · rw [numL_step (by omega)] at h
      have ne := numL_ne (n / 10)
      have : (numL (n / 10)).head? = some 48 := by
        cases e : numL (n / 10) with
        | nil => exact absurd e ne
        | cons c r =>
          rw [e] at h
          exact h
      have := numL_head (n / 10) this
      omega
termination_by n => n
theorem val_snoc (l : List Nat) (c : Nat) : NumText.digitsVal (l ++ [c]) = NumText.digitsVal l * 10 + (c - 48) := by
  show (l ++ [c]).foldl (fun acc c => acc * 10 + (c - 48)) 0 = _
  rw [List.foldl_append]
  rfl
theorem canon : ∀ (n : Nat) {ds : List Nat}, ds.length = n → ds ≠ [] → (∀ c ∈ ds, 48 ≤ c ∧ c ≤ 57) → (ds.head? = some 48 → ds = [48]) → ds = numL (NumText.digitsVal ds)
  | n, ds, hn, ne, dg, h0 => by
    rcases List.eq_nil_or_concat ds with e | ⟨l, c, e⟩
    · exact absurd e ne
    · rw [List.concat_eq_append] at e
      subst e
      have hc := dg c (by simp)
      rw [val_snoc]
      by_cases hl : l = []
      · subst hl
        show [c] = numL (0 * 10 + (c - 48))
        rw [numL_lt (by omega)]
        congr 1
        omega
      · have hd : (l ++ [c]).head? = l.head? := by
          cases l with
          | nil => exact absurd rfl hl
          | cons x r => rfl
        have n48 : l.head? ≠ some 48 := fun h => by
          have := h0 (hd.trans h)
          have := congrArg List.length this
          rw [List.length_append, List.length_singleton, List.length_singleton] at this
          exact hl (List.length_eq_zero_iff.mp (by omega))
        have el := canon l.length rfl hl (fun x hx => dg x (by simp [hx])) fun h => absurd h n48
        have pos : 1 ≤ NumText.digitsVal l := by
          by_cases hz : NumText.digitsVal l = 0
          · rw [hz, numL_lt (by decide)] at el
            rw [el] at n48
            exact absurd rfl n48
          · omega
        rw [numL_step (by omega), show (NumText.digitsVal l * 10 + (c - 48)) / 10 = NumText.digitsVal l by omega, ← el, show 48 + (NumText.digitsVal l * 10 + (c - 48)) % 10 = c by omega]
termination_by n => n
decreasing_by
  subst hn
  rw [List.length_append, List.length_singleton]
  omega
theorem int_digits {x ds : List Nat} {i : Int} (hd : (x = ds ∧ x.head? ≠ some 45) ∨ x = 45 :: ds) (h : intD x = .int i) : (∀ c ∈ ds, 48 ≤ c ∧ c ≤ 57) ∧ 1 ≤ ds.length ∧ ds.length ≤ 60 ∧ (ds.head? = some 48 → x = [48]) := by
  obtain ⟨h1, h2, e⟩ := intD_int h
  obtain ⟨cs, hc, dg, l1, l60, _⟩ := intL_dig h1 h2
  rw [← e] at hc
  have hcs : cs = ds := by
    rcases hc with hc | hc
    · rcases hd with ⟨hd, _⟩ | hd
      · rw [← hc, hd]
      · rw [hd] at hc
        have := dg 45 (by rw [← hc]; simp)
        omega
    · rcases hd with ⟨hd, h45⟩ | hd
      · exact absurd (by rw [hc]; rfl) h45
      · rw [hd] at hc
        injection hc with _ hc
        exact hc.symm
  subst hcs
  refine ⟨dg, l1, l60, fun h0 => ?_⟩
  rcases intL_form i with ⟨hi, f⟩ | ⟨hi, f⟩
  · have e2 : x = numL i.natAbs := e.trans f
    have : cs = x := by
      rcases hc with hc | hc
      · exact hc.symm
      · rw [hc] at e2
        have := numL_digits i.natAbs 45 (by rw [← e2]; simp)
        omega
    rw [this, e2] at h0
    rw [e2, numL_head _ h0]
    exact numL_lt (by decide)
  · have e2 : x = 45 :: numL i.natAbs := e.trans f
    have : cs = numL i.natAbs := by
      rcases hc with hc | hc
      · have := dg 45 (by rw [← hc, e2]; simp)
        omega
      · rw [e2] at hc
        injection hc with _ hc
        exact hc.symm
    rw [this] at h0
    have := numL_head _ h0
    omega
theorem int_back2 {x ds : List Nat} (hd : (x = ds ∧ x.head? ≠ some 45) ∨ x = 45 :: ds) (dg : ∀ c ∈ ds, 48 ≤ c ∧ c ≤ 57) (l1 : 1 ≤ ds.length) (l60 : ds.length ≤ 60) (h0 : ds.head? = some 48 → x = [48]) :
    ∃ n : Int, PySem.intText? (S ds) = some n ∧ intD x = .int (n * (1 - 2 * (if x = ds then 0 else 1))) := by
  have ne : ds ≠ [] := fun e => by rw [e] at l1; exact absurd l1 (by decide)
  have lv : NumText.digitsVal ds < 10 ^ 60 := Nat.lt_of_lt_of_le (val_lt ds dg) (Nat.pow_le_pow_right (by decide) l60)
  have e60 : (ten60 : Int) = ((10 ^ 60 : Nat) : Int) := by decide +kernel
  have cn : ds = numL (NumText.digitsVal ds) := canon ds.length rfl ne dg fun h => by
    have := h0 h
    rcases hd with ⟨hd, _⟩ | hd
    · rw [← hd, this]
    · rw [this] at hd
      cases hd
  refine ⟨(NumText.digitsVal ds : Int), ?_, ?_⟩
  · have := PySem.intText_digits (x := S ds) (by rw [show (S ds).cps.toList = ds from by simp [S]]; exact dg) (by simpa [S] using ne) (by rw [SX.S_len]; omega)
    rw [this]
  generalize NumText.digitsVal ds = n at lv cn
  rcases hd with ⟨hd, _⟩ | hd
  · rw [if_pos hd, show (n : Int) * (1 - 2 * 0) = (n : Int) by omega]
    have : x = intL (n : Int) := by
      rcases intL_form (n : Int) with ⟨_, f⟩ | ⟨hn, _⟩
      · rw [f, hd, cn]
        rfl
      · omega
    rw [this]
    exact intD_back (by omega) (by omega)
  · have nx : x ≠ ds := fun e => by
      have := congrArg List.length (hd.symm.trans e)
      rw [List.length_cons] at this
      omega
    rw [if_neg nx, show (n : Int) * (1 - 2 * 1) = -(n : Int) by omega]
    have n0 : n ≠ 0 := fun z => by
      rw [z, numL_lt (by decide)] at cn
      have := h0 (by rw [cn]; rfl)
      rw [this] at hd
      cases hd
    have : x = intL (-(n : Int)) := by
      rcases intL_form (-(n : Int)) with ⟨hn, _⟩ | ⟨_, f⟩
      · omega
      · rw [f, hd, cn]
        congr 2
        omega
    rw [this]
    exact intD_back (by omega) (by omega)
theorem lowB_all {x : List Nat} (ne : x ≠ []) : wordB (.str (S x)) = x.all lowB := by
  show (decide ((S x).cps.toList ≠ []) && (S x).cps.toList.all lowB) = _
  rw [show (S x).cps.toList = x from by simp [S], decide_eq_true ne, Bool.true_and]
theorem all_filt {x : List Nat} {p : Nat → Bool} {n : Nat} (hn : n = x.length) : (∀ i, i < n → (match x[i]? with | some c => p c | none => true) = true) ↔ x.all p = true := by
  subst hn
  rw [List.all_eq_true]
  constructor
  · intro h d hd
    obtain ⟨i, hi, rfl⟩ := List.getElem_of_mem hd
    have := h i hi
    rw [List.getElem?_eq_getElem hi] at this
    exact this
  · intro h i hi
    rw [List.getElem?_eq_getElem hi]
    exact h _ (List.getElem_mem hi)
def spWordV : Sp := fun vs H Q _ => ∃ x : List Nat, vs = [.str (S x)] ∧ x.length ≤ 390000 ∧ ∀ H' L xs, Same H H' → H L = none → H' L = some (.lst xs) → DAL [] H' (wv x) xs → Q (.ref L) H'
section
variable {P : Program} {w : World} {K : PySem.W.Frag} {mg : Str → Option Value} {base : Heap} {fI fL : Addr}
abbrev nLWV : List Str := ["word", "digits", "sign"]
theorem scLWV : FnScope nLWV ["word"] (defScope sWordValue) := ⟨rfl, rfl, rfl, by decide +kernel, rfl, by decide +kernel, by decide +kernel⟩
theorem ok_word_value {f : Addr} {fd : FuncData} (F : Fun K "_law_word_value" "_law_word_value" sWordValue f fd) (X : WTxt mg fI fL) : FnOk P w K mg base CX0 1 f fd ["word"] spWordV := by
  refine F.ok scLWV (fun vs H Q E h => ?_) (fun cdv Ao outer s H vs Q E hr h => ?_)
  · obtain ⟨x, rfl, _⟩ := h
    rfl
  · obtain ⟨x, rfl, lx, q⟩ := h
    have nd := scLWV.nd
    have hu := Nat.lt_of_le_of_lt (Nat.le_add_right _ _) hr.units
    have op_eqNil := op_eqNil' (X := (cxOf CX0 P w K mg base nLWV "_law_word_value" (defScope sWordValue) f cdv Ao outer s H E).nox) hu
    have op_neNil := op_neNil' (X := (cxOf CX0 P w K mg base nLWV "_law_word_value" (defScope sWordValue) f cdv Ao outer s H E).nox) hu
    refine ⟨_, pss_cons (ps_if (pt_cmpR op_eq (pv 0) pe_str (nomark _)) (pss_one (ps_ret (pe_lst (pa_cons pe_non pa_nil)))) pss_nil)
      (pss_cons (ps_if (PW.pt (pw_and (pt_cmpR op_ne (pv 0) pe_str (nomark _)) (pw_and1 (pt_cmpR op_eqNil (pe_lc (own := [("sign", 2)]) (g := gName 2) rfl nd (pi_str (pv 0)) (blkOk_by (N := nLWV) (sc := defScope sWordValue) (by decide +kernel)) (fun _ _ _ _ _ => pg_name (i := 2) nd rfl (Or.inl rfl)) (fun _ _ _ _ _ => pts_one (pt_cmpR op_notIn_sign (pv 2) pe_str (by rfl))) (fun _ _ _ _ _ => (pv 2))) (pe_lst pa_nil) (nomark _))))) (pss_one (ps_ret (pe_lst (pa_cons (pv 0) pa_nil)))) pss_nil)
      (pss_cons (ps_set (i := 1) nd rfl (Or.inl rfl) (pe_ifExp (pt_cmpR op_eq (pe_slice C8.sl_txt (pv 0) po_none (po_some pe_int)) pe_str (nomark _)) (pe_slice C8.sl_txt (pv 0) (po_some pe_int) po_none) (pv 0)))
      (pss_cons (ps_if (PW.pt (pw_or (pt_cmpR op_eq (pv 1) pe_str (nomark _)) (pw_or (pt_cmpR op_gt (pe_callB call_len_str (by rfl) X.len PySem.boot_len (pa_cons (pv 1) pa_nil)) pe_int (nomark _)) (pw_or1 (pt_cmpR op_neNil (pe_lc (own := [("sign", 2)]) (g := gName 2) rfl nd (pi_str (pv 1)) (blkOk_by (N := nLWV) (sc := defScope sWordValue) (by decide +kernel)) (fun _ _ _ _ _ => pg_name (i := 2) nd rfl (Or.inl rfl)) (fun _ _ _ _ _ => pts_one (pt_cmpR op_notIn_sign (pv 2) pe_str (by rfl))) (fun _ _ _ _ _ => (pv 2))) (pe_lst pa_nil) (nomark _)))))) (pss_one (ps_ret (pe_lst pa_nil))) pss_nil)
      (pss_cons (ps_if (PW.pt (pw_and (pt_cmpR op_eq (pe_ix ix_str (pv 1) pe_int (fun _ _ => rfl)) pe_str (nomark _)) (pw_and1 (pt_cmpR op_ne (pv 0) pe_str (nomark _))))) (pss_one (ps_ret (pe_lst pa_nil))) pss_nil)
      (pss_one (ps_ret (pe_lst (pa_cons (pe_op op_mul (pe_callTy call_int_str (by rfl) X.int (by decide +kernel) (pa_cons (pv 1) pa_nil)) (pe_op op_sub pe_int (pe_op op_mul pe_int (pe_callTy call_int1 (by rfl) X.int (by decide +kernel) (pa_cons (pe_cmpR op_ne (pv 1) (pv 0) (nomark _)) pa_nil))))) pa_nil)))))))), ?_⟩
    have lS : (S x).length = x.length := SX.S_len _
    have big : (16777216 : Nat) ≤ sizeLine := by decide
    have cpx : (S x).cps.toList = x := by simp [S]
    refine ⟨_, rfl, rfl, _, rfl, ?_⟩
    by_cases h45 : x = [45]
    · rw [decide_eq_true (show V.str (S x) = V.str (Str.ofString "-") from by rw [h45]; rfl)]
      refine iteT ⟨by show 1 ≤ sizeLine; decide, fun L hL => q _ L _ (same_new hL) hL upd_same ?_⟩
      unfold wv
      rw [if_pos h45]
      exact .cons .non .nil
    rw [decide_eq_false (show V.str (S x) ≠ V.str (Str.ofString "-") from fun e => h45 (V_S.mp (show V.str (S x) = V.str (S [45]) from e)))]
    refine iteF ⟨_, rfl, rfl, _, rfl, ?_⟩
    have wv1 : wv x = if wordB (.str (S x)) = true then [.str (S x)] else match intD x with | .int i => [.int i] | _ => [] := if_neg h45
    apply use_two2 (I := fun Hx => Same H Hx ∧ wordB (.str (S x)) = false)
    case main =>
      intro two
      by_cases h0 : x = []
      · rw [decide_eq_true (show V.str (S x) = V.str (Str.ofString "") from by rw [h0]; rfl)]
        refine iteF ?_
        generalize hy : H = Hy
        exact two Hy ⟨by rw [hy]; exact Same.refl _, by rw [h0]; rfl⟩
      rw [decide_eq_false (show V.str (S x) ≠ V.str (Str.ofString "") from fun e => h0 (V_S.mp (show V.str (S x) = V.str (S []) from e)))]
      refine iteT ⟨_, rfl, S x, rfl, fun D hD => ?_⟩
      refine lc_filt (walk_str (z := S x)) (fun i => match x[i]? with | some c => lowB c | none => true) hD (by show x.length ≤ 400000; omega) (fun _ _ => trivial) ?_ ?_
      · rintro i y H1 H' kN kT hi s1 ⟨rfl, c, hc, rfl⟩ h1 h2
        have hc' : x[i]? = some c := by rw [← hc]; simp [S]
        rw [hc'] at h1 h2
        have ea : decide (c ∈ (Str.ofString "abcdefghijklmnopqrstuvwxyz").cps.toList) = lowB c := by
          by_cases h : low c
          · rw [decide_eq_true ((alpha_mem c).mpr h), lowB_iff.mpr h]
          · rw [decide_eq_false (fun e => h ((alpha_mem c).mp e))]
            cases e : lowB c with
            | false => rfl
            | true => exact absurd (lowB_iff.mp e) h
        refine ⟨rfl, _, rfl, c, _, rfl, rfl, _, rfl, ?_⟩
        rw [ea]
        cases hl : lowB c with
        | true => exact iteF (h1 _ (Same.refl _) hl)
        | false => exact iteT ⟨_, rfl, h2 _ _ (Same.refl _) hl⟩
      · intro H1 ys s1 hD1 he
        refine ⟨by show 0 ≤ sizeLine; decide, fun p hp => ?_⟩
        have sp := same_new (o := .lst []) hp
        refine ⟨D, p, ys, rfl, rfl, SqL.of (sp _ _ hD1), SqL.of upd_same, _, rfl, ?_⟩
        have e2 : ys.isEmpty = wordB (.str (S x)) := by
          rw [lowB_all h0]
          rw [all_filt (by rfl)] at he
          exact Bool.eq_iff_iff.mpr he
        rw [e2]
        cases hw : wordB (.str (S x)) with
        | true =>
          refine iteT ⟨_, rfl, by show 1 ≤ sizeLine; decide, fun L hL => q _ L _ ((s1.trans sp).trans (same_new hL)) ?_ upd_same ?_⟩
          · cases e : H L with
            | none => rfl
            | some o => rw [(s1.trans sp) _ _ e] at hL; cases hL
          · rw [wv1, if_pos hw]
            exact .cons (.str _) .nil
        | false => exact iteF (two _ ⟨s1.trans sp, hw⟩)
    case two =>
    rintro H1 ⟨s1, hw⟩
    rw [if_neg (by rw [hw]; decide)] at wv1
    -- the digits
    obtain ⟨ds, hds⟩ : ∃ ds, ds = (if x.head? = some 45 then x.tail else x) := ⟨_, rfl⟩
    have hd : (x = ds ∧ x.head? ≠ some 45) ∨ x = 45 :: ds := by
      by_cases h : x.head? = some 45
      · rw [if_pos h] at hds
        cases x with
        | nil => cases h
        | cons c r =>
          cases h
          exact .inr (by rw [hds]; rfl)
      · rw [if_neg h] at hds
        exact .inl ⟨hds.symm, h⟩
    apply use_two2 (I := fun Hx => Hx = H1)
    case main =>
      intro two
      refine ⟨_, rfl, _, rfl, _, rfl, by rw [lS]; omega, rfl, _, rfl, ?_⟩
      rw [SX.slice_to (by omega)]
      by_cases h : x.head? = some 45
      · rw [decide_eq_true (show V.str (S (x.take (Int.toNat 1))) = V.str (Str.ofString "-") from by
          cases x with
          | nil => cases h
          | cons c r =>
            cases h
            rfl)]
        refine iteT ⟨_, rfl, _, rfl, _, rfl, by rw [lS]; omega, ?_⟩
        rw [SX.slice_from (by omega), show x.drop (Int.toNat 1) = ds from by
          rw [hds, if_pos h]
          cases x with
          | nil => rfl
          | cons c r => rfl]
        generalize hy : H1 = Hy
        exact two Hy hy.symm
      · rw [decide_eq_false (show V.str (S (x.take (Int.toNat 1))) ≠ V.str (Str.ofString "-") from fun e => h (by
          have e := V_S.mp (show V.str (S (x.take (Int.toNat 1))) = V.str (S [45]) from e)
          cases x with
          | nil => cases e
          | cons c r =>
            have e : [c] = [45] := e
            injection e with e
            rw [e]
            rfl))]
        refine iteF ⟨_, rfl, ?_⟩
        have z := two H1 rfl
        rw [show ds = x from by rw [hds, if_neg h]] at z
        exact z
    case two =>
    rintro H1 rfl
    have lD : (S ds).length = ds.length := SX.S_len _
    have ld : ds.length ≤ x.length := by
      rcases hd with ⟨hd, _⟩ | hd
      · rw [hd]
        exact Nat.le_refl _
      · rw [hd, List.length_cons]
        omega
    have ret0 : ∀ Hx L, Same H Hx → Hx L = none → ¬ ((∀ c ∈ ds, 48 ≤ c ∧ c ≤ 57) ∧ 1 ≤ ds.length ∧ ds.length ≤ 60 ∧ (ds.head? = some 48 → x = [48])) → Q (.ref L) (upd Hx L (.lst [])) := fun Hx L sx hL h => by
      refine q _ L _ (sx.trans (same_new hL)) ?_ upd_same ?_
      · cases e : H L with
        | none => rfl
        | some o => rw [sx _ _ e] at hL; cases hL
      · rcases intD_cases x with e | ⟨i, e⟩
        · rw [wv1, e]
          exact .nil
        · exact absurd (int_digits hd e) h
    refine ⟨_, rfl, rfl, _, rfl, ?_⟩
    by_cases d0 : ds = []
    · rw [decide_eq_true (show V.str (S ds) = V.str (Str.ofString "") from by rw [d0]; rfl)]
      exact iteT ⟨by show 0 ≤ sizeLine; decide, fun L hL => ret0 _ L s1 hL fun h => by rw [d0] at h; exact absurd h.2.1 (by decide)⟩
    rw [decide_eq_false (show V.str (S ds) ≠ V.str (Str.ofString "") from fun e => d0 (V_S.mp (show V.str (S ds) = V.str (S []) from e)))]
    have l1 : 1 ≤ ds.length := List.length_pos_iff.mpr d0
    refine iteF ⟨_, rfl, S ds, rfl, by rw [lD]; omega, _, _, rfl, rfl, _, rfl, ?_⟩
    rw [lD]
    by_cases c60 : ds.length ≤ 60
    · rw [decide_eq_false (by omega)]
      refine iteF ⟨_, rfl, S ds, rfl, fun D hD => ?_⟩
      refine lc_filt (walk_str (z := S ds)) (fun i => match ds[i]? with | some c => decide (48 ≤ c ∧ c ≤ 57) | none => true) hD (by show ds.length ≤ 400000; omega) (fun _ _ => trivial) ?_ ?_
      · rintro i y H2 H' kN kT hi s2 ⟨rfl, c, hc, rfl⟩ h1 h2
        have hc' : ds[i]? = some c := by rw [← hc]; simp [S]
        rw [hc'] at h1 h2
        refine ⟨rfl, _, rfl, c, _, rfl, rfl, _, rfl, ?_⟩
        rw [show decide (c ∈ (Str.ofString "0123456789").cps.toList) = decide (48 ≤ c ∧ c ≤ 57) from decide_eq_decide.mpr digit_iff]
        cases hl : decide (48 ≤ c ∧ c ≤ 57) with
        | true => exact iteF (h1 _ (Same.refl _) hl)
        | false => exact iteT ⟨_, rfl, h2 _ _ (Same.refl _) hl⟩
      · intro H2 ys s2 hD2 he
        refine ⟨by show 0 ≤ sizeLine; decide, fun p hp => ?_⟩
        have sp := same_new (o := .lst []) hp
        have s2 := (s1.trans s2).trans sp
        refine ⟨D, p, ys, rfl, rfl, SqL.of (sp _ _ hD2), SqL.of upd_same, _, rfl, ?_⟩
        generalize upd H2 p (.lst []) = H3 at s2
        have e2 : ys.isEmpty = ds.all fun c => decide (48 ≤ c ∧ c ≤ 57) := by
          rw [all_filt (by rfl)] at he
          exact Bool.eq_iff_iff.mpr he
        rw [e2]
        cases hdg : ds.all fun c => decide (48 ≤ c ∧ c ≤ 57) with
        | false =>
          refine iteT ⟨by show 0 ≤ sizeLine; decide, fun L hL => ret0 _ L s2 hL fun h => ?_⟩
          have : (ds.all fun c => decide (48 ≤ c ∧ c ≤ 57)) = true := List.all_eq_true.mpr fun c hc => decide_eq_true (h.1 c hc)
          rw [hdg] at this
          cases this
        | true =>
          have dg : ∀ c ∈ ds, 48 ≤ c ∧ c ≤ 57 := fun c hc => of_decide_eq_true (List.all_eq_true.mp hdg c hc)
          obtain ⟨c0, r0, hcr⟩ : ∃ c r, ds = c :: r := by
            cases ds with
            | nil => exact absurd rfl d0
            | cons c r => exact ⟨c, r, rfl⟩
          refine iteF ⟨_, rfl, S ds, 0, c0, rfl, rfl, by rw [lD]; omega, ?_, rfl, _, rfl, ?_⟩
          · rw [show (S ds).cps.toList = ds from by simp [S], hcr]
            exact atI_nat (j := 0) rfl
          apply use_two2 (I := fun Hx => Hx = H3 ∧ (ds.head? = some 48 → x = [48]))
          case main =>
            intro two
            by_cases hc : c0 = 48
            · rw [decide_eq_true (show V.str ⟨#[c0]⟩ = V.str (Str.ofString "0") from by rw [hc]; rfl)]
              refine iteT ⟨_, rfl, rfl, _, rfl, ?_⟩
              by_cases hx : x = [48]
              · rw [decide_eq_true (show V.str (S x) = V.str (Str.ofString "0") from by rw [hx]; rfl)]
                refine iteF ?_
                generalize hy : H3 = Hy
                exact two Hy ⟨hy.symm, fun _ => hx⟩
              · rw [decide_eq_false (show V.str (S x) ≠ V.str (Str.ofString "0") from fun e => hx (V_S.mp (show V.str (S x) = V.str (S [48]) from e)))]
                refine iteT ⟨by show 0 ≤ sizeLine; decide, fun L hL => ret0 _ L s2 hL fun h => hx (h.2.2.2 ?_)⟩
                rw [hcr, hc]
                rfl
            · rw [decide_eq_false (show V.str ⟨#[c0]⟩ ≠ V.str (Str.ofString "0") from fun e => hc (by
                have := V_S.mp (show V.str (S [c0]) = V.str (S [48]) from e)
                injection this))]
              refine iteF (two H3 ⟨rfl, fun h => ?_⟩)
              rw [hcr] at h
              injection h with h
              exact absurd h hc
          case two =>
          rintro H3 ⟨rfl, h48⟩
          obtain ⟨n, hn, hi⟩ := int_back2 hd dg l1 c60 h48
          refine ⟨_, rfl, S ds, n, rfl, hn, by rw [lD]; omega, _, rfl, _, rfl, rfl, .inr ⟨_, rfl, _, _, rfl, rfl, .inl ⟨by decide, by decide⟩, _, _, rfl, rfl, _, _, rfl, rfl, .inr ?_, by show 1 ≤ sizeLine; decide, fun L hL => q _ L _ (s2.trans (same_new hL)) ?_ upd_same ?_⟩⟩
          · split
            · exact ⟨by decide, by decide⟩
            · exact ⟨by decide, by decide⟩
          · cases e : H L with
            | none => rfl
            | some o => rw [s2 _ _ e] at hL; cases hL
          · rw [wv1, hi]
            have ec : (if (!decide (V.str (S ds) = V.str (S x))) = true then (1 : Int) else 0) = (if x = ds then 0 else 1) := by
              by_cases hx : x = ds
              · rw [if_pos hx, decide_eq_true (by rw [hx])]
                rfl
              · rw [if_neg hx, decide_eq_false fun e => hx (V_S.mp e).symm]
                rfl
            rw [ec]
            exact .cons (.int _) .nil
    · rw [decide_eq_true (by omega)]
      exact iteT ⟨by show 0 ≤ sizeLine; decide, fun L hL => ret0 _ L s1 hL fun h => c60 h.2.2.1⟩
end
end Wd

set_option Elab.async false
set_option linter.all false
set_option maxRecDepth 100000
set_option maxHeartbeats 4000000
set_option pp.maxSteps 400
set_option pp.deepTerms false
namespace Wd
open PySem L2 TL
open SX (S)

open PySem.Spec PyProof.Rows CwR
/-! ### an item from a place on, by the law -/
theorem while_own {c : TT} {tb : TS} {D : Ends} {σ : L2.St} {H : Hp} (W : Nat → L2.St → Hp → Prop) (w0 : ∃ m, W m σ H)
    (hs : ∀ m σ H, W m σ H → c σ H fun b H1 => if b = true then ∃ N : L2.St → Hp → Prop, (∀ σ' H', N σ' H' → ∃ m', m' < m ∧ W m' σ' H') ∧ tb { D with nx := N, ct := N, bk := D.nx } σ H1 else D.nx σ H1) : tWhile c tb D σ H := ⟨W, w0, hs⟩
theorem use_p {I K G : Prop} (main : (I → K) → G) (two : I → K) : G := main two
theorem join_last : ∀ (ds : List PyData) (d : PyData) (r : List Nat), joinL [32] ((ds ++ [d]).map itemT) ++ r = (ds.flatMap fun d => itemT d ++ [32]) ++ (itemT d ++ r)
  | [], d, r => rfl
  | e :: ds, d, r => by
    have h := join_last ds d r
    have ne : (ds ++ [d]).map itemT ≠ [] := by simp
    show joinL [32] (itemT e :: (ds ++ [d]).map itemT) ++ r = _
    rw [join_cons ne, List.flatMap_cons, List.append_assoc, List.append_assoc, List.append_assoc, ← h]
    rfl
def spLItem (n : Nat) : Sp := fun vs H Q _ => ∃ (x : List Nat) (i k : Nat), vs = [.str (S x), .int (i : Nat), .int (k : Nat)] ∧ k < n ∧ x.length ≤ 25000 ∧ i ≤ x.length ∧
  (∀ d r, RdI k (x.drop i) d r → ∀ H' p v, Same H H' → H' p = some (.tup [v, .int ((x.length - r.length : Nat) : Int)]) → DA [] H' d v → Q (.ref p) H') ∧
  ((∀ d r, ¬ RdI k (x.drop i) d r) → ∀ H' p, Same H H' → H' p = some (.tup [.non, .int (-1)]) → Q (.ref p) H')
theorem take_one {l : List Nat} {c : Nat} : l.take 1 = [c] ↔ l.head? = some c := by
  cases l with
  | nil => simp
  | cons d r => simp
theorem slice_one {x : List Nat} {i : Nat} (h : i ≤ x.length) : Txt.slice (S x) (some (i : Int)) (some ((i : Int) + 1)) = S ((x.drop i).take 1) := by
  have := slice_mid (a := x) (i := i) (j := i + 1) (by omega) h
  rw [show ((i + 1 : Nat) : Int) = (i : Int) + 1 by omega, show i + 1 - i = 1 by omega] at this
  exact this
theorem three_in {c : Nat} : c ∈ (Str.ofString " ()").cps.toList ↔ c = 32 ∨ c = 40 ∨ c = 41 := by
  have e : (Str.ofString " ()").cps.toList = [32, 40, 41] := by decide +kernel
  rw [e]
  simp
section
variable {P : Program} {w : World} {K : PySem.W.Frag} {mg : Str → Option Value} {base : Heap} {fI fL fW : Addr} {dW : FuncData}
abbrev nLI : List Str := ["text", "at", "depth", "stop", "found", "items", "item"]
theorem scLI : FnScope nLI ["text", "at", "depth"] (defScope sItem) := ⟨rfl, rfl, rfl, by decide +kernel, rfl, by decide +kernel, by decide +kernel⟩
theorem ok_litem {f : Addr} {fd : FuncData} (F : Fun K "_law_item" "_law_item" sItem f fd) (X : WTxt mg fI fL) (m : mg "_law_item" = some (.ref f)) (bd : Binds K fd ["text", "at", "depth"] []) (W : At P w K mg base 1 "_law_word_value" fW dW ["word"] spWordV) : ∀ n, FnOk P w K mg base CX0 (n + 2) f fd ["text", "at", "depth"] (spLItem n)
  | 0 => F.ok scLI (fun vs H Q E ⟨x, i, k, h, _⟩ => by rw [h]; rfl) fun cdv Ao outer s H vs Q E hr ⟨x, i, k, _, hk, _⟩ => absurd hk (by omega)
  | n + 1 => by
    have G := ok_litem F X m bd W n
    refine F.ok scLI (fun vs H Q E h => ?_) (fun cdv Ao outer s H vs Q E hr h => ?_)
    · obtain ⟨x, i, k, rfl, _⟩ := h
      rfl
    · obtain ⟨x, i, k, rfl, hk, lx, hi, good, bad⟩ := h
      have nd := scLI.nd
      have hr1 : Room 1 _ := hr.mono (by omega)
      have hu := Nat.lt_of_le_of_lt (Nat.le_add_right _ _) hr.units
      have op_neNil := op_neNil' (X := (cxOf CX0 P w K mg base nLI "_law_item" (defScope sItem) f cdv Ao outer s H E).nox) hu
      refine ⟨_, pss_cons (ps_if (pt_cmpR op_ne (pe_slice C8.sl_txt (pv 0) (po_some (pv 1)) (po_some (pe_op op_add (pv 1) pe_int))) pe_str (nomark _)) (pss_cons (ps_set (i := 3) nd rfl (Or.inl rfl) (pv 1))
      (pss_cons (ps_while PassesOwn.never (PW.pt (pw_and (pt_cmpR op_lt (pv 3) (pe_callB call_len_str (by rfl) X.len PySem.boot_len (pa_cons (pv 0) pa_nil)) (nomark _)) (pw_and1 (pt_cmpR op_notIn_sign (pe_ix ix_str (pv 0) (pv 3) (fun _ _ => rfl)) pe_str (by rfl))))) (pss_one (ps_set (i := 3) nd rfl (Or.inl rfl) (pe_op op_add (pv 3) pe_int))))
      (pss_cons (ps_set (i := 4) nd rfl (Or.inl rfl) (pe_call W.g hr1 rfl W.m W.kp W.b .nil pass0 (pa_cons (pe_slice C8.sl_txt (pv 0) (po_some (pv 1)) (po_some (pv 3))) pa_nil)))
      (pss_one (ps_ret (pe_ifExp (pt_cmpR op_neNil (pv 4) (pe_lst pa_nil) (nomark _)) (pe_tup (pa_cons (pe_ix (r := rIxL K) ix_list (pv 4) pe_int (fun _ _ => rfl)) (pa_cons (pv 3) pa_nil))) (pe_tup (pa_cons pe_non (pa_cons (pe_un un_neg pe_int) pa_nil))))))))) pss_nil)
      (pss_cons (ps_if (pt_cmpR op_eq (pv 2) pe_int (nomark _)) (pss_one (ps_ret (pe_tup (pa_cons pe_non (pa_cons (pe_un un_neg pe_int) pa_nil))))) pss_nil)
      (pss_cons (ps_par (i := 5) (j := 1) (by rfl) nd rfl rfl (by decide) rfl rfl (pa_cons (pe_lst pa_nil) (pa_cons (pe_op op_add (pv 1) pe_int) pa_nil)) rfl)
      (pss_cons (ps_if (pt_cmpR op_eq (pe_slice C8.sl_txt (pv 0) (po_some (pv 1)) (po_some (pe_op op_add (pv 1) pe_int))) pe_str (nomark _)) (pss_one (ps_ret (pe_tup (pa_cons (pe_tup pa_nil) (pa_cons (pe_op op_add (pv 1) pe_int) pa_nil))))) pss_nil)
      (pss_one (ps_while PassesOwn.never (pt_val pe_bl) (pss_cons (ps_asg (pe_call G hr rfl m F.kp bd .nil pass0 (pa_cons (pv 0) (pa_cons (pv 1) (pa_cons (pe_op op_sub (pv 2) pe_int) pa_nil)))) (pg_tup rfl (pgs_cons (pg_name (i := 6) nd rfl (Or.inl rfl)) (pgs_cons (pg_name (i := 1) nd rfl (Or.inl rfl)) pgs_nil))))
      (pss_cons (ps_expr (pe_bm PySem.F.plainAttrs_list PySem.F.slot_list_append PySem.F.type_list_append mt_append (pv 5) (pa_cons (pv 6) pa_nil)))
      (pss_cons (ps_if (PW.pt (pw_or (pt_cmpR op_lt (pv 1) pe_int (nomark _)) (pw_or1 (pt_cmpR op_notIn_seq (pe_slice C8.sl_txt (pv 0) (po_some (pv 1)) (po_some (pe_op op_add (pv 1) pe_int))) (pe_tup (pa_cons pe_str (pa_cons pe_str pa_nil))) (by rfl))))) (pss_one (ps_ret (pe_tup (pa_cons pe_non (pa_cons (pe_un un_neg pe_int) pa_nil))))) pss_nil)
      (pss_cons (ps_set (i := 1) nd rfl (Or.inl rfl) (pe_op op_add (pv 1) pe_int))
      (pss_one (ps_if (pt_cmpR op_eq (pe_ix ix_str (pv 0) (pe_op op_sub (pv 1) pe_int) (fun _ _ => rfl)) pe_str (nomark _)) (pss_one (ps_ret (pe_tup (pa_cons (pe_callTy call_tuple_of (by rfl) X.tup (by decide +kernel) (pa_cons (pv 5) pa_nil)) (pa_cons (pv 1) pa_nil))))) pss_nil))))))))))), ?_⟩
      have lS : (S x).length = x.length := SX.S_len _
      have big : (16777216 : Nat) ≤ sizeLine := by decide
      have cpx : (S x).cps.toList = x := by simp [S]
      have neg : ∀ Hx p, Same H Hx → Hx p = none → (∀ d r, ¬ RdI k (x.drop i) d r) → Q (.ref p) (upd Hx p (.tup [.non, .int (-1)])) := fun Hx p sx hp h => bad h _ p (sx.trans (same_new hp)) upd_same
      have fresh : ∀ {Hx : Hp} {p : Addr}, Same H Hx → Hx p = none → H p = none := fun {Hx p} s h => by
        cases e : H p with
        | none => rfl
        | some o => rw [s _ _ e] at h; cases h
      refine ⟨_, rfl, _, rfl, _, rfl, _, rfl, _, _, rfl, rfl, _, rfl, _, rfl, by rw [lS]; omega, rfl, _, rfl, ?_⟩
      rw [slice_one hi]
      by_cases h40 : (x.drop i).head? = some 40
      · rw [decide_eq_true (show V.str (S ((x.drop i).take 1)) = V.str (Str.ofString "(") from by rw [take_one.mpr h40]; rfl)]
        obtain ⟨r0, hr0⟩ : ∃ r, x.drop i = 40 :: r := by
          cases e : x.drop i with
          | nil => rw [e] at h40; cases h40
          | cons c r =>
            rw [e] at h40
            cases h40
            exact ⟨r, rfl⟩
        have hi1 : i + 1 ≤ x.length := by
          have := congrArg List.length hr0
          rw [List.length_drop, List.length_cons] at this
          omega
        have dr1 : x.drop (i + 1) = r0 := by
          rw [← List.drop_drop, hr0]
          rfl
        have isT : ∀ {d r}, RdI k (x.drop i) d r → ∃ es, d = .tuple es := fun {d r} ⟨ib, e, _⟩ => by
          obtain ⟨c, t, ec, _, _, f⟩ := item_head ib
          rw [hr0, ec] at e
          injection e with e _
          exact f.mpr e.symm
        refine iteF ⟨_, rfl, rfl, _, rfl, ?_⟩
        by_cases k0 : k = 0
        · rw [decide_eq_true (show V.int ((k : Nat) : Int) = V.int 0 from by rw [k0]; rfl)]
          refine iteT ⟨_, rfl, by show 2 ≤ sizeLine; decide, fun p hp => neg H p (Same.refl _) hp fun d r h => ?_⟩
          obtain ⟨es, rfl⟩ := isT h
          have := h.1
          rw [itemB_tup, Bool.and_eq_true, decide_eq_true_eq] at this
          omega
        rw [decide_eq_false (show V.int ((k : Nat) : Int) ≠ V.int 0 from fun e => by injection e with e; omega)]
        refine iteF ⟨by show 0 ≤ sizeLine; decide, fun O hO => ?_⟩
        have sO := same_new (o := .lst []) hO
        have eO : (upd H O (.lst [])) O = some (.lst []) := upd_same
        generalize upd H O (.lst []) = H1 at sO eO
        have noO : ∀ {H' : Hp} {o : HO}, Same H H' → Same H (upd H' O o) := fun {H' o} s b ob e => by
          rw [upd_ne (ne_of_none e hO)]
          exact s b ob e
        refine ⟨_, rfl, _, _, rfl, rfl, _, _, rfl, ?_⟩
        have i1 : ((i : Int) + 1) = ((i + 1 : Nat) : Int) := by omega
        refine ⟨_, rfl, _, rfl, _, rfl, _, rfl, _, _, rfl, rfl, _, rfl, _, rfl, by rw [lS]; omega, rfl, _, rfl, ?_⟩
        rw [i1, slice_one hi1]
        by_cases h41 : (x.drop (i + 1)).head? = some 41
        · rw [decide_eq_true (show V.str (S ((x.drop (i + 1)).take 1)) = V.str (Str.ofString ")") from by rw [take_one.mpr h41]; rfl)]
          refine iteT ⟨by show 0 ≤ sizeLine; decide, fun t ht => ?_⟩
          have st := same_new (o := .tup []) ht
          refine ⟨_, rfl, _, _, rfl, rfl, by show 2 ≤ sizeLine; decide, fun p hp => ?_⟩
          have sp := same_new (o := .tup [.ref t, .int ((i : Int) + 1 + 1)]) hp
          obtain ⟨r1, hr1⟩ : ∃ r, r0 = 41 :: r := by
            rw [dr1] at h41
            cases r0 with
            | nil => cases h41
            | cons c r =>
              cases h41
              exact ⟨r, rfl⟩
          have lr : x.length - r1.length = i + 1 + 1 := by
            have := congrArg List.length hr0
            rw [hr1, List.length_drop, List.length_cons, List.length_cons] at this
            omega
          refine good (.tuple []) r1 ⟨?_, ?_, fun h => absurd rfl (h [])⟩ _ p (.ref t) ((sO.trans st).trans sp) ?_ (.tup (fun z => nomatch z) (sp _ _ upd_same) .nil)
          · rw [itemB_tup, decide_eq_true (by omega)]
            rfl
          · rw [hr0, hr1]
            rfl
          · rw [lr]
            exact upd_same
        rw [decide_eq_false (show V.str (S ((x.drop (i + 1)).take 1)) ≠ V.str (Str.ofString ")") from fun e => h41 (take_one.mp (V_S.mp (show V.str (S ((x.drop (i + 1)).take 1)) = V.str (S [41]) from e))))]
        refine iteF ?_
        refine while_own (fun mm σ H' => ∃ (j : Nat) (ds : List PyData) (xs : List V) (v6 : Option V), σ = [some (.str (S x)), some (.int (j : Nat)), some (.int (k : Nat)), none, none, some (.ref O), v6] ∧ Same H H' ∧ H' O = some (.lst xs) ∧ DAL [] H' ds xs ∧ (∀ d ∈ ds, itemB (k - 1) d = true) ∧ ds.length ≤ j ∧ j ≤ x.length ∧ x.drop i = 40 :: ((ds.flatMap fun d => itemT d ++ [32]) ++ x.drop j) ∧ (ds = [] → (x.drop j).head? ≠ some 41) ∧ mm = x.length - j)
          ⟨_, i + 1, [], [], none, rfl, sO, eO, .nil, (fun d h => nomatch h), Nat.zero_le _, hi1, by rw [dr1, hr0]; rfl, fun _ => h41, rfl⟩ ?_
        rintro mm σ H2 ⟨j, ds, xs, v6, rfl, s2, eO2, dal, ibs, ldj, hj, pre, h0, rfl⟩
        refine ⟨_, rfl, iteT ⟨_, fun _ _ h => h, ?_⟩⟩
        have strip : ∀ {d r}, RdI k (x.drop i) d r → ∃ e t, RdI (k - 1) (x.drop j) e (aft t r) := fun {d r} h => by
          obtain ⟨es, rfl⟩ := isT h
          obtain ⟨ib, e, _⟩ := h
          rw [tup_rest, pre] at e
          injection e with _ e
          obtain ⟨es2, q1, q2, q3⟩ := item_strip ibs (itemB_parts ib) e.symm
          cases es2 with
          | nil =>
            have d0 := q2 rfl
            have : (x.drop j).head? = some 41 := by
              rw [← q3]
              rfl
            exact absurd this (h0 d0)
          | cons e2 t =>
            rw [join_step] at q3
            exact ⟨e2, t, itemB_parts ib e2 (by rw [q1]; simp), q3.symm, fun _ => aft_sep _ _⟩
        refine ⟨_, rfl, _, rfl, _, rfl, _, _, rfl, rfl, x, j, k - 1, ?_, by omega, lx, hj, fun d r rd H3 p v s3 ep dv => ?_, fun nr H3 p s3 ep => ?_⟩
        · show [V.str (S x), V.int (j : Int), V.int ((k : Int) - 1)] = _
          rw [show ((k : Int) - 1) = ((k - 1 : Nat) : Int) by omega]
        · -- an item more
          obtain ⟨ib, ex, sp⟩ := rd
          have ldr : (itemT d).length + r.length = x.length - j := by
            have := congrArg List.length ex
            rw [List.length_drop, List.length_append] at this
            omega
          have ld1 : 1 ≤ (itemT d).length := by
            obtain ⟨c, t, ec, _⟩ := item_head ib
            rw [ec, List.length_cons]
            omega
          obtain ⟨j', hj'⟩ : ∃ j', j' = x.length - r.length := ⟨_, rfl⟩
          rw [← hj'] at ep
          have drj : x.drop j' = r := by
            rw [show j' = j + (itemT d).length by omega, ← List.drop_drop, ex, List.drop_left]
          have hj2 : j' ≤ x.length := by omega
          refine ⟨p, _, rfl, SqT.of ep, rfl, _, _, rfl, _, _, rfl, rfl, ?_⟩
          have eO3 := s3 _ _ eO2
          have lxs : xs.length = ds.length := dal.length.symm
          refine ⟨_, rfl, .inl ⟨rfl, _, SqL.of eO3⟩, _, rfl, O, xs, _, rfl, rfl, eO3, by omega, ?_⟩
          have k3 : TK H3 (upd H3 O (.lst (xs ++ [v]))) := TK.lst eO3
          have s4 : Same H (upd H3 O (.lst (xs ++ [v]))) := noO (s2.trans s3)
          have eO4 : (upd H3 O (.lst (xs ++ [v]))) O = some (.lst (xs ++ [v])) := upd_same
          have pud : pureB d = true := item_pure _ ib
          have puds : pureL ds = true := pureL_iff.mpr fun d hd => item_pure _ (ibs d hd)
          have dal4 : DAL [] (upd H3 O (.lst (xs ++ [v]))) (ds ++ [d]) (xs ++ [v]) := ((dal.same s3).tk k3 puds).app (.cons (dv.tk k3 pud) .nil)
          generalize upd H3 O (.lst (xs ++ [v])) = H4 at s4 eO4 dal4
          refine ⟨_, rfl, _, _, rfl, rfl, _, rfl, ?_⟩
          rw [decide_eq_false (by omega)]
          refine iteF ⟨_, rfl, _, rfl, _, rfl, _, rfl, _, _, rfl, rfl, _, rfl, _, rfl, by rw [lS]; omega, by show 2 ≤ sizeLine; decide, fun t ht => ?_⟩
          have stt := same_new (o := .tup [.str (Str.ofString " "), .str (Str.ofString ")")]) ht
          rw [slice_one hj2, drj]
          refine ⟨t, _, rfl, .inr (SqT.of upd_same), rfl, rfl, _, rfl, ?_⟩
          have eO5 := stt _ _ eO4
          have dal5 := dal4.same stt
          have s5 := s4.trans stt
          generalize upd H4 t (.tup [.str (Str.ofString " "), .str (Str.ofString ")")]) = H5 at s5 eO5 dal5
          have jn : ∀ r', joinL [32] ((ds ++ [d]).map itemT) ++ r' = (ds.flatMap fun d => itemT d ++ [32]) ++ (itemT d ++ r') := fun r' => join_last ds d r'
          have ibs2 : ∀ e ∈ ds ++ [d], itemB (k - 1) e = true := fun e he => by
            rcases List.mem_append.mp he with he | he
            · exact ibs e he
            · rw [List.mem_singleton.mp he]
              exact ib
          have inv : inV (.str (S (r.take 1))) [.str (Str.ofString " "), .str (Str.ofString ")")] = decide (r.head? = some 32 ∨ r.head? = some 41) := by
            have z := inV_words (S (r.take 1)) [Str.ofString " ", Str.ofString ")"]
            refine Bool.eq_iff_iff.mpr (z.trans ?_)
            rw [decide_eq_true_iff, ← take_one, ← take_one]
            constructor
            · intro h
              rcases List.mem_cons.mp h with h | h
              · exact .inl (SX.S_inj (show S (r.take 1) = S [32] from h))
              · exact .inr (SX.S_inj (show S (r.take 1) = S [41] from List.mem_singleton.mp h))
            · rintro (h | h)
              · rw [h]
                exact List.mem_cons_self
              · rw [h]
                exact List.mem_cons_of_mem _ (List.mem_singleton.mpr rfl)
          rw [inv]
          by_cases hs : r.head? = some 32 ∨ r.head? = some 41
          · rw [decide_eq_true hs]
            obtain ⟨c, r2, hr2⟩ : ∃ c r2, r = c :: r2 := by
              cases r with
              | nil => rcases hs with h | h <;> cases h
              | cons c r2 => exact ⟨c, r2, rfl⟩
            have lr2 : j' + 1 = x.length - r2.length := by
              rw [hr2, List.length_cons] at ldr hj'
              omega
            have drj2 : x.drop (j' + 1) = r2 := by
              rw [← List.drop_drop, drj, hr2]
              rfl
            have hlt : j' + 1 ≤ x.length := by
              rw [hr2, List.length_cons] at ldr
              omega
            refine iteF ⟨_, rfl, _, _, rfl, rfl, ?_⟩
            refine ⟨_, rfl, _, rfl, _, _, rfl, rfl, S x, _, c, rfl, rfl, by rw [lS]; omega, ?_, rfl, _, rfl, ?_⟩
            · rw [cpx]
              refine at_nn (by omega) ?_
              rw [show ((j' : Int) + 1 - 1).toNat = j' by omega]
              have : x[j']? = (x.drop j').head? := by rw [List.head?_drop]
              rw [this, drj, hr2]
              rfl
            by_cases c41 : c = 41
            · rw [decide_eq_true (show V.str ⟨#[c]⟩ = V.str (Str.ofString ")") from by rw [c41]; rfl)]
              refine iteT ⟨_, rfl, O, _, rfl, .inl ⟨SqL.of eO5, fun b hb => ⟨_, rfl, by show 2 ≤ sizeLine; decide, fun q hq => ?_⟩⟩⟩
              have sb := same_new (o := .tup (xs ++ [v])) hb
              have sq := same_new (o := .tup [.ref b, .int ((j' : Int) + 1)]) hq
              refine good (.tuple (ds ++ [d])) r2 ⟨?_, ?_, fun h => absurd rfl (h _)⟩ _ q (.ref b) ((s5.trans sb).trans sq) ?_ (.tup (fun z => nomatch z) (sq _ _ upd_same) ((dal5.same sb).same sq))
              · rw [itemB_tup, decide_eq_true (by omega), Bool.true_and]
                exact List.all_eq_true.mpr ibs2
              · rw [tup_rest, jn, pre, ex, hr2, c41]
              · rw [← lr2]
                rw [show (((j' + 1 : Nat) : Nat) : Int) = (j' : Int) + 1 by omega]
                exact upd_same
            · rw [decide_eq_false (show V.str ⟨#[c]⟩ ≠ V.str (Str.ofString ")") from fun e => c41 (by
                have := V_S.mp (show V.str (S [c]) = V.str (S [41]) from e)
                injection this))]
              have c32 : c = 32 := by
                rw [hr2] at hs
                rcases hs with h | h
                · injection h
                · injection h with h
                  exact absurd h c41
              refine iteF ⟨x.length - (j' + 1), by omega, j' + 1, ds ++ [d], xs ++ [v], _, rfl, s5, eO5, dal5, ibs2, ?_, hlt, ?_, ?_, rfl⟩
              · rw [List.length_append, List.length_singleton]
                omega
              · rw [pre, ex, hr2, c32, drj2, List.flatMap_append, List.flatMap_singleton]
                simp
              · intro h
                exact absurd h (by simp)
          · rw [decide_eq_false hs]
            refine iteT ⟨_, rfl, by show 2 ≤ sizeLine; decide, fun q hq => neg _ q s5 hq fun d0 r' h => ?_⟩
            obtain ⟨e, t, he⟩ := strip h
            obtain ⟨_, hr⟩ := RdI.uniq ⟨ib, ex, sp⟩ he
            apply hs
            rw [hr]
            cases t with
            | nil => exact .inr rfl
            | cons y ys => exact .inl rfl
        · -- no item
          refine ⟨p, _, rfl, SqT.of ep, rfl, _, _, rfl, _, _, rfl, rfl, ?_⟩
          have eO3 := s3 _ _ eO2
          have lxs : xs.length = ds.length := dal.length.symm
          refine ⟨_, rfl, .inl ⟨rfl, _, SqL.of eO3⟩, _, rfl, O, xs, _, rfl, rfl, eO3, by omega, ?_⟩
          have s4 : Same H (upd H3 O (.lst (xs ++ [.non]))) := noO (s2.trans s3)
          generalize upd H3 O (.lst (xs ++ [.non])) = H4 at s4
          refine ⟨_, rfl, _, _, rfl, rfl, _, rfl, ?_⟩
          rw [decide_eq_true (by decide)]
          refine iteT ⟨_, rfl, by show 2 ≤ sizeLine; decide, fun q hq => neg _ q s4 hq fun d r h => ?_⟩
          obtain ⟨e, t, he⟩ := strip h
          exact nr _ _ he
      · rw [decide_eq_false (show V.str (S ((x.drop i).take 1)) ≠ V.str (Str.ofString "(") from fun e => h40 (take_one.mp (V_S.mp (show V.str (S ((x.drop i).take 1)) = V.str (S [40]) from e))))]
        refine iteT ⟨_, rfl, ?_⟩
        refine while_own (fun mm σ H' => ∃ j, σ = [some (.str (S x)), some (.int (i : Nat)), some (.int (k : Nat)), some (.int (j : Nat)), none, none, none] ∧ H' = H ∧ i ≤ j ∧ j ≤ x.length ∧ (∀ c ∈ (x.drop i).take (j - i), c ≠ 32 ∧ c ≠ 40 ∧ c ≠ 41) ∧ mm = x.length - j) ⟨_, i, rfl, rfl, Nat.le_refl _, hi, (by rw [Nat.sub_self]; exact fun c h => nomatch h), rfl⟩ ?_
        rintro mm σ _ ⟨j, rfl, rfl, hij, hj, hw, rfl⟩
        refine ⟨_, rfl, _, rfl, S x, rfl, by rw [lS]; omega, _, _, rfl, rfl, _, rfl, ?_⟩
        rw [lS]
        have nr0 : ∀ {d r}, RdI k (x.drop i) d r → (∀ ds, d ≠ .tuple ds) ∧ Plain (itemT d) := fun {d r} ⟨ib, e, _⟩ => by
          obtain ⟨c, t, ec, _, _, f⟩ := item_head ib
          have no : ∀ ds, d ≠ .tuple ds := fun ds q => by
            rw [f.mp ⟨ds, q⟩] at ec
            rw [e, ec] at h40
            exact h40 rfl
          exact ⟨no, (flat_item no ib).2.1⟩
        apply use_p (I := Sep (x.drop j))
        case main =>
          intro two
          by_cases hl : j < x.length
          · rw [decide_eq_true (by omega)]
            refine iteT ⟨_, rfl, _, rfl, S x, _, x[j], rfl, rfl, by rw [lS]; omega, ?_, x[j], _, rfl, rfl, _, rfl, ?_⟩
            · rw [cpx]
              exact atI_nat (by rw [List.getElem?_eq_getElem hl])
            by_cases hs : x[j] = 32 ∨ x[j] = 40 ∨ x[j] = 41
            · rw [decide_eq_true (three_in.mpr hs)]
              refine iteF (two ?_)
              intro c hc
              rw [List.drop_eq_getElem_cons hl] at hc
              injection hc with hc
              rw [← hc]
              exact hs
            · rw [decide_eq_false (fun h => hs (three_in.mp h))]
              refine iteT ⟨_, fun _ _ h => h, _, rfl, _, _, rfl, rfl, x.length - (j + 1), by omega, j + 1, rfl, rfl, by omega, by omega, fun c hc => ?_, rfl⟩
              rw [show j + 1 - i = (j - i) + 1 by omega] at hc
              rw [List.take_succ, List.mem_append] at hc
              rcases hc with hc | hc
              · exact hw c hc
              · rw [List.getElem?_drop, show i + (j - i) = j by omega, List.getElem?_eq_getElem hl] at hc
                have : c = x[j] := by simpa using hc
                rw [this]
                exact ⟨fun e => hs (.inl e), fun e => hs (.inr (.inl e)), fun e => hs (.inr (.inr e))⟩
          · rw [decide_eq_false (by omega)]
            refine iteF (two ?_)
            intro c hc
            rw [List.drop_of_length_le (by omega)] at hc
            cases hc
        case two =>
        intro hsep
        have cut : x.drop i = (x.drop i).take (j - i) ++ x.drop j := by
          have := List.take_append_drop (j - i) (x.drop i)
          rw [List.drop_drop, show i + (j - i) = j by omega] at this
          exact this.symm
        generalize hword : (x.drop i).take (j - i) = word at hw cut
        have lword : word.length ≤ 25000 := by
          rw [← hword, List.length_take]
          rw [List.length_drop]
          omega
        refine ⟨_, rfl, _, rfl, _, rfl, _, rfl, _, rfl, _, rfl, by rw [lS]; omega, word, ?_, by omega, fun H1 L xs s1 hL eL dl => ?_⟩
        · rw [slice_mid hij hi, hword]
          rfl
        refine ⟨_, rfl, by show 0 ≤ sizeLine; decide, fun p0 hp0 => ?_⟩
        have sp0 := same_new (o := .lst []) hp0
        have eL0 := sp0 _ _ eL
        refine ⟨L, p0, xs, rfl, rfl, SqL.of eL0, SqL.of upd_same, _, rfl, ?_⟩
        have s2 := s1.trans sp0
        have dl := dl.same sp0
        generalize upd H1 p0 (.lst []) = H2 at s2 eL0 dl
        rcases wv_cases word with e | ⟨d, e, ed, no, ib, pl⟩
        · rw [e] at dl
          cases dl
          refine iteF ⟨_, rfl, by show 2 ≤ sizeLine; decide, fun p hp => neg _ p s2 hp fun d r h => ?_⟩
          obtain ⟨no, p0, p1, p2, p3⟩ := nr0 h
          obtain ⟨ib, e2, sr⟩ := h
          have hp : itemT d ++ r = word ++ x.drop j := e2.symm.trans cut
          obtain ⟨ew, _⟩ := plain_cut p1 p2 p3 (fun h => (hw _ h).1 rfl) (fun h => (hw _ h).2.1 rfl) (fun h => (hw _ h).2.2 rfl) (sr no) hsep hp
          have := wv_item no ib
          rw [ew, e] at this
          cases this
        · rw [e] at dl
          cases dl with
          | @cons _ _ v _ dv dn =>
            cases dn
            refine iteT ⟨_, rfl, L, _, 0, _, rfl, rfl, SqL.of eL0, atI_nat (j := 0) rfl, _, rfl, by show 2 ≤ sizeLine; decide, fun p hp => ?_⟩
            have sp := same_new (o := .tup [v, .int (j : Nat)]) hp
            refine good d (x.drop j) ⟨ib k, ?_, fun _ => hsep⟩ _ p v (s2.trans sp) ?_ (dv.same sp)
            · rw [ed]
              exact cut
            · rw [List.length_drop, show x.length - (x.length - j) = j by omega]
              exact upd_same
end
end Wd

set_option Elab.async false
set_option linter.all false
set_option maxRecDepth 100000
set_option maxHeartbeats 4000000
set_option pp.maxSteps 400
set_option pp.deepTerms false
namespace Wd
open PySem L2 TL
open SX (S)

open PySem.Spec PyProof.Rows CwR
/-! ### a line with a stand, by the law -/
theorem tup_len (ds : List PyData) : ds.length ≤ (itemT (.tuple ds)).length := by
  rw [itemT_tup, List.length_cons, List.length_append, List.length_singleton]
  have js := join_sum (s := 32) (xs := ds.map itemT)
  rw [List.length_map] at js
  omega
theorem part_len {ds : List PyData} {d : PyData} (h : d ∈ ds) : (itemT d).length ≤ (itemT (.tuple ds)).length := by
  rw [itemT_tup, List.length_cons, List.length_append, List.length_singleton]
  have := join_ge (s := 32) (itemT d) (List.mem_map_of_mem (f := itemT) h)
  omega
theorem stB_rd {x : List Nat} (h : stB x = true) : RdI 20 x (standD x) [] := by
  obtain ⟨a, b⟩ := standD_pos (stB_iff.mp h)
  refine ⟨(stand_item a).1, by rw [List.append_nil, b], fun no => ?_⟩
  obtain ⟨ds, e⟩ := (stand_item a).2
  exact absurd e (no ds)
theorem standD_rd {x : List Nat} {ds : List PyData} (h : RdI 20 x (.tuple ds) []) : standD x = if standB (.tuple ds) = true then .tuple ds else .none := by
  obtain ⟨ib, e, _⟩ := h
  rw [List.append_nil] at e
  unfold standD
  rw [e, read_item ib]
  by_cases c : standB (.tuple ds) = true
  · rw [if_pos c, c, decide_eq_true rfl]
    rfl
  · rw [if_neg c, Bool.eq_false_iff.mpr c, Bool.false_and, if_neg (by decide)]
theorem int_item {k : Nat} {d : PyData} (h : itemB k d = true) : (∃ i, d = .int i ∧ intB d = true) ∨ ((∀ i, d ≠ .int i) ∧ intB d = false) := by
  rcases no_parts (d := d) with ⟨ds, rfl⟩ | no
  · exact .inr ⟨fun i e => (nomatch e), rfl⟩
  · rcases flat_is no h with rfl | ⟨z, rfl, hz⟩ | ⟨i, rfl, h1, h2⟩
    · exact .inr ⟨fun i e => (nomatch e), rfl⟩
    · exact .inr ⟨fun i e => (nomatch e), rfl⟩
    · refine .inl ⟨i, rfl, ?_⟩
      show (decide (-ten60 < i) && decide (i < ten60)) = true
      rw [decide_eq_true h1, decide_eq_true h2]
      rfl
theorem isi_int {K : PySem.W.Frag} {A : List Addr} {H : Hp} {k : Nat} {d : PyData} {v : V} (h : DA A H d v) (ib : itemB k d = true) : Isi K H v "int" (intB d) := by
  rcases int_item ib with ⟨i, rfl, hb⟩ | ⟨no, hb⟩
  · rw [hb]
    rcases h.isInt (K := K) with ⟨_, _, _, i1, _⟩ | ⟨b, _, e, _⟩ | ⟨n, _, _⟩
    · exact i1
    · cases e
    · exact absurd rfl (n i)
  · rw [hb]
    rcases h.isInt (K := K) with ⟨i, _, e, _⟩ | ⟨b, _, e, _⟩ | ⟨_, _, i1⟩
    · exact absurd e (no i)
    · subst e
      have := item_pure k ib
      cases k <;> cases ib
    · exact i1
theorem stand_two {a b c r : PyData} (h : itemB 20 (.tuple [a, b, c, r]) = true) : standB (.tuple [a, b, c, r]) = (intsB c && rowsB r) := by
  have hb := itemB_parts h
  show (itemB 19 a && (itemB 19 b && (intsB c && rowsB r))) = _
  rw [hb a (by simp), hb b (by simp), Bool.true_and, Bool.true_and]
def spLStand : Sp := fun vs H Q _ => ∃ x : List Nat, vs = [.str (S x)] ∧ LineOk x ∧ ∀ H' L xs, Same H H' → H L = none → H' L = some (.lst xs) → DAL [] H' (if stB x = true then [standD x] else []) xs → Q (.ref L) H'
section
variable {P : Program} {w : World} {K : PySem.W.Frag} {mg : Str → Option Value} {base : Heap} {fI fL fT : Addr} {dT : FuncData}
abbrev nLS : List Str := ["line", "value", "stop", "classes", "rows", "row", "one"]
theorem scLS : FnScope nLS ["line"] (defScope sLineStand) := ⟨rfl, rfl, rfl, by decide +kernel, rfl, by decide +kernel, by decide +kernel⟩
theorem ok_line_stand {f : Addr} {fd : FuncData} (F : Fun K "_law_line_stand" "_law_line_stand" sLineStand f fd) (X : WTxt mg fI fL) (IT : At P w K mg base 23 "_law_item" fT dT ["text", "at", "depth"] (spLItem 21)) : FnOk P w K mg base CX0 24 f fd ["line"] spLStand := by
  refine F.ok scLS (fun vs H Q E h => ?_) (fun cdv Ao outer s H vs Q E hr h => ?_)
  · obtain ⟨x, rfl, _⟩ := h
    rfl
  · obtain ⟨x, rfl, lok, q⟩ := h
    have nd := scLS.nd
    have hu := Nat.lt_of_le_of_lt (Nat.le_add_right _ _) hr.units
    have op_neNil := op_neNil' (X := (cxOf CX0 P w K mg base nLS "_law_line_stand" (defScope sLineStand) f cdv Ao outer s H E).nox) hu
    refine ⟨_, pss_cons (ps_asg (pe_call IT.g hr rfl IT.m IT.kp IT.b .nil pass0 (pa_cons (pv 0) (pa_cons pe_int (pa_cons pe_int pa_nil)))) (pg_tup rfl (pgs_cons (pg_name (i := 1) nd rfl (Or.inl rfl)) (pgs_cons (pg_name (i := 2) nd rfl (Or.inl rfl)) pgs_nil))))
      (pss_cons (ps_if (PW.pt (pw_or (pt_cmpR op_ne (pv 2) (pe_callB call_len_str (by rfl) X.len PySem.boot_len (pa_cons (pv 0) pa_nil)) (nomark _)) (pw_or (pt_not (pt_val (pe_isi (N := "tuple") (pv 1) X.isin X.tup))) (pw_or1 (pt_cmpR op_ne (pe_callB call_len_seq (by rfl) X.len PySem.boot_len (pa_cons (pv 1) pa_nil)) pe_int (nomark _)))))) (pss_one (ps_ret (pe_lst pa_nil))) pss_nil)
      (pss_cons (ps_asg (pe_slice sl_tup (pv 1) (po_some pe_int) po_none) (pg_tup rfl (pgs_cons (pg_name (i := 3) nd rfl (Or.inl rfl)) (pgs_cons (pg_name (i := 4) nd rfl (Or.inl rfl)) pgs_nil))))
      (pss_cons (ps_if (PW.pt (pw_or (pt_not (pt_val (pe_isi (N := "tuple") (pv 3) X.isin X.tup))) (pw_or1 (pt_cmpR op_neNil (pe_lc (own := [("one", 6)]) (g := gName 6) (tt := tNot (tB (tIsi K "int" (tVar 6)))) rfl nd (pi_tup (pv 3)) (blkOk_by (N := nLS) (sc := defScope sLineStand) (by decide +kernel)) (fun _ _ _ _ _ => pg_name (i := 6) nd rfl (Or.inl rfl)) (fun _ _ _ _ _ => pts_one (pt_not (pt_val (pe_isi (N := "int") (pv 6) X.isin X.int)))) (fun _ _ _ _ _ => (pv 6))) (pe_lst pa_nil) (nomark _))))) (pss_one (ps_ret (pe_lst pa_nil))) pss_nil)
      (pss_cons (ps_if (PW.pt (pw_or (pt_not (pt_val (pe_isi (N := "tuple") (pv 4) X.isin X.tup))) (pw_or1 (pt_not (pt_chain op_le op_le pe_int (pe_callB call_len_seq (by rfl) X.len PySem.boot_len (pa_cons (pv 4) pa_nil)) pe_int))))) (pss_one (ps_ret (pe_lst pa_nil))) pss_nil)
      (pss_cons (ps_for PassesOwn.never rfl (pi_tup (pv 4)) (pg_name (i := 5) nd rfl (Or.inl rfl)) (pss_cons (ps_if (PW.pt (pw_or (pt_not (pt_val (pe_isi (N := "tuple") (pv 5) X.isin X.tup))) (pw_or1 (pt_cmpR op_ne (pe_callB call_len_seq (by rfl) X.len PySem.boot_len (pa_cons (pv 5) pa_nil)) (pe_callB call_len_seq (by rfl) X.len PySem.boot_len (pa_cons (pv 4) pa_nil)) (nomark _))))) (pss_one (ps_ret (pe_lst pa_nil))) pss_nil)
      (pss_one (ps_if (pt_cmpR op_neNil (pe_lc (own := [("one", 6)]) (g := gName 6) (tt := tNot (tB (tIsi K "int" (tVar 6)))) rfl nd (pi_tup (pv 5)) (blkOk_by (N := nLS) (sc := defScope sLineStand) (by decide +kernel)) (fun _ _ _ _ _ => pg_name (i := 6) nd rfl (Or.inl rfl)) (fun _ _ _ _ _ => pts_one (pt_not (pt_val (pe_isi (N := "int") (pv 6) X.isin X.int)))) (fun _ _ _ _ _ => (pv 6))) (pe_lst pa_nil) (nomark _)) (pss_one (ps_ret (pe_lst pa_nil))) pss_nil))))
      (pss_one (ps_ret (pe_lst (pa_cons (pv 1) pa_nil))))))))), ?_⟩
    have lS : (S x).length = x.length := SX.S_len _
    have lx := lok.l
    have big : (16777216 : Nat) ≤ sizeLine := by decide
    have fresh : ∀ {Hx : Hp} {p : Addr}, Same H Hx → Hx p = none → H p = none := fun {Hx p} s h => by
      cases e : H p with
      | none => rfl
      | some o => rw [s _ _ e] at h; cases h
    have ret0 : ∀ Hx L, Same H Hx → Hx L = none → stB x = false → Q (.ref L) (upd Hx L (.lst [])) := fun Hx L sx hL h => by
      refine q _ L _ (sx.trans (same_new hL)) (fresh sx hL) upd_same ?_
      rw [h, if_neg (by decide)]
      exact .nil
    refine ⟨_, rfl, x, 0, 20, rfl, by decide, lx, Nat.zero_le _, fun d r rd H1 p v s1 ep dv => ?_, fun nr H1 p s1 ep => ?_⟩
    case refine_2 =>
      refine ⟨p, _, rfl, SqT.of ep, rfl, _, _, rfl, _, _, rfl, rfl, ?_⟩
      refine ⟨_, rfl, _, rfl, S x, rfl, by rw [lS]; omega, rfl, _, rfl, ?_⟩
      rw [decide_eq_false (show V.int (-1) ≠ V.int ((S x).length : Nat) from fun e => by injection e with e; omega)]
      refine iteT ⟨by show 0 ≤ sizeLine; decide, fun L hL => ret0 _ L s1 hL ?_⟩
      cases h : stB x with
      | false => rfl
      | true => exact absurd (stB_rd h) (nr _ _)
    have rd : RdI 20 x d r := rd
    refine ⟨p, _, rfl, SqT.of ep, rfl, _, _, rfl, _, _, rfl, rfl, ?_⟩
    refine ⟨_, rfl, _, rfl, S x, rfl, by rw [lS]; omega, rfl, _, rfl, ?_⟩
    rw [lS]
    have lenx : x.length = (itemT d).length + r.length := by
      have := congrArg List.length rd.2.1
      rwa [List.length_append] at this
    by_cases hr0 : r = []
    case neg =>
      have l1 := List.length_pos_iff.mpr hr0
      rw [decide_eq_false (show V.int ((x.length - r.length : Nat) : Int) ≠ V.int (x.length : Nat) from fun e => by injection e with e; omega)]
      refine iteT ⟨by show 0 ≤ sizeLine; decide, fun L hL => ret0 _ L s1 hL ?_⟩
      cases h : stB x with
      | false => rfl
      | true => exact absurd (RdI.uniq rd (stB_rd h)).2 hr0
    subst hr0
    rw [decide_eq_true (show V.int ((x.length - ([] : List Nat).length : Nat) : Int) = V.int (x.length : Nat) from rfl)]
    rcases dv.isTup (K := K) with ⟨a, xs, ds, rfl, rfl, na, e, l, i1⟩ | ⟨no, i1⟩
    case inr =>
      refine iteF ⟨_, rfl, _, i1, _, rfl, iteT ⟨by show 0 ≤ sizeLine; decide, fun L hL => ret0 _ L s1 hL ?_⟩⟩
      cases h : stB x with
      | false => rfl
      | true =>
        obtain ⟨ds, e⟩ := (stand_item (standD_pos (stB_iff.mp h)).1).2
        exact absurd ((RdI.uniq rd (stB_rd h)).1.trans e) (no ds)
    have ll := l.length
    have sd := standD_rd rd
    have eB : stB x = standB (.tuple ds) := by
      unfold stB
      rw [sd]
      by_cases c : standB (.tuple ds) = true
      · rw [if_pos c]
      · rw [if_neg c, Bool.eq_false_iff.mpr c]
        rfl
    have lds := tup_len ds
    refine iteF ⟨_, rfl, _, i1, _, rfl, iteF ⟨_, rfl, a, xs, rfl, .inr (SqT.of e), rfl, _, rfl, ?_⟩⟩
    by_cases h4 : ds.length = 4
    case neg =>
      rw [decide_eq_false (show V.int (xs.length : Nat) ≠ V.int 4 from fun e => by injection e with e; omega)]
      refine iteT ⟨by show 0 ≤ sizeLine; decide, fun L hL => ret0 _ L s1 hL ?_⟩
      rw [eB, standB_four h4]
    obtain ⟨d1, d2, d3, d4, v1, v2, v3, v4, rfl, rfl, a1, a2, a3, a4⟩ := four l h4
    have ibs := itemB_parts rd.1
    have p3 := part_len (ds := [d1, d2, d3, d4]) (d := d3) (by simp)
    have p4 := part_len (ds := [d1, d2, d3, d4]) (d := d4) (by simp)
    rw [stand_two rd.1] at eB
    have lI : (itemT (.tuple [d1, d2, d3, d4])).length ≤ 25000 := by
      have : ([] : List Nat).length = 0 := rfl
      omega
    refine iteF ⟨_, rfl, _, rfl, a, _, rfl, SqT.of e, by show ¬ (HT.sIx 4 0 (some 2) = 0 ∧ HT.sIx 4 4 none = 4); decide, fun c hc => ?_⟩
    have sc := same_new (o := .tup (cutV [v1, v2, v3, v4] (some 2) none)) hc
    have ec : (upd H1 c (.tup (cutV [v1, v2, v3, v4] (some 2) none))) c = some (.tup [v3, v4]) := upd_same
    have e := sc _ _ e
    have s1 := s1.trans sc
    have a3 := a3.same sc
    have a4 := a4.same sc
    have dv := dv.same sc
    generalize upd H1 c (.tup (cutV [v1, v2, v3, v4] (some 2) none)) = H2 at s1 e ec a3 a4 dv
    refine ⟨c, _, rfl, SqT.of ec, rfl, _, _, rfl, _, _, rfl, rfl, ?_⟩
    rcases a3.isTup (K := K) with ⟨b, ys, cs, rfl, rfl, nb, eb, lb, i2⟩ | ⟨no, i2⟩
    case inr =>
      refine ⟨_, rfl, _, i2, _, rfl, iteT ⟨by show 0 ≤ sizeLine; decide, fun L hL => ret0 _ L s1 hL ?_⟩⟩
      rw [eB]
      cases d3 with
      | tuple cs => exact absurd rfl (no cs)
      | _ => rfl
    have lbb := lb.length
    have lcs := tup_len cs
    have ib3 := itemB_parts (ibs _ (show PyData.tuple cs ∈ _ by simp))
    refine ⟨_, rfl, _, i2, _, rfl, iteF ⟨_, rfl, b, rfl, ⟨_, SqT.of eb⟩, fun D hD => ?_⟩⟩
    refine lc_notall (walk_tup (K := K) (xs := ys) (a := b)) cs lbb intB hD (by omega) (fun H4 s4 => SqT.of (s4 _ _ eb)) ?_ ?_
    · rintro i x H4 H' kN kT hi s4 ⟨rfl, hx⟩ h1 h2
      have hd := List.getElem?_eq_getElem hi
      refine ⟨rfl, _, rfl, _, isi_int ((lb.at hd hx).same s4) (ib3 _ (List.getElem_mem hi)), _, rfl, ?_⟩
      cases hp : intB cs[i] with
      | true => exact iteF (h1 _ (Same.refl _) hp)
      | false => exact iteT ⟨_, rfl, h2 _ _ (Same.refl _) hp⟩
    intro H4 zs s4 e4 he
    refine ⟨by show 0 ≤ sizeLine; decide, fun p hp => ?_⟩
    have sp := same_new (o := .lst []) hp
    refine ⟨D, p, zs, rfl, rfl, SqL.of (sp _ _ e4), SqL.of upd_same, _, rfl, ?_⟩
    rw [he]
    have s2 := (s1.trans s4).trans sp
    have a4 := (a4.same s4).same sp
    have dv := (dv.same s4).same sp
    have e := sp _ _ (s4 _ _ e)
    generalize upd H4 p (.lst []) = H5 at s2 a4 dv e
    have eB : stB x = (cs.all intB && rowsB d4) := eB
    cases hc : cs.all intB with
    | false =>
      rw [hc, Bool.false_and] at eB
      exact iteT ⟨by show 0 ≤ sizeLine; decide, fun L hL => ret0 _ L s2 hL eB⟩
    | true =>
      rw [hc, Bool.true_and] at eB
      refine iteF ⟨_, rfl, ?_⟩
      rcases a4.isTup (K := K) with ⟨g, rv, rs, rfl, rfl, ng, eg, lg, i3⟩ | ⟨no, i3⟩
      case inr =>
        refine ⟨_, i3, _, rfl, iteT ⟨by show 0 ≤ sizeLine; decide, fun L hL => ret0 _ L s2 hL ?_⟩⟩
        rw [eB]
        cases d4 with
        | tuple cs => exact absurd rfl (no cs)
        | _ => rfl
      have lgg := lg.length
      have ib4 := itemB_parts (ibs _ (show PyData.tuple rs ∈ _ by simp))
      have eR : rowsB (.tuple rs) = (decide (1 ≤ rs.length) && (decide (rs.length ≤ 13) && rs.all (areB (rs.length : Nat)))) := rfl
      rw [eR] at eB
      have bad : ¬ (1 ≤ rs.length ∧ rs.length ≤ 13) → stB x = false := fun h => by
        rw [eB]
        by_cases h1 : 1 ≤ rs.length
        · rw [decide_eq_false (fun h2 => h ⟨h1, h2⟩), Bool.false_and, Bool.and_false]
        · rw [decide_eq_false h1, Bool.false_and]
      refine ⟨_, i3, _, rfl, iteF ⟨_, rfl, g, rv, rfl, .inr (SqT.of eg), _, _, rfl, rfl, _, rfl, ?_⟩⟩
      refine ite2 (fun c1 => ?_) (fun c1 => ⟨_, rfl, iteT ⟨by show 0 ≤ sizeLine; decide, fun L hL => ret0 _ L s2 hL (bad fun h => c1 (decide_eq_true (by omega)))⟩⟩)
      have c1 : (1 : Int) ≤ (rv.length : Nat) := of_decide_eq_true c1
      refine ⟨_, _, rfl, rfl, _, rfl, ?_⟩
      refine ite2 (fun c2 => ⟨by show 0 ≤ sizeLine; decide, fun L hL => ret0 _ L s2 hL (bad fun h => ?_)⟩) (fun c2 => ?_)
      · simp at c2
        omega
      have c2 : (rv.length : Int) ≤ 13 := by simpa using c2
      refine ⟨_, rfl, g, rfl, ⟨_, SqT.of eg⟩, ?_⟩
      refine for_it (n := rv.length) (walk_tup (K := K) (xs := rv) (a := g)) (fun i σ H' => ∃ v2 v5, σ = [some (.str (S x)), some (.ref a), v2, some (.ref b), some (.ref g), v5, none] ∧ Same H5 H' ∧ ∀ j (hj : j < rs.length), j < i → areB (rs.length : Nat) rs[j] = true)
        ⟨_, _, rfl, Same.refl _, fun j hj h => absurd h (Nat.not_lt_zero j)⟩ (fun _ _ _ _ ⟨_, _, _, s, _⟩ => SqT.of (s _ _ eg)) ?_ ?_
      · rintro i y σ Hx H7 hi ⟨v2, v5, rfl, s7, ok⟩ ⟨rfl, hy⟩
        have hir : i < rs.length := by omega
        have hd := List.getElem?_eq_getElem hir
        have dy := (lg.same s7).at hd hy
        have eg7 := s7 _ _ eg
        have s57 := s2.trans s7
        have iby := ib4 _ (List.getElem_mem hir)
        have ply := part_len (List.getElem_mem hir)
        have no_ : areB (rs.length : Nat) rs[i] = false → stB x = false := fun h => by
          rw [eB]
          have hf : rs.all (areB (rs.length : Nat)) = false := by
            cases ha : rs.all (areB (rs.length : Nat)) with
            | false => rfl
            | true =>
              rw [List.all_eq_true.mp ha _ (List.getElem_mem hir)] at h
              cases h
          rw [hf, Bool.and_false, Bool.and_false]
        have yes : areB (rs.length : Nat) rs[i] = true → ∀ j (hj : j < rs.length), j < i + 1 → areB (rs.length : Nat) rs[j] = true := fun h j hj hji => by
          by_cases e : j = i
          · subst e
            exact h
          · exact ok j hj (by omega)
        rcases dy.isTup (K := K) with ⟨c, ws, gs, rfl, eq, nc, ec, lc_, i4⟩ | ⟨no, i4⟩
        · rw [eq] at no_ yes iby ply
          have lcc := lc_.length
          have lgs := tup_len gs
          have ibg := itemB_parts iby
          refine ⟨_, rfl, _, i4, _, rfl, iteF ⟨_, rfl, c, ws, rfl, .inr (SqT.of ec), _, rfl, g, rv, rfl, .inr (SqT.of eg7), rfl, _, rfl, ?_⟩⟩
          have eA : areB (rs.length : Nat) (.tuple gs) = (decide ((gs.length : Int) = (rs.length : Nat)) && gs.all intB) := rfl
          by_cases hl : gs.length = rs.length
          · rw [decide_eq_true (show V.int (ws.length : Nat) = V.int (rv.length : Nat) from by rw [← lcc, ← lgg, hl])]
            rw [eA, decide_eq_true (by omega), Bool.true_and] at no_ yes
            refine iteF ⟨_, rfl, c, rfl, ⟨_, SqT.of ec⟩, fun D2 hD2 => ?_⟩
            refine lc_notall (walk_tup (K := K) (xs := ws) (a := c)) gs lcc intB hD2 (by omega) (fun H8 s8 => SqT.of (s8 _ _ ec)) ?_ ?_
            · rintro j x H8 H' kN kT hj s8 ⟨rfl, hx⟩ h1 h2
              have hd := List.getElem?_eq_getElem hj
              refine ⟨rfl, _, rfl, _, isi_int ((lc_.at hd hx).same s8) (ibg _ (List.getElem_mem hj)), _, rfl, ?_⟩
              cases hp : intB gs[j] with
              | true => exact iteF (h1 _ (Same.refl _) hp)
              | false => exact iteT ⟨_, rfl, h2 _ _ (Same.refl _) hp⟩
            · intro H8 us s8 e8 he2
              refine ⟨by show 0 ≤ sizeLine; decide, fun p2 hp2 => ?_⟩
              have sp2 := same_new (o := .lst []) hp2
              refine ⟨D2, p2, us, rfl, rfl, SqL.of (sp2 _ _ e8), SqL.of upd_same, _, rfl, ?_⟩
              rw [he2]
              have s9 := s8.trans sp2
              cases hg : gs.all intB with
              | true => exact iteF ⟨_, _, rfl, s7.trans s9, yes hg⟩
              | false => exact iteT ⟨by show 0 ≤ sizeLine; decide, fun L hL => ret0 _ L (s57.trans s9) hL (no_ hg)⟩
          · rw [decide_eq_false (show V.int (ws.length : Nat) ≠ V.int (rv.length : Nat) from fun h => hl (by injection h with h; omega))]
            rw [eA, decide_eq_false (fun h => hl (by omega)), Bool.false_and] at no_
            exact iteT ⟨by show 0 ≤ sizeLine; decide, fun L hL => ret0 _ L s57 hL (no_ rfl)⟩
        · have : areB (rs.length : Nat) rs[i] = false := by
            cases h : rs[i] with
            | tuple gs => exact absurd h (no gs)
            | _ => rfl
          exact ⟨_, rfl, _, i4, _, rfl, iteT ⟨by show 0 ≤ sizeLine; decide, fun L hL => ret0 _ L s57 hL (no_ this)⟩⟩
      · rintro σ H7 ⟨v2, v5, rfl, s7, ok⟩
        refine ⟨_, rfl, by show 1 ≤ sizeLine; decide, fun L hL => ?_⟩
        have sL := same_new (o := .lst [.ref a]) hL
        have st : stB x = true := by
          rw [eB, decide_eq_true (by omega), decide_eq_true (by omega), List.all_eq_true.mpr fun x hx => by
            obtain ⟨j, hj, rfl⟩ := List.getElem_of_mem hx
            exact ok j hj (by omega)]
          rfl
        have ed : standD x = .tuple [d1, d2, .tuple cs, .tuple rs] := by
          rw [sd]
          refine if_pos ?_
          by_cases c : standB (.tuple [d1, d2, .tuple cs, .tuple rs]) = true
          · exact c
          · rw [if_neg c] at sd
            exact absurd sd (stB_iff.mp st)
        refine q _ L _ ((s2.trans s7).trans sL) (fresh (s2.trans s7) hL) upd_same ?_
        rw [st, if_pos rfl, ed]
        exact .cons ((dv.same s7).same sL) .nil
end
end Wd

set_option Elab.async false
set_option linter.all false
set_option maxRecDepth 100000
set_option maxHeartbeats 4000000
set_option pp.maxSteps 400
set_option pp.deepTerms false
namespace Wd
open PySem L2 TL
open SX (S)

open PySem.Spec PyProof.Rows CwR
/-! ### a line with an event, by the law -/
def evR (x : List Nat) (now : Int) : List PyData := if eventB (evD (spl [32] 0 [] x)) = true ∧ now ≤ evT (evD (spl [32] 0 [] x)) then [evD (spl [32] 0 [] x)] else []
def ev4 (t n l u : List Nat) : PyData := .tuple [intD t, .str (S n), .str (S l), intD u]
theorem ev4_eq (t n l u : List Nat) : eventB (ev4 t n l u) = (timeB (intD t) && (nameB (.str (S n)) && (letterB (.str (S l)) && intB (intD u)))) := rfl
theorem evR_no {x : List Nat} {now : Int} {t n l u : List Nat} (hw : spl [32] 0 [] x = [t, n, l, u]) (h : eventB (ev4 t n l u) = false) : evR x now = [] := by
  have e : evD (spl [32] 0 [] x) = .none := by
    rw [hw]
    show (if eventB (ev4 t n l u) = true then ev4 t n l u else .none) = _
    rw [h, if_neg (by decide)]
  unfold evR
  rw [e, if_neg fun h => by cases h.1]
theorem evR_yes {x : List Nat} {now i : Int} {t n l u : List Nat} (hw : spl [32] 0 [] x = [t, n, l, u]) (h : eventB (ev4 t n l u) = true) (hi : intD t = .int i) : evR x now = if now ≤ i then [ev4 t n l u] else [] := by
  have e : evD (spl [32] 0 [] x) = ev4 t n l u := by
    rw [hw]
    exact if_pos h
  have et : evT (ev4 t n l u) = i := by
    unfold ev4
    rw [hi]
    rfl
  unfold evR
  rw [e, et]
  by_cases c : now ≤ i
  · rw [if_pos c, if_pos ⟨h, c⟩]
  · rw [if_neg c, if_neg fun h => c h.2]
theorem wv_intD {t : List Nat} {d : PyData} (h : wv t = [d]) : (∃ i, d = .int i ∧ intD t = .int i) ∨ ((∀ i, d ≠ .int i) ∧ intD t = .none) := by
  rcases wv_cases t with e | ⟨d', e, ed, no, ib, pl⟩
  · rw [e] at h
    cases h
  · rw [e] at h
    injection h with h
    subst h
    rcases flat_is no (ib 0) with rfl | ⟨z, rfl, hz⟩ | ⟨i, rfl, h1, h2⟩
    case inr.inr =>
      refine .inl ⟨i, rfl, ?_⟩
      rw [← ed]
      exact intD_back h1 h2
    all_goals
      refine .inr ⟨fun i e => (nomatch e), ?_⟩
      rcases intD_cases t with h | ⟨i, h⟩
      · exact h
      · obtain ⟨h1, h2, h3⟩ := intD_int h
        have hi : itemB 0 (.int i) = true := by
          rw [itemB_no (d := .int i) (fun ds e => (by cases e)) (fun e => (by cases e)), Bool.or_eq_true]
          right
          show (decide (-ten60 < i) && decide (i < ten60)) = true
          rw [decide_eq_true h1, decide_eq_true h2]
          rfl
        have := wv_item (k := 0) (d := .int i) (fun ds e => (by cases e)) hi
        rw [show itemT (.int i) = t from h3.symm, e] at this
        cases this
theorem wv_none {t : List Nat} (h : wv t = []) : intD t = .none := by
  rcases intD_cases t with e | ⟨i, e⟩
  · exact e
  · obtain ⟨h1, h2, h3⟩ := intD_int e
    have hi : itemB 0 (.int i) = true := by
      rw [itemB_no (d := .int i) (fun ds e => (by cases e)) (fun e => (by cases e)), Bool.or_eq_true]
      right
      show (decide (-ten60 < i) && decide (i < ten60)) = true
      rw [decide_eq_true h1, decide_eq_true h2]
      rfl
    have := wv_item (k := 0) (d := .int i) (fun ds e => (by cases e)) hi
    rw [show itemT (.int i) = t from h3.symm, h] at this
    cases this
theorem wv_word (n : List Nat) : PyData.eqv (.list (wv n)) (.list [.str (S n)]) = wordB (.str (S n)) := by
  unfold wv
  by_cases h45 : n = [45]
  · rw [if_pos h45, h45]
    simp [PyData.eqv, PyData.eqvAll]
    rfl
  · rw [if_neg h45]
    cases hw : wordB (.str (S n)) with
    | true =>
      rw [if_pos rfl]
      simp [PyData.eqv, PyData.eqvAll]
    | false =>
      rw [if_neg (by decide)]
      rcases intD_cases n with h | ⟨i, h⟩ <;> rw [h] <;> simp [PyData.eqv, PyData.eqvAll]
theorem flat_shape {ds : List PyData} (h : ds = [] ∨ (∃ d, ds = [d] ∧ ((d = .none) ∨ (∃ i, d = .int i) ∨ ∃ z, d = .str z ∧ PyData.strOk z = true))) : SeqAt.shaped (.list ds) = true := by
  unfold SeqAt.shaped
  rcases h with rfl | ⟨d, rfl, rfl | ⟨i, rfl⟩ | ⟨z, rfl, hz⟩⟩
  · simp [PyData.canLay0, PyData.canLayAll0, PyData.depth, PyData.depthAll]
  · simp [PyData.canLay0, PyData.canLayAll0, PyData.depth, PyData.depthAll]
  · simp [PyData.canLay0, PyData.canLayAll0, PyData.depth, PyData.depthAll]
  · simp [PyData.canLay0, PyData.canLayAll0, PyData.depth, PyData.depthAll, hz]
theorem wv_shape {n : List Nat} (h : PyData.strOk (S n) = true) : SeqAt.shaped (.list (wv n)) = true := by
  refine flat_shape ?_
  unfold wv
  split
  · exact .inr ⟨_, rfl, .inl rfl⟩
  · split
    · exact .inr ⟨_, rfl, .inr (.inr ⟨_, rfl, h⟩)⟩
    · rcases intD_cases n with h | ⟨i, h⟩ <;> rw [h]
      · exact .inl rfl
      · exact .inr ⟨_, rfl, .inr (.inl ⟨i, rfl⟩)⟩
theorem wv_pure (n : List Nat) : pureL (wv n) = true := by
  refine pureL_iff.mpr fun d hd => ?_
  rcases wv_cases n with e | ⟨d', e, _, _, ib, _⟩
  · rw [e] at hd
    cases hd
  · rw [e] at hd
    rw [List.mem_singleton.mp hd]
    exact item_pure 0 (ib 0)
mutual
theorem DA.dp {K : PySem.W.Frag} {A : List Addr} {H : Hp} : ∀ {d : PyData} {v : V}, DA A H d v → pureB d = true → Dp K H v d
  | _, _, .non, _ => .non
  | _, _, .bl b, _ => .bl b
  | _, _, .int i, _ => .int i
  | _, _, .str z, _ => .str z
  | _, _, .tup n e l, h => .tup (SqT.of e) (l.dp h)
theorem DAL.dp {K : PySem.W.Frag} {A : List Addr} {H : Hp} : ∀ {ds : List PyData} {xs : List V}, DAL A H ds xs → pureL ds = true → DpAll K H xs ds
  | _, _, .nil, _ => .nil
  | _, _, .cons (d := d) (ds := ds) a as, h => by
    have h : (pureB d && pureL ds) = true := h
    rw [Bool.and_eq_true] at h
    exact .cons (a.dp h.1) (as.dp h.2)
end
theorem timeB_split {d : PyData} {i : Int} (h : d = .int i) : timeB d = (intB d && decide (0 ≤ i)) := by
  subst h
  show (decide (0 ≤ i) && decide (i < ten60)) = ((decide (-ten60 < i) && decide (i < ten60)) && decide (0 ≤ i))
  have z : (0 : Int) < ten60 := by decide
  by_cases h : 0 ≤ i
  · rw [decide_eq_true h, decide_eq_true (show -ten60 < i by omega), Bool.true_and, Bool.and_true]
  · rw [decide_eq_false h, Bool.false_and, Bool.and_false]
theorem word_low {z : Str} : wordB (.str z) = true ↔ 1 ≤ z.length ∧ z.cps.toList.all lowB = true := by
  show (decide (z.cps.toList ≠ []) && z.cps.toList.all lowB) = true ↔ _
  rw [Bool.and_eq_true, decide_eq_true_eq]
  refine and_congr_left fun _ => ⟨fun h => ?_, fun h e => ?_⟩
  · rw [len_cps]
    exact List.length_pos_iff.mpr h
  · rw [len_cps, e] at h
    exact absurd h (by decide)
theorem name_eq (z : Str) : nameB (.str z) = (decide (1 ≤ z.length) && (decide (z.length ≤ 8) && (z.cps.toList.all lowB && decide (z ∉ words)))) := rfl
theorem name_no {z : Str} (h : wordB (.str z) = false ∨ 8 < z.length ∨ z ∈ words) : nameB (.str z) = false := by
  cases e : nameB (.str z) with
  | false => rfl
  | true =>
    rw [name_eq, Bool.and_eq_true, Bool.and_eq_true, Bool.and_eq_true, decide_eq_true_eq, decide_eq_true_eq, decide_eq_true_eq] at e
    rcases h with h | h | h
    · rw [word_low.mpr ⟨e.1, e.2.2.1⟩] at h
      cases h
    · omega
    · exact absurd h e.2.2.2
theorem name_yes {z : Str} (h : wordB (.str z) = true) (h8 : z.length ≤ 8) (hw : z ∉ words) : nameB (.str z) = true := by
  obtain ⟨a, b⟩ := word_low.mp h
  rw [name_eq, decide_eq_true a, decide_eq_true h8, b, decide_eq_true hw]
  rfl
theorem let_eq (z : Str) : letterB (.str z) = (decide (z.cps.toList.length = 1) && z.cps.toList.all lowB) := rfl
theorem let_no {z : Str} (h : wordB (.str z) = false ∨ 1 < z.length) : letterB (.str z) = false := by
  cases e : letterB (.str z) with
  | false => rfl
  | true =>
    rw [let_eq, Bool.and_eq_true, decide_eq_true_eq, ← len_cps] at e
    rcases h with h | h
    · rw [word_low.mpr ⟨by omega, e.2⟩] at h
      cases h
    · omega
theorem let_yes {z : Str} (h : wordB (.str z) = true) (h1 : z.length ≤ 1) : letterB (.str z) = true := by
  obtain ⟨a, b⟩ := word_low.mp h
  rw [let_eq, b, decide_eq_true (by rw [← len_cps]; omega)]
  rfl

def spLEvent : Sp := fun vs H Q _ => ∃ (x : List Nat) (now : Int), vs = [.str (S x), .int now] ∧ LineOk x ∧ 0 ≤ now ∧ ∀ H' L xs, Same H H' → H L = none → H' L = some (.lst xs) → DAL [] H' (evR x now) xs → Q (.ref L) H'
section
variable {P : Program} {w : World} {K : PySem.W.Frag} {mg : Str → Option Value} {base : Heap} {fI fL fT fW : Addr} {dT fdW : FuncData}
abbrev nLE : List Str := ["line", "now", "words", "time", "value", "name", "letter"]
theorem scLE : FnScope nLE ["line", "now"] (defScope sLineEvent) := ⟨rfl, rfl, rfl, by decide +kernel, rfl, by decide +kernel, by decide +kernel⟩
theorem ok_line_event {f : Addr} {fd : FuncData} (F : Fun K "_law_line_event" "_law_line_event" sLineEvent f fd) (X : WTxt mg fI fL) (wrds : mg "_law_words" = some (.ref fW)) (FW : Fun K "_law_words" "_law_words" sWords fW fdW) (bW : Binds K fdW [] []) (W : At P w K mg base 1 "_law_word_value" fT dT ["word"] spWordV) : FnOk P w K mg base CX0 2 f fd ["line", "now"] spLEvent := by
  have GW : FnOk P w K mg base CX0 1 fW fdW [] spWords := ok_words FW
  refine F.ok scLE (fun vs H Q E h => ?_) (fun cdv Ao outer s H vs Q E hr h => ?_)
  · obtain ⟨x, now, rfl, _⟩ := h
    rfl
  · obtain ⟨x, now, rfl, lok, now0, q⟩ := h
    have nd := scLE.nd
    have hr1 : Room 1 _ := hr.mono (by decide)
    have hu := Nat.lt_of_le_of_lt (Nat.le_add_right _ _) hr.units
    have op_eqNil := op_eqNil' (X := (cxOf CX0 P w K mg base nLE "_law_line_event" (defScope sLineEvent) f cdv Ao outer s H E).nox) hu
    refine ⟨_, pss_cons (ps_set (i := 2) nd rfl (Or.inl rfl) (pe_split (pv 0) pe_str))
      (pss_cons (ps_if (pt_cmpR op_ne (pe_callB call_len_seq (by rfl) X.len PySem.boot_len (pa_cons (pv 2) pa_nil)) pe_int (nomark _)) (pss_one (ps_ret (pe_lst pa_nil))) pss_nil)
      (pss_cons (ps_par (i := 3) (j := 4) (by rfl) nd rfl rfl (by decide) rfl rfl (pa_cons (pe_call W.g hr1 rfl W.m W.kp W.b .nil pass0 (pa_cons (pe_ix (r := rIxL K) ix_list (pv 2) pe_int (fun _ _ => rfl)) pa_nil)) (pa_cons (pe_call W.g hr1 rfl W.m W.kp W.b .nil pass0 (pa_cons (pe_ix (r := rIxL K) ix_list (pv 2) pe_int (fun _ _ => rfl)) pa_nil)) pa_nil)) rfl)
      (pss_cons (ps_if (PW.pt (pw_or (pt_cmpR op_eqNil (pv 3) (pe_lst pa_nil) (nomark _)) (pw_or (pt_cmpR op_eqNil (pv 4) (pe_lst pa_nil) (nomark _)) (pw_or (pt_not (pt_val (pe_isi (N := "int") (pe_ix (r := rIxL K) ix_list (pv 3) pe_int (fun _ _ => rfl)) X.isin X.int))) (pw_or (pt_not (pt_val (pe_isi (N := "int") (pe_ix (r := rIxL K) ix_list (pv 4) pe_int (fun _ _ => rfl)) X.isin X.int))) (pw_or1 (pt_cmpR op_lt (pe_ix (r := rIxL K) ix_list (pv 3) pe_int (fun _ _ => rfl)) (pv 1) (nomark _)))))))) (pss_one (ps_ret (pe_lst pa_nil))) pss_nil)
      (pss_cons (ps_par (i := 5) (j := 6) (by rfl) nd rfl rfl (by decide) rfl rfl (pa_cons (pe_call W.g hr1 rfl W.m W.kp W.b .nil pass0 (pa_cons (pe_ix (r := rIxL K) ix_list (pv 2) pe_int (fun _ _ => rfl)) pa_nil)) (pa_cons (pe_call W.g hr1 rfl W.m W.kp W.b .nil pass0 (pa_cons (pe_ix (r := rIxL K) ix_list (pv 2) pe_int (fun _ _ => rfl)) pa_nil)) pa_nil)) rfl)
      (pss_cons (ps_if (PW.pt (pw_or (pt_cmpR (op_neD hr.units) (pv 5) (pe_lst (pa_cons (pe_ix (r := rIxL K) ix_list (pv 2) pe_int (fun _ _ => rfl)) pa_nil)) (nomark _)) (pw_or (pt_cmpR (op_neD hr.units) (pv 6) (pe_lst (pa_cons (pe_ix (r := rIxL K) ix_list (pv 2) pe_int (fun _ _ => rfl)) pa_nil)) (nomark _)) (pw_or (pt_cmpR op_gt (pe_callB call_len_str (by rfl) X.len PySem.boot_len (pa_cons (pe_ix (r := rIxL K) ix_list (pv 2) pe_int (fun _ _ => rfl)) pa_nil)) pe_int (nomark _)) (pw_or1 (pt_cmpR op_gt (pe_callB call_len_str (by rfl) X.len PySem.boot_len (pa_cons (pe_ix (r := rIxL K) ix_list (pv 2) pe_int (fun _ _ => rfl)) pa_nil)) pe_int (nomark _))))))) (pss_one (ps_ret (pe_lst pa_nil))) pss_nil)
      (pss_cons (ps_if (pt_cmpR op_in_seq (pe_ix (r := rIxL K) ix_list (pv 2) pe_int (fun _ _ => rfl)) (pe_call0 GW hr1 rfl wrds FW.kp bW .nil pass0) (by rfl)) (pss_one (ps_ret (pe_lst pa_nil))) pss_nil)
      (pss_one (ps_ret (pe_lst (pa_cons (pe_tup (pa_cons (pe_ix (r := rIxL K) ix_list (pv 3) pe_int (fun _ _ => rfl)) (pa_cons (pe_ix (r := rIxL K) ix_list (pv 2) pe_int (fun _ _ => rfl)) (pa_cons (pe_ix (r := rIxL K) ix_list (pv 2) pe_int (fun _ _ => rfl)) (pa_cons (pe_ix (r := rIxL K) ix_list (pv 4) pe_int (fun _ _ => rfl)) pa_nil))))) pa_nil)))))))))), ?_⟩
    have lS : (S x).length = x.length := SX.S_len _
    have lx := lok.l
    have big : (16777216 : Nat) ≤ sizeLine := by decide
    have fresh : ∀ {Hx : Hp} {p : Addr}, Same H Hx → Hx p = none → H p = none := fun {Hx p} s h => by
      cases e : H p with
      | none => rfl
      | some o => rw [s _ _ e] at h; cases h
    have ret0 : ∀ Hx L, Same H Hx → Hx L = none → evR x now = [] → Q (.ref L) (upd Hx L (.lst [])) := fun Hx L sx hL h => by
      refine q _ L _ (sx.trans (same_new hL)) (fresh sx hL) upd_same ?_
      rw [h]
      exact .nil
    refine ⟨_, rfl, ⟨_, rfl⟩, _, _, rfl, rfl, rfl, by rw [lS]; omega, fun p hp => ?_⟩
    have s1 := same_new (o := .lst ((Txt.split (S x) (Str.ofString " ")).map V.str)) hp
    have ep : (upd H p (.lst ((Txt.split (S x) (Str.ofString " ")).map V.str))) p = some (.lst (wV (spl [32] 0 [] x))) := by
      rw [upd_same, show Str.ofString " " = S [32] from rfl, SX.split_S (by simp) (by decide), wV_eq]
    generalize upd H p (.lst ((Txt.split (S x) (Str.ofString " ")).map V.str)) = H1 at s1 ep ⊢
    obtain ⟨sn, sl, sp⟩ := spl_ok (s := 32) x
    have okw : ∀ y ∈ spl [32] 0 [] x, y.length ≤ 25000 ∧ PyData.strOk (S y) = true := fun y hy => ⟨by have := (sp y hy).1; omega, sign_ok fun c hc => lok.a c ((sp y hy).2.1 c hc)⟩
    refine ⟨_, rfl, p, _, rfl, .inl (SqL.of ep), rfl, _, rfl, ?_⟩
    rw [wV_len]
    by_cases h4 : (spl [32] 0 [] x).length = 4
    case neg =>
      rw [decide_eq_false (show V.int ((spl [32] 0 [] x).length : Nat) ≠ V.int 4 from fun e => by injection e with e; omega)]
      refine iteT ⟨by show 0 ≤ sizeLine; decide, fun L hL => ret0 _ L s1 hL ?_⟩
      unfold evR
      rw [evD_not h4, if_neg fun h => by cases h.1]
    rw [decide_eq_true (show V.int ((spl [32] 0 [] x).length : Nat) = V.int 4 from by rw [h4]; rfl)]
    obtain ⟨t, n, l, u, hw⟩ : ∃ t n l u, spl [32] 0 [] x = [t, n, l, u] := by
      match spl [32] 0 [] x, h4 with
      | [t, n, l, u], _ => exact ⟨t, n, l, u, rfl⟩
    rw [hw] at ep okw
    have ot := okw t (by simp)
    have on := okw n (by simp)
    have ol := okw l (by simp)
    have ou := okw u (by simp)
    refine iteF ⟨_, rfl, p, _, 0, _, rfl, rfl, SqL.of ep, rfl, t, rfl, by omega, fun H2 L1 xs1 s2 hL1 e1 d1 => ?_⟩
    have ep := s2 _ _ ep
    refine ⟨_, rfl, p, _, 3, _, rfl, rfl, SqL.of ep, rfl, u, rfl, by omega, fun H3 L2 xs2 s3 hL2 e2 d2 => ?_⟩
    have ep := s3 _ _ ep
    have e1 := s3 _ _ e1
    have d1 := d1.same s3
    have sa := (s1.trans s2).trans s3
    refine ⟨_, _, rfl, _, rfl, by show 0 ≤ sizeLine; decide, fun z1 hz1 => ?_⟩
    have sz1 := same_new (o := .lst []) hz1
    refine ⟨L1, z1, xs1, rfl, rfl, SqL.of (sz1 _ _ e1), SqL.of upd_same, _, rfl, ?_⟩
    have ep := sz1 _ _ ep
    have e1 := sz1 _ _ e1
    have e2 := sz1 _ _ e2
    have d1 := d1.same sz1
    have d2 := d2.same sz1
    have sa := sa.trans sz1
    generalize upd H3 z1 (.lst []) = H4 at ep e1 e2 d1 d2 sa ⊢
    -- the time and the value
    have noT : intD t = .none → evR x now = [] := fun h => evR_no hw (by rw [ev4_eq, h]; rfl)
    have noU : intD u = .none → evR x now = [] := fun h => evR_no hw (by rw [ev4_eq, h, show intB .none = false from rfl, Bool.and_false, Bool.and_false, Bool.and_false])
    rcases wv_cases t with et | ⟨dt, et, _, _, ibt, _⟩
    · rw [et] at d1
      cases d1
      exact iteT ⟨by show 0 ≤ sizeLine; decide, fun L hL => ret0 _ L sa hL (noT (wv_none et))⟩
    rw [et] at d1
    cases d1 with
    | @cons _ _ vt _ dvt dn =>
    cases dn
    refine iteF ⟨_, rfl, by show 0 ≤ sizeLine; decide, fun z2 hz2 => ?_⟩
    have sz2 := same_new (o := .lst []) hz2
    refine ⟨L2, z2, xs2, rfl, rfl, SqL.of (sz2 _ _ e2), SqL.of upd_same, _, rfl, ?_⟩
    have ep := sz2 _ _ ep
    have e1 := sz2 _ _ e1
    have e2 := sz2 _ _ e2
    have dvt := dvt.same sz2
    have d2 := d2.same sz2
    have sa := sa.trans sz2
    generalize upd H4 z2 (.lst []) = H5 at ep e1 e2 dvt d2 sa ⊢
    rcases wv_cases u with eu | ⟨du, eu, _, _, ibu, _⟩
    · rw [eu] at d2
      cases d2
      exact iteT ⟨by show 0 ≤ sizeLine; decide, fun L hL => ret0 _ L sa hL (noU (wv_none eu))⟩
    rw [eu] at d2
    cases d2 with
    | @cons _ _ vu _ dvu dn =>
    cases dn
    refine iteF ⟨_, rfl, L1, _, 0, _, rfl, rfl, SqL.of e1, rfl, _, isi_int dvt (ibt 0), _, rfl, ?_⟩
    rcases wv_intD et with ⟨i, rfl, hi⟩ | ⟨nt, hi⟩
    case inr =>
      have : intB dt = false := by
        rcases int_item (ibt 0) with ⟨i, e, _⟩ | ⟨_, h⟩
        · exact absurd e (nt i)
        · exact h
      rw [this]
      exact iteT ⟨by show 0 ≤ sizeLine; decide, fun L hL => ret0 _ L sa hL (noT hi)⟩
    have ib1 : intB (.int i) = true := by
      rcases int_item (ibt 0) with ⟨_, _, h⟩ | ⟨h, _⟩
      · exact h
      · exact absurd rfl (h i)
    rw [ib1]
    refine iteF ⟨_, rfl, L2, _, 0, _, rfl, rfl, SqL.of e2, rfl, _, isi_int dvu (ibu 0), _, rfl, ?_⟩
    rcases wv_intD eu with ⟨j, rfl, hj⟩ | ⟨nu, hj⟩
    case inr =>
      have : intB du = false := by
        rcases int_item (ibu 0) with ⟨i, e, _⟩ | ⟨_, h⟩
        · exact absurd e (nu i)
        · exact h
      rw [this]
      exact iteT ⟨by show 0 ≤ sizeLine; decide, fun L hL => ret0 _ L sa hL (noU hj)⟩
    have ib2 : intB (.int j) = true := by
      rcases int_item (ibu 0) with ⟨_, _, h⟩ | ⟨h, _⟩
      · exact h
      · exact absurd rfl (h j)
    rw [ib2]
    cases dvt
    cases dvu
    refine iteF ⟨_, rfl, L1, _, 0, _, rfl, rfl, SqL.of e1, rfl, _, rfl, _, _, rfl, rfl, _, rfl, ?_⟩
    by_cases hlt : i < now
    · rw [decide_eq_true hlt]
      refine iteT ⟨by show 0 ≤ sizeLine; decide, fun L hL => ret0 _ L sa hL ?_⟩
      cases hev : eventB (ev4 t n l u) with
      | false => exact evR_no hw hev
      | true => rw [evR_yes hw hev hi, if_neg (by omega)]
    rw [decide_eq_false hlt]
    -- the name and the letter
    refine iteF ⟨_, rfl, p, _, 1, _, rfl, rfl, SqL.of ep, rfl, n, rfl, by omega, fun H6 L3 xs3 s6 hL3 e3 d3 => ?_⟩
    have ep := s6 _ _ ep
    refine ⟨_, rfl, p, _, 2, _, rfl, rfl, SqL.of ep, rfl, l, rfl, by omega, fun H7 L4 xs4 s7 hL4 e4 d4 => ?_⟩
    have ep := s7 _ _ ep
    have e3 := s7 _ _ e3
    have d3 := d3.same s7
    have e1 := s7 _ _ (s6 _ _ e1)
    have e2 := s7 _ _ (s6 _ _ e2)
    have sa := (sa.trans s6).trans s7
    refine ⟨_, _, rfl, _, rfl, _, rfl, p, _, 1, _, rfl, rfl, SqL.of ep, rfl, by show 1 ≤ sizeLine; decide, fun z3 hz3 => ?_⟩
    have sz3 := same_new (o := .lst [.str (S n)]) hz3
    refine ⟨.list (wv n), .list [.str (S n)], .lst (SqL.of (sz3 _ _ e3)) ((d3.same sz3).dp (wv_pure n)), .lst (SqL.of upd_same) (.cons (.str _) .nil), wv_shape on.2, flat_shape (.inr ⟨_, rfl, .inr (.inr ⟨_, rfl, on.2⟩)⟩), _, rfl, ?_⟩
    rw [wv_word]
    have ep := sz3 _ _ ep
    have e1 := sz3 _ _ e1
    have e2 := sz3 _ _ e2
    have e4 := sz3 _ _ e4
    have d4 := d4.same sz3
    have sa := sa.trans sz3
    generalize upd H7 z3 (.lst [.str (S n)]) = H8 at ep e1 e2 e4 d4 sa ⊢
    have eq4 := ev4_eq t n l u
    cases hwn : wordB (.str (S n)) with
    | false =>
      refine iteT ⟨by show 0 ≤ sizeLine; decide, fun L hL => ret0 _ L sa hL (evR_no hw ?_)⟩
      rw [eq4, name_no (.inl hwn), Bool.false_and, Bool.and_false]
    | true =>
    refine iteF ⟨_, rfl, _, rfl, p, _, 2, _, rfl, rfl, SqL.of ep, rfl, by show 1 ≤ sizeLine; decide, fun z4 hz4 => ?_⟩
    have sz4 := same_new (o := .lst [.str (S l)]) hz4
    refine ⟨.list (wv l), .list [.str (S l)], .lst (SqL.of (sz4 _ _ e4)) ((d4.same sz4).dp (wv_pure l)), .lst (SqL.of upd_same) (.cons (.str _) .nil), wv_shape ol.2, flat_shape (.inr ⟨_, rfl, .inr (.inr ⟨_, rfl, ol.2⟩)⟩), _, rfl, ?_⟩
    rw [wv_word]
    have ep := sz4 _ _ ep
    have e1 := sz4 _ _ e1
    have e2 := sz4 _ _ e2
    have sa := sa.trans sz4
    generalize upd H8 z4 (.lst [.str (S l)]) = H9 at ep e1 e2 sa ⊢
    cases hwl : wordB (.str (S l)) with
    | false =>
      refine iteT ⟨by show 0 ≤ sizeLine; decide, fun L hL => ret0 _ L sa hL (evR_no hw ?_)⟩
      rw [eq4, let_no (.inl hwl), Bool.false_and, Bool.and_false, Bool.and_false]
    | true =>
    have lN : (S n).length = n.length := SX.S_len _
    have lL : (S l).length = l.length := SX.S_len _
    refine iteF ⟨_, rfl, p, _, 1, _, rfl, rfl, SqL.of ep, rfl, S n, rfl, by rw [lN]; omega, _, _, rfl, rfl, _, rfl, ?_⟩
    rw [lN]
    by_cases h8 : n.length ≤ 8
    case neg =>
      rw [decide_eq_true (by omega)]
      refine iteT ⟨by show 0 ≤ sizeLine; decide, fun L hL => ret0 _ L sa hL (evR_no hw ?_)⟩
      rw [eq4, name_no (.inr (.inl (by rw [lN]; omega))), Bool.false_and, Bool.and_false]
    rw [decide_eq_false (by omega)]
    refine iteF ⟨_, rfl, p, _, 2, _, rfl, rfl, SqL.of ep, rfl, S l, rfl, by rw [lL]; omega, _, _, rfl, rfl, _, rfl, ?_⟩
    rw [lL]
    by_cases h1 : l.length ≤ 1
    case neg =>
      rw [decide_eq_true (by omega)]
      refine iteT ⟨by show 0 ≤ sizeLine; decide, fun L hL => ret0 _ L sa hL (evR_no hw ?_)⟩
      rw [eq4, let_no (.inr (by rw [lL]; omega)), Bool.false_and, Bool.and_false, Bool.and_false]
    rw [decide_eq_false (by omega)]
    refine iteF ⟨_, rfl, p, _, 1, _, rfl, rfl, SqL.of ep, rfl, rfl, fun H10 l3 same _ hl3 => ⟨l3, _, rfl, .inl (SqL.of hl3), rfl, flat_strs _, _, rfl, ?_⟩⟩
    have ep := same _ _ ep
    have e1 := same _ _ e1
    have e2 := same _ _ e2
    have sa := sa.trans same
    by_cases hin : S n ∈ words
    · rw [show (inV (.str (S n)) (words.map V.str)) = true from (inV_words (S n) words).mpr hin]
      refine iteT ⟨by show 0 ≤ sizeLine; decide, fun L hL => ret0 _ L sa hL (evR_no hw ?_)⟩
      rw [eq4, name_no (.inr (.inr hin)), Bool.false_and, Bool.and_false]
    rw [show (inV (.str (S n)) (words.map V.str)) = false from by
      cases h : inV (.str (S n)) (words.map V.str) with
      | false => rfl
      | true => exact absurd ((inV_words (S n) words).mp h) hin]
    refine iteF ⟨_, rfl, L1, _, 0, _, rfl, rfl, SqL.of e1, rfl, _, rfl, p, _, 1, _, rfl, rfl, SqL.of ep, rfl, _, rfl, p, _, 2, _, rfl, rfl, SqL.of ep, rfl, _, rfl, L2, _, 0, _, rfl, rfl, SqL.of e2, rfl, by show 4 ≤ sizeLine; decide, fun tp htp => ⟨by show 1 ≤ sizeLine; decide, fun L hL => ?_⟩⟩
    have st := same_new (o := .tup [.int i, .str (S n), .str (S l), .int j]) htp
    have sL := same_new (o := .lst [.ref tp]) hL
    refine q _ L _ ((sa.trans st).trans sL) (fresh (sa.trans st) hL) upd_same ?_
    have hev : eventB (ev4 t n l u) = true := by
      rw [eq4, hi, hj, ib2, name_yes hwn (by rw [lN]; exact h8) hin, let_yes hwl (by rw [lL]; exact h1), timeB_split rfl, ib1, decide_eq_true (by omega)]
      rfl
    rw [evR_yes hw hev hi, if_pos (by omega)]
    unfold ev4
    rw [hi, hj]
    exact .cons (.tup (fun z => nomatch z) (sL _ _ upd_same) (.cons (.int _) (.cons (.str _) (.cons (.str _) (.cons (.int _) .nil))))) .nil
end
end Wd

set_option Elab.async false
set_option linter.all false
set_option maxRecDepth 100000
set_option maxHeartbeats 4000000
set_option pp.maxSteps 400
set_option pp.deepTerms false
namespace Wd
open PySem L2 TL
open SX (S)

open PySem.Spec PyProof.Rows CwR
/-! ### what is due for a list, for rounds -/
def ResAt (H : Hp) (r : RR) (v : V) : Prop := match r with
  | .bad i => v = .int (i : Nat)
  | .ok d => DA [] H d v
def spDueL : Sp := fun vs H Q _ => ∃ (a : Addr) (x0 : List Nat) (ls : List (List Nat)), vs = [.ref a] ∧ H a = some (.lst (wV (x0 :: ls))) ∧ ls.length ≤ 390000 ∧ (∀ x ∈ ls, LineOk x) ∧ ∀ H' v, Same H H' → ResAt H' (listR [] 1 ls) v → Q v H'
def rowR (es : List PyData) (t : Int) : RR → RR
  | .bad i => .bad i
  | .ok d => .ok (.tuple [.str (Str.ofString "row"), .tuple es, .int t, d])
def spDueR : Sp := fun vs H Q _ => ∃ (a b : Addr) (s : Nat) (ls : List (List Nat)) (es : List PyData) (xs : List V) (t : Int), vs = [.ref a, .int (s : Nat), .ref b, .int t] ∧ H a = some (.lst (wV ls)) ∧ H b = some (.lst xs) ∧ DAL [] H es xs ∧ pureL es = true ∧ s ≤ ls.length ∧ ls.length ≤ 390001 ∧ (∀ x ∈ ls, LineOk x) ∧
  ∀ H' v, Same H H' → ResAt H' (rowR es t (roundsR es.length [] s (ls.drop s))) v → Q v H'
section
variable {P : Program} {w : World} {K : PySem.W.Frag} {mg : Str → Option Value} {base : Heap} {fI fL fT : Addr} {dT : FuncData}
abbrev nDL : List Str := ["lines", "stands", "spot", "line", "found"]
theorem scDL : FnScope nDL ["lines"] (defScope sDueList) := ⟨rfl, rfl, rfl, by decide +kernel, rfl, by decide +kernel, by decide +kernel⟩
theorem ok_due_list {f : Addr} {fd : FuncData} (F : Fun K "_law_due_list" "_law_due_list" sDueList f fd) (X : WTxt mg fI fL) (enm : mg "enumerate" = none) (ST : At P w K mg base 24 "_law_line_stand" fT dT ["line"] spLStand) : FnOk P w K mg base CX0 25 f fd ["lines"] spDueL := by
  refine F.ok scDL (fun vs H Q E h => ?_) (fun cdv Ao outer s H vs Q E hr h => ?_)
  · obtain ⟨a, x0, ls, rfl, _⟩ := h
    rfl
  · obtain ⟨a, x0, ls, rfl, e0, ln, lok, q⟩ := h
    have nd := scDL.nd
    have hr24 : Room 24 _ := hr.mono (by decide)
    have hu := Nat.lt_of_le_of_lt (Nat.le_add_right _ _) hr.units
    have op_eqNil := op_eqNil' (X := (cxOf CX0 P w K mg base nDL "_law_due_list" (defScope sDueList) f cdv Ao outer s H E).nox) hu
    refine ⟨_, pss_cons (ps_set (i := 1) nd rfl (Or.inl rfl) (pe_lst pa_nil))
      (pss_cons (ps_for PassesOwn.never rfl (pi_enum (by rfl) enm (pa_cons (pe_slice sl_list (pv 0) (po_some pe_int) po_none) pa_nil)) (pg_tup rfl (pgs_cons (pg_name (i := 2) nd rfl (Or.inl rfl)) (pgs_cons (pg_name (i := 3) nd rfl (Or.inl rfl)) pgs_nil))) (pss_cons (ps_set (i := 4) nd rfl (Or.inl rfl) (pe_call ST.g hr24 rfl ST.m ST.kp ST.b .nil pass0 (pa_cons (pv 3) pa_nil)))
      (pss_cons (ps_if (pt_cmpR op_eqNil (pv 4) (pe_lst pa_nil) (nomark _)) (pss_one (ps_ret (pe_op op_add (pv 2) pe_int))) pss_nil)
      (pss_one (ps_expr (pe_bm PySem.F.plainAttrs_list PySem.F.slot_list_append PySem.F.type_list_append mt_append (pv 1) (pa_cons (pe_ix (r := rIxL K) ix_list (pv 4) pe_int (fun _ _ => rfl)) pa_nil)))))))
      (pss_one (ps_ret (pe_tup (pa_cons pe_str (pa_cons (pe_callTy call_tuple_of (by rfl) X.tup (by decide +kernel) (pa_cons (pv 1) pa_nil)) pa_nil)))))), ?_⟩
    have big : (16777216 : Nat) ≤ sizeLine := by decide
    refine ⟨by show 0 ≤ sizeLine; decide, fun O hO => ?_⟩
    have sO := same_new (o := .lst []) hO
    have eO : (upd H O (.lst [])) O = some (.lst []) := upd_same
    have e1 := sO _ _ e0
    generalize upd H O (.lst []) = H1 at sO eO e1
    have noO : ∀ {H' : Hp} {o : HO}, Same H H' → Same H (upd H' O o) := fun {H' o} s b ob e => by
      rw [upd_ne (ne_of_none e hO)]
      exact s b ob e
    refine ⟨_, rfl, _, rfl, a, _, rfl, SqL.of e1, fun c hc => ?_⟩
    have sc := same_new (o := .lst (cutV (wV (x0 :: ls)) (some 1) none)) hc
    have ec : (upd H1 c (.lst (cutV (wV (x0 :: ls)) (some 1) none))) c = some (.lst (wV ls)) := by
      rw [upd_same]
      exact congrArg (fun z => some (HO.lst z)) (cut_drop (x0 :: ls) 1)
    have nOc : O ≠ c := fun e => by rw [← e, eO] at hc; cases hc
    have eO := sc _ _ eO
    have sO := sO.trans sc
    generalize upd H1 c (.lst (cutV (wV (x0 :: ls)) (some 1) none)) = H2 at sO eO ec
    refine ⟨c, _, rfl, SqL.of ec, ?_⟩
    have lw := wV_len ls
    refine for_it (n := (wV ls).length) (walk_enum (K := K) (a := c) (xs := wV ls)) (fun i σ H' => ∃ (ss : List PyData) (xs : List V) (v2 v3 v4 : Option V), σ = [some (.ref a), some (.ref O), v2, v3, v4] ∧ Same H H' ∧ H' c = some (.lst (wV ls)) ∧ H' O = some (.lst xs) ∧ DAL [] H' ss xs ∧ pureL ss = true ∧ ss.length = i ∧ listR [] 1 ls = listR ss (1 + i) (ls.drop i))
      ⟨[], [], none, none, none, rfl, sO, ec, eO, .nil, rfl, rfl, rfl⟩ (fun _ _ _ _ ⟨_, _, _, _, _, _, _, h, _⟩ => SqL.of h) ?_ ?_
    · rintro i x σ H3 H' hi ⟨ss, xs, v2, v3, v4, rfl, s3, ec, eO, dal, pu, li, run⟩ ⟨T0, x1, y1, rfl, hT, rfl, h3, h4⟩
      rw [lw] at hi
      have g1 : some (V.int (i : Nat)) = some x1 := h3
      have g2 : (wV ls)[i]? = some y1 := h4
      rw [wV_get hi] at g2
      cases g1
      cases g2
      have sT := same_new (o := .tup [.int (i : Nat), .str (S ls[i])]) hT
      have qT : (upd H3 T0 (.tup [.int (i : Nat), .str (S ls[i])])) T0 = some (.tup [.int (i : Nat), .str (S ls[i])]) := upd_same
      generalize upd H3 T0 (.tup [.int (i : Nat), .str (S ls[i])]) = H4 at sT qT
      have s4 := s3.trans sT
      have ec := sT _ _ ec
      have eO := sT _ _ eO
      have dal := dal.same sT
      have lx := lok _ (List.getElem_mem hi)
      rw [List.drop_eq_getElem_cons hi] at run
      generalize ls[i] = x at lx run qT
      refine ⟨T0, _, rfl, SqT.of qT, rfl, _, _, rfl, _, _, rfl, rfl, ?_⟩
      refine ⟨_, rfl, x, rfl, lx, fun H5 L ys s5 hL eL dl => ?_⟩
      refine ⟨_, rfl, by show 0 ≤ sizeLine; decide, fun z hz => ?_⟩
      have sz := same_new (o := .lst []) hz
      refine ⟨L, z, ys, rfl, rfl, SqL.of (sz _ _ eL), SqL.of upd_same, _, rfl, ?_⟩
      have eL := sz _ _ eL
      have s6 := (s4.trans s5).trans sz
      have ec := sz _ _ (s5 _ _ ec)
      have eO := sz _ _ (s5 _ _ eO)
      have dal := (dal.same s5).same sz
      have dl := dl.same sz
      generalize upd H5 z (.lst []) = H6 at eL s6 ec eO dal dl
      have rn : listR ss (1 + i) (x :: ls.drop (i + 1)) = if stB x = true then listR (ss ++ [standD x]) (1 + i + 1) (ls.drop (i + 1)) else .bad (1 + i) := rfl
      by_cases hst : stB x = true
      · rw [if_pos hst] at dl rn
        cases dl with
        | @cons _ _ v _ dv dn =>
        cases dn
        have lxs : xs.length = i := by rw [← dal.length]; exact li
        refine iteF ⟨_, rfl, .inl ⟨rfl, _, SqL.of eO⟩, _, rfl, L, _, 0, _, rfl, rfl, SqL.of eL, rfl, O, xs, _, rfl, rfl, eO, by omega, ?_⟩
        have k : TK H6 (upd H6 O (.lst (xs ++ [v]))) := TK.lst eO
        refine ⟨ss ++ [standD x], _, _, _, _, rfl, noO s6, ?_, upd_same, (dal.tk k pu).app (.cons (dv.tk k (standD_pure x)) .nil), ?_, ?_, ?_⟩
        · rw [upd_ne (Ne.symm nOc)]
          exact ec
        · refine pureL_iff.mpr fun d hd => ?_
          rcases List.mem_append.mp hd with hd | hd
          · exact pureL_iff.mp pu d hd
          · rw [List.mem_singleton.mp hd]
            exact standD_pure x
        · rw [List.length_append, li]
          rfl
        · rw [run, rn]
          rfl
      · rw [if_neg hst] at dl rn
        cases dl
        refine iteT ⟨_, rfl, _, _, rfl, rfl, q _ _ s6 ?_⟩
        rw [run, rn]
        show V.int ((i : Int) + 1) = V.int ((1 + i : Nat) : Int)
        congr 1
        omega
    · rintro σ H3 ⟨ss, xs, v2, v3, v4, rfl, s3, ec, eO, dal, pu, li, run⟩
      rw [lw, List.drop_length] at run
      refine ⟨_, rfl, O, _, rfl, .inl ⟨SqL.of eO, fun b hb => ⟨by show 2 ≤ sizeLine; decide, fun p hp => ?_⟩⟩⟩
      have sb := same_new (o := .tup xs) hb
      have sp := same_new (o := .tup [.str (Str.ofString "list"), .ref b]) hp
      refine q _ _ ((s3.trans sb).trans sp) ?_
      rw [run]
      exact .tup (fun z => nomatch z) upd_same (.cons (.str _) (.cons (.tup (fun z => nomatch z) (sp _ _ upd_same) ((dal.same sb).same sp)) .nil))
abbrev nDR : List Str := ["lines", "spot", "events", "late", "rounds", "found", "row"]
theorem scDR : FnScope nDR ["lines", "spot", "events", "late"] (defScope sDueRounds) := ⟨rfl, rfl, rfl, by decide +kernel, rfl, by decide +kernel, by decide +kernel⟩
theorem ok_due_rounds {f : Addr} {fd : FuncData} (F : Fun K "_law_due_rounds" "_law_due_rounds" sDueRounds f fd) (X : WTxt mg fI fL) (ST : At P w K mg base 24 "_law_line_stand" fT dT ["line"] spLStand) : FnOk P w K mg base CX0 25 f fd ["lines", "spot", "events", "late"] spDueR := by
  refine F.ok scDR (fun vs H Q E h => ?_) (fun cdv Ao outer s H vs Q E hr h => ?_)
  · obtain ⟨a, b, s, ls, es, xs, t, rfl, _⟩ := h
    rfl
  · obtain ⟨a, b, sp0, ls, es, xs, t, rfl, e0, eb0, dal0, pu0, hs, ln, lok, q⟩ := h
    have nd := scDR.nd
    have hr24 : Room 24 _ := hr.mono (by decide)
    have hu := Nat.lt_of_le_of_lt (Nat.le_add_right _ _) hr.units
    have op_neNil := op_neNil' (X := (cxOf CX0 P w K mg base nDR "_law_due_rounds" (defScope sDueRounds) f cdv Ao outer s H E).nox) hu
    refine ⟨_, pss_cons (ps_set (i := 4) nd rfl (Or.inl rfl) (pe_lst pa_nil))
      (pss_cons (ps_while PassesOwn.never (pt_cmpR op_lt (pv 1) (pe_callB call_len_seq (by rfl) X.len PySem.boot_len (pa_cons (pv 0) pa_nil)) (nomark _)) (pss_cons (ps_set (i := 5) nd rfl (Or.inl rfl) (pe_call ST.g hr24 rfl ST.m ST.kp ST.b .nil pass0 (pa_cons (pe_ix (r := rIxL K) ix_list (pv 0) (pv 1) (fun _ _ => rfl)) pa_nil)))
      (pss_cons (ps_if (PW.pt (pw_and (pt_cmpR op_eq (pe_ix (r := rIxL K) ix_list (pv 0) (pv 1) (fun _ _ => rfl)) pe_str (nomark _)) (pw_and1 (pt_cmpR op_lt (pe_callB call_len_seq (by rfl) X.len PySem.boot_len (pa_cons (pv 4) pa_nil)) (pe_callB call_len_seq (by rfl) X.len PySem.boot_len (pa_cons (pv 2) pa_nil)) (nomark _))))) (pss_one (ps_expr (pe_bm PySem.F.plainAttrs_list PySem.F.slot_list_append PySem.F.type_list_append mt_append (pv 4) (pa_cons (pe_lst pa_nil) pa_nil)))) (pss_one (ps_if (PW.pt (pw_and (pt_cmpR op_neNil (pv 5) (pe_lst pa_nil) (nomark _)) (pw_and1 (pt_cmpR op_neNil (pv 4) (pe_lst pa_nil) (nomark _))))) (pss_one (ps_expr (pe_bm PySem.F.plainAttrs_list PySem.F.slot_list_append PySem.F.type_list_append mt_append (pe_ix ix_list (pv 4) (pe_un un_neg pe_int) (fun _ _ => rfl)) (pa_cons (pe_ix (r := rIxL K) ix_list (pv 5) pe_int (fun _ _ => rfl)) pa_nil)))) (pss_one (ps_ret (pv 1))))))
      (pss_one (ps_set (i := 1) nd rfl (Or.inl rfl) (pe_op op_add (pv 1) pe_int))))))
      (pss_cons (ps_if (pt_cmpR op_lt (pe_callB call_len_seq (by rfl) X.len PySem.boot_len (pa_cons (pv 4) pa_nil)) (pe_callB call_len_seq (by rfl) X.len PySem.boot_len (pa_cons (pv 2) pa_nil)) (nomark _)) (pss_one (ps_ret (pv 1))) pss_nil)
      (pss_one (ps_ret (pe_tup (pa_cons pe_str (pa_cons (pe_callTy call_tuple_of (by rfl) X.tup (by decide +kernel) (pa_cons (pv 2) pa_nil)) (pa_cons (pv 3) (pa_cons (pe_callTy call_tuple_of (by rfl) X.tup (by decide +kernel) (pa_cons (pe_lc (own := [("row", 6)]) (g := gName 6) (tt := tYes) rfl nd (pi_list (pv 4)) (blkOk_by (N := nDR) (sc := defScope sDueRounds) (by decide +kernel)) (fun _ _ _ _ _ => pg_name (i := 6) nd rfl (Or.inl rfl)) (fun _ _ _ _ _ => pts_nil) (fun _ _ _ _ _ => (pe_callTy (call_tupO (K := K) rfl) (by rfl) X.tup (by decide +kernel) (pa_cons (pv 6) pa_nil)))) pa_nil)) pa_nil))))))))), ?_⟩
    have big : (16777216 : Nat) ≤ sizeLine := by decide
    have le0 := dal0.length
    refine ⟨by show 0 ≤ sizeLine; decide, fun O hO => ?_⟩
    have sO := same_new (o := .lst []) hO
    have eO : (upd H O (.lst [])) O = some (.lst []) := upd_same
    generalize upd H O (.lst []) = H1 at sO eO
    have noO : ∀ {H' : Hp} {o : HO}, Same H H' → Same H (upd H' O o) := fun {H' o} s b ob e => by
      rw [upd_ne (ne_of_none e hO)]
      exact s b ob e
    have fresh : ∀ {Hx : Hp} {p : Addr}, Same H Hx → Hx p = none → H p = none := fun {Hx p} s h => by
      cases e : H p with
      | none => rfl
      | some o => rw [s _ _ e] at h; cases h
    have lw := wV_len ls
    refine while_own (fun mm σ H' => ∃ (i : Nat) (st : List (List PyData × Addr)) (v5 : Option V), σ = [some (.ref a), some (.int (i : Nat)), some (.ref b), some (.int t), some (.ref O), v5, none] ∧ Same H H' ∧ StAt H O H' st ∧ i ≤ ls.length ∧ st.length ≤ i ∧ (∀ p ∈ st, p.1.length ≤ i) ∧ roundsR es.length [] sp0 (ls.drop sp0) = roundsR es.length (st.map (·.1)) i (ls.drop i) ∧ mm = ls.length - i)
      ⟨_, sp0, [], none, rfl, sO, ⟨eO, (fun p h => nomatch h), (fun p h => nomatch h), List.nodup_nil, (fun h => nomatch h), fun p h => nomatch h⟩, hs, Nat.zero_le _, (fun p h => nomatch h), rfl, rfl⟩ ?_
    rintro mm σ H2 ⟨i, st, v5, rfl, s2, mt, hi, li, lp, run, rfl⟩
    have e2 := s2 _ _ e0
    have lO : (List.map V.ref (st.map (·.2)).reverse).length = st.length := by simp
    refine ⟨_, rfl, _, rfl, a, _, rfl, .inl (SqL.of e2), _, _, rfl, rfl, _, rfl, ?_⟩
    rw [lw]
    by_cases hlt : i < ls.length
    case neg =>
      rw [decide_eq_false (by omega)]
      have ei : i = ls.length := by omega
      rw [List.drop_of_length_le (by omega : ls.length ≤ i)] at run
      have rn : roundsR es.length (st.map (·.1)) i [] = (if (st.map (·.1)).length < es.length then .bad i else .ok (.tuple ((st.map (·.1)).reverse.map .tuple))) := rfl
      rw [List.length_map] at rn
      have eb2 := s2 _ _ eb0
      refine iteF ⟨_, rfl, O, _, rfl, .inl (SqL.of mt.l), _, rfl, b, _, rfl, .inl (SqL.of eb2), _, _, rfl, rfl, _, rfl, ?_⟩
      rw [lO]
      by_cases hm : st.length < es.length
      · rw [decide_eq_true (by omega)]
        rw [if_pos hm] at rn
        refine iteT ⟨_, rfl, q _ _ s2 ?_⟩
        rw [run, rn]
        rfl
      · rw [decide_eq_false (by omega)]
        rw [if_neg hm] at rn
        refine iteF ⟨_, rfl, b, _, rfl, .inl ⟨SqL.of eb2, fun c hc => ⟨_, rfl, _, rfl, O, rfl, ⟨_, SqL.of ((same_new hc) _ _ mt.l)⟩, fun D hD => ?_⟩⟩⟩
        have sc := same_new (o := .tup xs) hc
        have ec : (upd H2 c (.tup xs)) c = some (.tup xs) := upd_same
        have mt := mt.keep sc
        have s2 := s2.trans sc
        generalize upd H2 c (.tup xs) = H3 at ec mt s2 hD
        have lrs : ((st.map (·.1)).reverse.map PyData.tuple).length = st.length := by simp
        refine lc_data (walk_list (K := K) (xs := List.map V.ref (st.map (·.2)).reverse) (a := O)) ((st.map (·.1)).reverse.map .tuple) (by rw [lO, lrs]) (fun d hd => ?_) hD (by omega) (fun H4 s4 => SqL.of (s4 _ _ mt.l)) ?_ ?_
        · obtain ⟨ss, hs, rfl⟩ := List.mem_map.mp hd
          obtain ⟨p, hp, rfl⟩ := List.mem_map.mp (List.mem_reverse.mp hs)
          exact mt.pu p hp
        · rintro i x H4 H' kT hi s4 ⟨rfl, hx⟩ kk
          rw [lrs] at hi
          have hir : i < st.reverse.length := by rw [List.length_reverse]; omega
          have ex : x = .ref st.reverse[i].2 := by
            rw [← List.map_reverse, List.map_map, List.getElem?_map, List.getElem?_eq_getElem hir] at hx
            injection hx with hx
            exact hx.symm
          have hm : st.reverse[i] ∈ st := List.mem_reverse.mp (List.getElem_mem hir)
          obtain ⟨xs, eb, dl⟩ := mt.it _ hm
          refine ⟨rfl, _, rfl, st.reverse[i].2, xs, by rw [ex], .inl ⟨SqL.of (s4 _ _ eb), fun q hq => ?_⟩⟩
          have sq := same_new (o := .tup xs) hq
          refine kk _ _ sq ?_
          have er : ((st.map (·.1)).reverse.map PyData.tuple)[i]'(by rw [lrs]; omega) = .tuple st.reverse[i].1 := by
            have : ((st.map (·.1)).reverse.map PyData.tuple)[i]? = some (.tuple st.reverse[i].1) := by rw [← List.map_reverse, List.map_map, List.getElem?_map, List.getElem?_eq_getElem hir]; rfl
            rw [List.getElem?_eq_getElem (by rw [lrs]; omega)] at this
            injection this
          rw [er]
          exact .tup (fun z => nomatch z) upd_same ((dl.same s4).same sq)
        · intro H4 ys s4 ey dy
          refine ⟨D, ys, rfl, .inl ⟨SqL.of ey, fun g hg => ⟨by show 4 ≤ sizeLine; decide, fun p hp => ?_⟩⟩⟩
          have sg := same_new (o := .tup ys) hg
          have sp := same_new (o := .tup [.str (Str.ofString "row"), .ref c, .int t, .ref g]) hp
          have s5 := ((s2.trans s4).trans sg).trans sp
          refine q _ _ s5 ?_
          rw [run, rn]
          exact .tup (fun z => nomatch z) upd_same (.cons (.str _) (.cons (.tup (fun z => nomatch z) (sp _ _ (sg _ _ (s4 _ _ ec))) (dal0.same s5)) (.cons (.int _) (.cons (.tup (fun z => nomatch z) (sp _ _ upd_same) ((dy.same sg).same sp)) .nil))))
    rw [decide_eq_true (by omega)]
    have lx := lok _ (List.getElem_mem hlt)
    have at_ : atI (wV ls) (i : Int) = some (.str (S ls[i])) := atI_nat (wV_get hlt)
    rw [List.drop_eq_getElem_cons hlt] at run
    generalize ls[i] = x at lx at_ run
    have rn : roundsR es.length (st.map (·.1)) i (x :: ls.drop (i + 1)) = (if x = rndW ∧ (st.map (·.1)).length < es.length then roundsR es.length ([] :: st.map (·.1)) (i + 1) (ls.drop (i + 1))
      else match st.map (·.1) with
        | [] => .bad i
        | t :: st' => if stB x = true then roundsR es.length ((t ++ [standD x]) :: st') (i + 1) (ls.drop (i + 1)) else .bad i) := rfl
    rw [List.length_map] at rn
    refine iteT ⟨_, fun _ _ h => h, ?_⟩
    refine ⟨_, rfl, _, rfl, a, _, _, _, rfl, rfl, SqL.of e2, at_, x, rfl, lx, fun H3 L ys s3 hL eL dl => ?_⟩
    have e3 := s3 _ _ e2
    have mt := mt.keep s3
    have s3 := s2.trans s3
    have eb3 := s3 _ _ eb0
    refine ⟨_, rfl, _, rfl, a, _, _, _, rfl, rfl, SqL.of e3, at_, rfl, _, rfl, ?_⟩
    apply use_two2 (I := fun Hx => Hx = H3 ∧ ¬ (x = rndW ∧ st.length < es.length))
    case main =>
      intro els
      by_cases hx : x = rndW
      · rw [decide_eq_true (show V.str (S x) = V.str (Str.ofString "round") from by rw [hx]; exact congrArg V.str (SX.S_tl _))]
        refine iteT ⟨_, rfl, O, _, rfl, .inl (SqL.of mt.l), _, rfl, b, _, rfl, .inl (SqL.of eb3), _, _, rfl, rfl, _, rfl, ?_⟩
        rw [lO]
        by_cases hm : st.length < es.length
        · rw [decide_eq_true (by omega)]
          refine iteT ⟨_, rfl, .inl ⟨rfl, _, SqL.of mt.l⟩, by show 0 ≤ sizeLine; decide, fun p hp => ?_⟩
          obtain ⟨m', k⟩ := mt.push hp (fresh s3 hp)
          have s4 := same_new (o := .lst []) hp
          refine ⟨O, _, .ref p, rfl, rfl, s4 _ _ mt.l, by rw [lO]; omega, _, rfl, _, _, rfl, rfl, ls.length - (i + 1), by omega, i + 1, ([], p) :: st, _, rfl, noO (s3.trans s4), m', hlt, by rw [List.length_cons]; omega, fun p' hp' => ?_, ?_, rfl⟩
          · rcases List.mem_cons.mp hp' with rfl | hp'
            · exact Nat.zero_le _
            · have := lp p' hp'
              omega
          · rw [run, rn, if_pos ⟨hx, hm⟩]
            rfl
        · rw [decide_eq_false (by omega)]
          refine iteF ?_
          generalize hy : H3 = Hy
          exact els Hy ⟨hy.symm, fun h => hm h.2⟩
      · rw [decide_eq_false (show V.str (S x) ≠ V.str (Str.ofString "round") from fun e => hx (V_S.mp (by rw [e]; rfl)))]
        exact iteF (els H3 ⟨rfl, fun h => hx h.1⟩)
    case two =>
    rintro H3 ⟨rfl, hno⟩
    rw [if_neg hno] at rn
    refine ⟨_, rfl, by show 0 ≤ sizeLine; decide, fun z hz => ?_⟩
    have sz := same_new (o := .lst []) hz
    refine ⟨L, z, ys, rfl, rfl, SqL.of (sz _ _ eL), SqL.of upd_same, _, rfl, ?_⟩
    have eL := sz _ _ eL
    have dl := dl.same sz
    have mt := mt.keep sz
    have s4 := s3.trans sz
    generalize upd H3 z (.lst []) = H4 at eL dl mt s4
    by_cases hst : stB x = true
    case neg =>
      rw [if_neg hst] at dl
      cases dl
      refine iteF ⟨_, rfl, q _ _ s4 ?_⟩
      rw [run, rn]
      cases st with
      | nil => rfl
      | cons p r =>
        show ResAt _ (rowR es t (if stB x = true then _ else .bad i)) _
        rw [if_neg hst]
        rfl
    rw [if_pos hst] at dl
    cases dl with
    | @cons _ _ v _ dv dn =>
    cases dn
    refine iteT ⟨_, rfl, by show 0 ≤ sizeLine; decide, fun z2 hz2 => ?_⟩
    have sz2 := same_new (o := .lst []) hz2
    refine ⟨O, z2, _, rfl, rfl, SqL.of (sz2 _ _ mt.l), SqL.of upd_same, _, rfl, ?_⟩
    have eL := sz2 _ _ eL
    have dv := dv.same sz2
    have mt := mt.keep sz2
    have s5 := s4.trans sz2
    generalize upd H4 z2 (.lst []) = H5 at eL dv mt s5
    cases st with
    | nil =>
      refine iteF ⟨_, rfl, q _ _ s5 ?_⟩
      rw [run, rn]
      rfl
    | cons p r =>
      obtain ⟨t0, b1⟩ := p
      have eO2 : H5 O = some (.lst ((r.map (·.2)).reverse.map V.ref ++ [.ref b1])) := by
        rw [mt.l]
        show some (HO.lst ((b1 :: r.map (·.2)).reverse.map V.ref)) = _
        rw [List.reverse_cons, List.map_append]
        rfl
      have ne : (!(List.map V.ref (List.map (fun x => x.2) ((t0, b1) :: r)).reverse).isEmpty) = true := by
        show (!((b1 :: r.map (·.2)).reverse.map V.ref).isEmpty) = true
        rw [List.reverse_cons, List.map_append]
        cases (r.map (·.2)).reverse.map V.ref <;> rfl
      rw [ne]
      obtain ⟨xs1, eb, dl⟩ := mt.it (t0, b1) (by simp)
      have eb : H5 b1 = some (.lst xs1) := eb
      have lxs : t0.length = xs1.length := dl.length
      have t9 : t0.length ≤ i := lp (t0, b1) (by simp)
      have b0 : H b1 = none := mt.nw (t0, b1) (by simp)
      refine iteT ⟨_, rfl, _, rfl, O, _, _, _, rfl, rfl, SqL.of eO2, atI_last _ _, .inl ⟨rfl, _, SqL.of eb⟩, _, rfl, L, _, 0, _, rfl, rfl, SqL.of eL, rfl, b1, xs1, v, rfl, rfl, eb, by omega, ?_⟩
      obtain ⟨m', k⟩ := mt.item eb dv (standD_pure x)
      refine ⟨_, rfl, _, _, rfl, rfl, ls.length - (i + 1), by omega, i + 1, (t0 ++ [standD x], b1) :: r, _, rfl, fun d o e => ?_, m', hlt, ?_, fun p' hp' => ?_, ?_, rfl⟩
      · rw [upd_ne (ne_of_none e b0)]
        exact s5 _ _ e
      · rw [List.length_cons] at li ⊢
        omega
      · rcases List.mem_cons.mp hp' with rfl | hp'
        · show (t0 ++ [standD x]).length ≤ i + 1
          rw [List.length_append, List.length_singleton]
          omega
        · have := lp p' (List.mem_cons_of_mem _ hp')
          omega
      · rw [run, rn]
        exact if_pos hst
end
end Wd

set_option Elab.async false
set_option linter.all false
set_option maxRecDepth 100000
set_option maxHeartbeats 4000000
set_option pp.maxSteps 400
set_option pp.deepTerms false
namespace Wd
open PySem L2 TL
open SX (S)

open PySem.Spec PyProof.Rows CwR
/-! ### what is due, by the law -/
theorem spl_back {s : Nat} (x : List Nat) : joinL [s] (spl [s] 0 [] x) = x := by
  obtain ⟨P, h1, h2, h3⟩ := parts_of x (s := s)
  have sp : spl [s] 0 [] x = P := by
    rw [h3]
    exact spl_join h1 h2
  rw [sp]
  exact h3.symm
theorem untW_len : untW.length = 5 := by decide +kernel
theorem untW_no : 32 ∉ untW := by decide +kernel
theorem untD_some {x : List Nat} {t : Int} : untD x = some t ↔ ∃ y, x = untW ++ 32 :: y ∧ intD y = .int t := by
  constructor
  · intro h
    unfold untD at h
    split at h
    · rename_i u y hs
      split at h
      · rename_i hu
        split at h
        · rename_i i hi
          cases h
          refine ⟨y, ?_, hi⟩
          have := spl_back (s := 32) x
          rw [hs, hu] at this
          exact this.symm
        · cases h
      · cases h
    · cases h
  · rintro ⟨y, rfl, hy⟩
    obtain ⟨h1, h2, e⟩ := intD_int hy
    have n32 : 32 ∉ y := fun h => by
      rw [e] at h
      have := intL_sign h1 h2 32 h
      omega
    have hs : spl [32] 0 [] (joinL [32] [untW, y]) = [untW, y] := spl_join (by simp) fun p hp => by
      have hp : p = untW ∨ p = y := by simpa using hp
      rcases hp with rfl | rfl
      · exact untW_no
      · exact n32
    have hs : spl [32] 0 [] (untW ++ 32 :: y) = [untW, y] := hs
    unfold untD
    rw [hs]
    show (if untW = untW then (match intD y with | .int i => some i | _ => none) else none) = some t
    rw [if_pos rfl, hy]
theorem six {x : List Nat} : x.take 6 = untW ++ [32] ↔ ∃ y, x = untW ++ 32 :: y := by
  constructor
  · intro h
    refine ⟨x.drop 6, ?_⟩
    have := List.take_append_drop 6 x
    rw [h] at this
    exact this.symm.trans (by simp)
  · rintro ⟨y, rfl⟩
    have : untW ++ 32 :: y = (untW ++ [32]) ++ y := by simp
    rw [this, List.take_left' (by rw [List.length_append, untW_len]; rfl)]
theorem evR_nil {x : List Nat} {now : Int} (h : evR x now = []) : ¬ (eventB (evD (spl [32] 0 [] x)) = true ∧ now ≤ evT (evD (spl [32] 0 [] x))) := fun c => by
  unfold evR at h
  rw [if_pos c] at h
  cases h
theorem evR_cases (x : List Nat) (now : Int) : evR x now = [] ∨ ((eventB (evD (spl [32] 0 [] x)) = true ∧ now ≤ evT (evD (spl [32] 0 [] x))) ∧ evR x now = [evD (spl [32] 0 [] x)] ∧ untD x = none) := by
  by_cases c : eventB (evD (spl [32] 0 [] x)) = true ∧ now ≤ evT (evD (spl [32] 0 [] x))
  · refine .inr ⟨c, if_pos c, ?_⟩
    unfold untD
    split
    · rename_i u y hs
      have : evD (spl [32] 0 [] x) = .none := evD_not (by rw [hs]; show 2 ≠ 4; decide)
      rw [this] at c
      cases c.1
    · rfl
  · exact .inl (if_neg c)
theorem tape_cons (es : List PyData) (i : Nat) (x : List Nat) (r : List (List Nat)) : tapeR es i (x :: r) = (match untD x with
    | some t => if lastT (.tuple es) ≤ t then TR.fin es t r else .bad i
    | none => if eventB (evD (spl [32] 0 [] x)) = true ∧ lastT (.tuple es) ≤ evT (evD (spl [32] 0 [] x)) then tapeR (es ++ [evD (spl [32] 0 [] x)]) (i + 1) r else .bad i) := rfl
def spDue : Sp := fun vs H Q _ => ∃ x : List Nat, vs = [.str (S x)] ∧ PTxt x ∧ ∀ H' v, Same H H' → ResAt H' (paperR x) v → Q v H'
section
variable {P : Program} {w : World} {K : PySem.W.Frag} {mg : Str → Option Value} {base : Heap} {fI fL fE fW fD fR : Addr} {dE dW dD dR : FuncData}
abbrev nDu : List Str := ["text", "lines", "events", "now", "spot", "late"]
theorem scDu : FnScope nDu ["text"] (defScope sDue) := ⟨rfl, rfl, rfl, by decide +kernel, rfl, by decide +kernel, by decide +kernel⟩
theorem ok_due {f : Addr} {fd : FuncData} (F : Fun K "_law_due" "_law_due" sDue f fd) (X : WTxt mg fI fL) (LE : At P w K mg base 2 "_law_line_event" fE dE ["line", "now"] spLEvent) (W : At P w K mg base 1 "_law_word_value" fW dW ["word"] spWordV) (DL : At P w K mg base 25 "_law_due_list" fD dD ["lines"] spDueL) (DR : At P w K mg base 25 "_law_due_rounds" fR dR ["lines", "spot", "events", "late"] spDueR) : FnOk P w K mg base CX0 26 f fd ["text"] spDue := by
  refine F.ok scDu (fun vs H Q E h => ?_) (fun cdv Ao outer s H vs Q E hr h => ?_)
  · obtain ⟨x, rfl, _⟩ := h
    rfl
  · obtain ⟨x, rfl, ok, q⟩ := h
    have nd := scDu.nd
    have hr1 : Room 1 _ := hr.mono (by decide)
    have hr2 : Room 2 _ := hr.mono (by decide)
    have hr25 : Room 25 _ := hr.mono (by decide)
    have hu := Nat.lt_of_le_of_lt (Nat.le_add_right _ _) hr.units
    have op_eqNil := op_eqNil' (X := (cxOf CX0 P w K mg base nDu "_law_due" (defScope sDue) f cdv Ao outer s H E).nox) hu
    have op_neNil := op_neNil' (X := (cxOf CX0 P w K mg base nDu "_law_due" (defScope sDue) f cdv Ao outer s H E).nox) hu
    refine ⟨_, pss_cons (ps_set (i := 1) nd rfl (Or.inl rfl) (pe_split (pv 0) pe_str))
      (pss_cons (ps_if (pt_cmpR op_eq (pe_ix (r := rIxL K) ix_list (pv 1) pe_int (fun _ _ => rfl)) pe_str (nomark _)) (pss_one (ps_ret (pe_call DL.g hr25 rfl DL.m DL.kp DL.b .nil pass0 (pa_cons (pv 1) pa_nil)))) pss_nil)
      (pss_cons (ps_if (pt_cmpR op_ne (pe_ix (r := rIxL K) ix_list (pv 1) pe_int (fun _ _ => rfl)) pe_str (nomark _)) (pss_one (ps_ret pe_int)) pss_nil)
      (pss_cons (ps_par3 (i := 2) (j := 3) (l := 4) (by rfl) nd rfl rfl rfl (by decide) (by decide) (by decide) rfl rfl rfl (pa_cons (pe_lst pa_nil) (pa_cons pe_int (pa_cons pe_int pa_nil))) (by rfl))
      (pss_cons (ps_while PassesOwn.never (PW.pt (pw_and (pt_cmpR op_lt (pv 4) (pe_callB call_len_seq (by rfl) X.len PySem.boot_len (pa_cons (pv 1) pa_nil)) (nomark _)) (pw_and1 (pt_cmpR op_neNil (pe_call LE.g hr2 rfl LE.m LE.kp LE.b .nil pass0 (pa_cons (pe_ix (r := rIxL K) ix_list (pv 1) (pv 4) (fun _ _ => rfl)) (pa_cons (pv 3) pa_nil))) (pe_lst pa_nil) (nomark _))))) (pss_cons (ps_expr (pe_bm PySem.F.plainAttrs_list PySem.F.slot_list_extend PySem.F.type_list_extend mt_extend (pv 2) (pa_cons (pe_call LE.g hr2 rfl LE.m LE.kp LE.b .nil pass0 (pa_cons (pe_ix (r := rIxL K) ix_list (pv 1) (pv 4) (fun _ _ => rfl)) (pa_cons (pv 3) pa_nil))) pa_nil)))
      (pss_cons (ps_set (i := 3) nd rfl (Or.inl rfl) (pe_ix (r := rIxT K) ix_tup (pe_ix ix_list (pv 2) (pe_un un_neg pe_int) (fun _ _ => rfl)) pe_int (fun _ _ => rfl)))
      (pss_one (ps_set (i := 4) nd rfl (Or.inl rfl) (pe_op op_add (pv 4) pe_int))))))
      (pss_cons (ps_if (PW.pt (pw_or (pt_cmpR op_eq (pv 4) (pe_callB call_len_seq (by rfl) X.len PySem.boot_len (pa_cons (pv 1) pa_nil)) (nomark _)) (pw_or1 (pt_cmpR op_ne (pe_slice C8.sl_txt (pe_ix (r := rIxL K) ix_list (pv 1) (pv 4) (fun _ _ => rfl)) po_none (po_some pe_int)) pe_str (nomark _))))) (pss_one (ps_ret (pv 4))) pss_nil)
      (pss_cons (ps_set (i := 5) nd rfl (Or.inl rfl) (pe_call W.g hr1 rfl W.m W.kp W.b .nil pass0 (pa_cons (pe_slice C8.sl_txt (pe_ix (r := rIxL K) ix_list (pv 1) (pv 4) (fun _ _ => rfl)) (po_some pe_int) po_none) pa_nil)))
      (pss_cons (ps_if (PW.pt (pw_or (pt_cmpR op_eqNil (pv 5) (pe_lst pa_nil) (nomark _)) (pw_or (pt_not (pt_val (pe_isi (N := "int") (pe_ix (r := rIxL K) ix_list (pv 5) pe_int (fun _ _ => rfl)) X.isin X.int))) (pw_or1 (pt_cmpR op_lt (pe_ix (r := rIxL K) ix_list (pv 5) pe_int (fun _ _ => rfl)) (pv 3) (nomark _)))))) (pss_one (ps_ret (pv 4))) pss_nil)
      (pss_one (ps_ret (pe_call DR.g hr25 rfl DR.m DR.kp DR.b .nil pass0 (pa_cons (pv 1) (pa_cons (pe_op op_add (pv 4) pe_int) (pa_cons (pv 2) (pa_cons (pe_ix (r := rIxL K) ix_list (pv 5) pe_int (fun _ _ => rfl)) pa_nil)))))))))))))), ?_⟩
    have lS : (S x).length = x.length := SX.S_len _
    have big : (16777216 : Nat) ≤ sizeLine := by decide
    have t9 := ok.l
    refine ⟨_, rfl, ⟨_, rfl⟩, _, _, rfl, rfl, rfl, by rw [lS]; omega, fun a ha => ?_⟩
    have s1 := same_new (o := .lst ((Txt.split (S x) (Str.ofString "\n")).map V.str)) ha
    have e1 : (upd H a (.lst ((Txt.split (S x) (Str.ofString "\n")).map V.str))) a = some (.lst (wV (spl [10] 0 [] x))) := by
      rw [upd_same, show Str.ofString "\n" = S [10] from rfl, SX.split_S (by simp) (by decide), wV_eq]
    generalize upd H a (.lst ((Txt.split (S x) (Str.ofString "\n")).map V.str)) = H1 at s1 e1 ⊢
    obtain ⟨sn, sl, sp⟩ := spl_ok (s := 10) x
    have lok := ok.a
    obtain ⟨x0, ls, hw⟩ : ∃ u ws, spl [10] 0 [] x = u :: ws := by
      cases h : spl [10] 0 [] x with
      | nil => exact absurd h sn
      | cons u ws => exact ⟨u, ws, rfl⟩
    rw [hw] at e1 sl lok
    rw [List.length_cons] at sl
    have lok1 : ∀ y ∈ ls, LineOk y := fun y hy => lok y (List.mem_cons_of_mem _ hy)
    have pr : paperR x = (if x0 = listW then listR [] 1 ls
      else if x0 = rowW then (match tapeR [] 1 ls with
        | .bad i => .bad i
        | .fin es t rest => (match roundsR es.length [] (es.length + 2) rest with
          | .bad i => .bad i
          | .ok d => .ok (.tuple [.str (Str.ofString "row"), .tuple es, .int t, d])))
      else .bad 0) := by
      unfold paperR
      rw [hw]
      all_goals rfl
    have lw : (wV (x0 :: ls)).length = ls.length + 1 := by rw [wV_len, List.length_cons]
    refine ⟨_, rfl, a, _, 0, _, rfl, rfl, SqL.of e1, atI_nat (j := 0) rfl, rfl, _, rfl, ?_⟩
    by_cases hl : x0 = listW
    · rw [decide_eq_true (show V.str (S x0) = V.str (Str.ofString "list") from by rw [hl]; exact congrArg V.str (SX.S_tl _))]
      rw [if_pos hl] at pr
      refine iteT ⟨_, rfl, a, x0, ls, rfl, e1, by omega, lok1, fun H2 v s2 res => q _ _ (s1.trans s2) ?_⟩
      rw [pr]
      exact res
    rw [decide_eq_false (show V.str (S x0) ≠ V.str (Str.ofString "list") from fun e => hl (V_S.mp (by rw [e]; rfl)))]
    rw [if_neg hl] at pr
    refine iteF ⟨_, rfl, a, _, 0, _, rfl, rfl, SqL.of e1, atI_nat (j := 0) rfl, rfl, _, rfl, ?_⟩
    by_cases hr0 : x0 = rowW
    case neg =>
      rw [decide_eq_false (show V.str (S x0) ≠ V.str (Str.ofString "row") from fun e => hr0 (V_S.mp (by rw [e]; rfl)))]
      rw [if_neg hr0] at pr
      refine iteT (q _ _ s1 ?_)
      rw [pr]
      rfl
    rw [decide_eq_true (show V.str (S x0) = V.str (Str.ofString "row") from by rw [hr0]; exact congrArg V.str (SX.S_tl _))]
    rw [if_pos hr0] at pr
    have badR : ∀ {i : Nat}, tapeR [] 1 ls = .bad i → paperR x = .bad i := fun {i} h => by
      rw [h] at pr
      exact pr
    refine iteF ⟨by show 0 ≤ sizeLine; decide, fun O hO => ?_⟩
    have sO := same_new (o := .lst []) hO
    have eO : (upd H1 O (.lst [])) O = some (.lst []) := upd_same
    have e1 := sO _ _ e1
    have hO0 : H O = none := by
      cases e : H O with
      | none => rfl
      | some o => rw [s1 _ _ e] at hO; cases hO
    have nOa : a ≠ O := fun e => by
      have z := e1
      rw [e, eO] at z
      injection z with z
      injection z with z
      have := congrArg List.length z
      rw [lw] at this
      cases this
    have sO := s1.trans sO
    generalize upd H1 O (.lst []) = H2 at sO eO e1
    have noO : ∀ {H' : Hp} {o : HO}, Same H H' → Same H (upd H' O o) := fun {H' o} s b ob e => by
      rw [upd_ne (ne_of_none e hO0)]
      exact s b ob e
    have fresh : ∀ {Hx : Hp} {p : Addr}, Same H Hx → Hx p = none → H p = none := fun {Hx p} s h => by
      cases e : H p with
      | none => rfl
      | some o => rw [s _ _ e] at h; cases h
    refine ⟨_, _, _, rfl, ?_⟩
    refine while_own (fun mm σ H' => ∃ (es : List PyData) (xs : List V), σ = [some (.str (S x)), some (.ref a), some (.ref O), some (.int (lastT (.tuple es))), some (.int ((es.length + 1 : Nat) : Int)), none] ∧ Same H H' ∧ H' a = some (.lst (wV (x0 :: ls))) ∧ H' O = some (.lst xs) ∧ DAL [] H' es xs ∧ es.all eventB = true ∧ 0 ≤ lastT (.tuple es) ∧ es.length ≤ ls.length ∧ tapeR [] 1 ls = tapeR es (es.length + 1) (ls.drop es.length) ∧ mm = ls.length - es.length)
      ⟨_, [], [], rfl, sO, e1, eO, .nil, rfl, Int.le_refl _, Nat.zero_le _, rfl, rfl⟩ ?_
    rintro mm σ H3 ⟨es, xs, rfl, s3, ea, eO, dal, ev, now0, le, run, rfl⟩
    have lxs := dal.length
    refine ⟨_, rfl, _, rfl, a, _, rfl, .inl (SqL.of ea), _, _, rfl, rfl, _, rfl, ?_⟩
    rw [lw]
    apply use_two2 (I := fun Hx => Same H3 Hx ∧ ((ls.drop es.length = [] ∧ es.length = ls.length) ∨ ∃ y r, ls.drop es.length = y :: r ∧ evR y (lastT (.tuple es)) = [] ∧ es.length < ls.length ∧ ls[es.length]? = some y ∧ r = ls.drop (es.length + 1)))
    case main =>
      intro exit
      by_cases hlt : es.length < ls.length
      case neg =>
        rw [decide_eq_false (by omega)]
        refine iteF ?_
        generalize hy : H3 = Hy
        exact exit Hy ⟨by rw [hy]; exact Same.refl _, .inl ⟨List.drop_of_length_le (by omega), by omega⟩⟩
      rw [decide_eq_true (by omega)]
      have at_ : atI (wV (x0 :: ls)) (((es.length + 1 : Nat) : Nat) : Int) = some (.str (S ls[es.length])) := atI_nat (by
        unfold wV
        rw [List.getElem?_map]
        show (ls[es.length]?).map _ = _
        rw [List.getElem?_eq_getElem hlt]
        rfl)
      have lx := lok1 _ (List.getElem_mem hlt)
      have hd := List.drop_eq_getElem_cons hlt
      have hg := List.getElem?_eq_getElem hlt
      generalize ls[es.length] = y at at_ lx hd hg
      refine iteT ⟨_, rfl, _, rfl, a, _, _, _, rfl, rfl, SqL.of ea, at_, _, rfl, y, _, rfl, lx, now0, fun H4 L ys s4 hL eL dl => ⟨by show 0 ≤ sizeLine; decide, fun z hz => ?_⟩⟩
      have sz := same_new (o := .lst []) hz
      refine ⟨L, z, ys, rfl, rfl, SqL.of (sz _ _ eL), SqL.of upd_same, _, rfl, ?_⟩
      have s34 := s4.trans sz
      rcases evR_cases y (lastT (.tuple es)) with e0 | ⟨hc, e0, eu⟩
      · rw [e0] at dl
        cases dl
        exact iteF (exit _ ⟨s34, .inr ⟨y, _, hd, e0, hlt, hg, rfl⟩⟩)
      rw [e0] at dl
      cases dl with
      | @cons _ _ v _ dv dn =>
      cases dn
      have ea := s34 _ _ ea
      have eO := s34 _ _ eO
      have dal := dal.same s34
      have s4 := s3.trans s34
      generalize upd H4 z (.lst []) = H5 at ea eO dal s4
      refine iteT ⟨_, fun _ _ h => h, ?_⟩
      refine ⟨_, rfl, .inl ⟨rfl, _, SqL.of eO⟩, _, rfl, _, rfl, a, _, _, _, rfl, rfl, SqL.of ea, at_, _, rfl, y, _, rfl, lx, now0, fun H6 L2 ys2 s6 hL2 eL2 dl2 => ?_⟩
      rw [e0] at dl2
      cases dl2 with
      | @cons _ _ v2 _ dv2 dn2 =>
      cases dn2
      have ea := s6 _ _ ea
      have eO := s6 _ _ eO
      have dal := dal.same s6
      have s6 := s4.trans s6
      refine ⟨O, L2, xs, [v2], rfl, rfl, eO, eL2, by rw [← lxs]; show es.length + 1 ≤ _; omega, ?_⟩
      have k : TK H6 (upd H6 O (.lst (xs ++ [v2]))) := TK.lst eO
      have pv2 : pureB (evD (spl [32] 0 [] y)) = true := event_pure hc.1
      have pes : pureL es = true := pureL_iff.mpr fun d hd => event_pure (List.all_eq_true.mp ev d hd)
      have dal7 : DAL [] (upd H6 O (.lst (xs ++ [v2]))) (es ++ [evD (spl [32] 0 [] y)]) (xs ++ [v2]) := (dal.tk k pes).app (.cons (dv2.tk k pv2) .nil)
      have dv7 := dv2.tk k pv2
      have ea7 : (upd H6 O (.lst (xs ++ [v2]))) a = some (.lst (wV (x0 :: ls))) := by
        rw [upd_ne nOa]
        exact ea
      have eO7 : (upd H6 O (.lst (xs ++ [v2]))) O = some (.lst (xs ++ [v2])) := upd_same
      have s7 : Same H (upd H6 O (.lst (xs ++ [v2]))) := noO s6
      generalize upd H6 O (.lst (xs ++ [v2])) = H7 at dal7 dv7 ea7 eO7 s7
      obtain ⟨b, tt, zs, rfl, eb, _, et, t0, _⟩ := event_head dv7 hc.1
      have ls1 : lastT (.tuple (es ++ [evD (spl [32] 0 [] y)])) = tt := (last_snoc es _).trans et
      refine ⟨_, rfl, _, rfl, O, _, _, _, rfl, rfl, SqL.of eO7, atI_last _ _, b, _, 0, _, rfl, rfl, SqT.of eb, atI_nat (j := 0) rfl, ?_⟩
      refine ⟨_, rfl, _, _, rfl, rfl, ls.length - (es.length + 1), by omega, es ++ [evD (spl [32] 0 [] y)], xs ++ [.ref b], ?_, s7, ea7, eO7, dal7, by rw [List.all_append, ev]; simp [hc.1], by rw [ls1]; exact t0, by rw [List.length_append, List.length_singleton]; omega, ?_, by rw [List.length_append, List.length_singleton]⟩
      · rw [ls1, List.length_append, List.length_singleton]
        rfl
      · rw [run, hd, tape_cons, eu, List.length_append, List.length_singleton]
        exact if_pos hc
    case two =>
    rintro H4 ⟨s4, hex⟩
    have ea := s4 _ _ ea
    have eO := s4 _ _ eO
    have dal := dal.same s4
    have s4 := s3.trans s4
    refine ⟨_, rfl, _, rfl, a, _, rfl, .inl (SqL.of ea), rfl, _, rfl, ?_⟩
    rw [lw]
    rcases hex with ⟨hd, hl⟩ | ⟨y, r, hd, e0, hlt, hg, hr⟩
    · rw [decide_eq_true (show V.int ((es.length + 1 : Nat) : Int) = V.int ((ls.length + 1 : Nat) : Int) from by rw [hl])]
      refine iteT ⟨_, rfl, q _ _ s4 ?_⟩
      rw [badR (run.trans (by rw [hd]; rfl))]
      rfl
    rw [decide_eq_false (show V.int ((es.length + 1 : Nat) : Int) ≠ V.int ((ls.length + 1 : Nat) : Int) from fun e => by injection e with e; omega)]
    have at_ : atI (wV (x0 :: ls)) (((es.length + 1 : Nat) : Nat) : Int) = some (.str (S y)) := atI_nat (by
      unfold wV
      rw [List.getElem?_map]
      show (ls[es.length]?).map _ = _
      rw [hg]
      rfl)
    have lx : LineOk y := lok1 _ (List.mem_of_getElem? hg)
    have l25 := lx.l
    have lSy : (S y).length = y.length := SX.S_len _
    rw [hd, tape_cons] at run
    have badE : (untD y = none ∨ ∃ t, untD y = some t ∧ ¬ lastT (.tuple es) ≤ t) → ResAt H4 (paperR x) (.int ((es.length + 1 : Nat) : Int)) := fun h => by
      have : tapeR [] 1 ls = .bad (es.length + 1) := by
        rw [run]
        rcases h with h | ⟨t, h, hn⟩
        · rw [h]
          exact if_neg (evR_nil e0)
        · rw [h]
          exact if_neg hn
      rw [badR this]
      rfl
    have badS : ∀ {Hx : Hp}, (untD y = none ∨ ∃ t, untD y = some t ∧ ¬ lastT (.tuple es) ≤ t) → Same H Hx → Q (.int ((es.length + 1 : Nat) : Int)) Hx := fun {Hx} h s => q _ _ s (by
      have := badE h
      cases hp : paperR x with
      | bad i =>
        rw [hp] at this
        exact this
      | ok d =>
        exfalso
        have hb : tapeR [] 1 ls = .bad (es.length + 1) := by
          rw [run]
          rcases h with h | ⟨t, h, hn⟩
          · rw [h]
            exact if_neg (evR_nil e0)
          · rw [h]
            exact if_neg hn
        rw [badR hb] at hp
        cases hp)
    refine iteF ⟨_, rfl, _, rfl, a, _, _, _, rfl, rfl, SqL.of ea, at_, _, rfl, S y, rfl, by rw [lSy]; omega, rfl, _, rfl, ?_⟩
    rw [SX.slice_to (by omega), show Int.toNat 6 = 6 from rfl]
    have u6 : Str.ofString "until " = S (untW ++ [32]) := by decide +kernel
    by_cases h6 : y.take 6 = untW ++ [32]
    case neg =>
      rw [decide_eq_false (show V.str (S (y.take 6)) ≠ V.str (Str.ofString "until ") from fun e => h6 (V_S.mp (by rw [e, u6])))]
      refine iteT ⟨_, rfl, badS (.inl ?_) s4⟩
      cases hu : untD y with
      | none => rfl
      | some t =>
        obtain ⟨z, hz, _⟩ := untD_some.mp hu
        exact absurd (six.mpr ⟨z, hz⟩) h6
    rw [decide_eq_true (show V.str (S (y.take 6)) = V.str (Str.ofString "until ") from by rw [h6, u6])]
    obtain ⟨z, hz⟩ := six.mp h6
    have hd6 : y.drop 6 = z := by
      rw [hz, show untW ++ 32 :: z = (untW ++ [32]) ++ z by simp]
      exact List.drop_left' (by rw [List.length_append, untW_len]; rfl)
    have lz : z.length ≤ 25000 := by
      rw [← hd6, List.length_drop]
      omega
    have uz : ∀ t, untD y = some t ↔ intD z = .int t := fun t => by
      rw [untD_some]
      constructor
      · rintro ⟨z', h, hi⟩
        rw [hz] at h
        have := List.append_cancel_left h
        injection this with _ this
        rw [this]
        exact hi
      · exact fun h => ⟨z, hz, h⟩
    have un : intD z = .none → untD y = none := fun h => by
      cases hu : untD y with
      | none => rfl
      | some t =>
        have := (uz t).mp hu
        rw [h] at this
        cases this
    refine iteF ⟨_, rfl, _, rfl, a, _, _, _, rfl, rfl, SqL.of ea, at_, _, rfl, S y, rfl, by rw [lSy]; omega, z, ?_, by omega, fun H5 L ys s5 hL eL dl => ?_⟩
    · rw [SX.slice_from (by omega), show Int.toNat 6 = 6 from rfl, hd6]
      rfl
    refine ⟨_, rfl, by show 0 ≤ sizeLine; decide, fun z1 hz1 => ?_⟩
    have sz := same_new (o := .lst []) hz1
    refine ⟨L, z1, ys, rfl, rfl, SqL.of (sz _ _ eL), SqL.of upd_same, _, rfl, ?_⟩
    have eL := sz _ _ eL
    have s45 := s5.trans sz
    have ea := s45 _ _ ea
    have eO := s45 _ _ eO
    have dal := dal.same s45
    have dl := dl.same sz
    have s5 := s4.trans s45
    generalize upd H5 z1 (.lst []) = H6 at eL ea eO dal dl s5
    rcases wv_cases z with ez | ⟨dz, ez, _, _, ibz, _⟩
    · rw [ez] at dl
      cases dl
      exact iteT ⟨_, rfl, badS (.inl (un (wv_none ez))) s5⟩
    rw [ez] at dl
    cases dl with
    | @cons _ _ v _ dv dn =>
    cases dn
    refine iteF ⟨_, rfl, L, _, 0, _, rfl, rfl, SqL.of eL, rfl, _, isi_int dv (ibz 0), _, rfl, ?_⟩
    rcases wv_intD ez with ⟨t, rfl, ht⟩ | ⟨nt, ht⟩
    case inr =>
      have : intB dz = false := by
        rcases int_item (ibz 0) with ⟨i, e, _⟩ | ⟨_, h⟩
        · exact absurd e (nt i)
        · exact h
      rw [this]
      exact iteT ⟨_, rfl, badS (.inl (un ht)) s5⟩
    have ib1 : intB (.int t) = true := by
      rcases int_item (ibz 0) with ⟨_, _, h⟩ | ⟨h, _⟩
      · exact h
      · exact absurd rfl (h t)
    rw [ib1]
    cases dv
    have hut := (uz t).mpr ht
    refine iteF ⟨_, rfl, L, _, 0, _, rfl, rfl, SqL.of eL, rfl, _, rfl, _, _, rfl, rfl, _, rfl, ?_⟩
    by_cases hle : lastT (.tuple es) ≤ t
    case neg =>
      rw [decide_eq_true (by omega)]
      exact iteT ⟨_, rfl, badS (.inr ⟨t, hut, hle⟩) s5⟩
    rw [decide_eq_false (by omega)]
    have fin : tapeR [] 1 ls = .fin es t r := by
      rw [run, hut]
      exact if_pos hle
    refine iteF ⟨_, rfl, _, rfl, _, _, rfl, rfl, _, rfl, _, rfl, L, _, 0, _, rfl, rfl, SqL.of eL, rfl, a, O, es.length + 2, x0 :: ls, es, xs, t, rfl, ea, eO, dal, pureL_iff.mpr fun d hd => event_pure (List.all_eq_true.mp ev d hd), by rw [List.length_cons]; omega, by rw [List.length_cons]; omega, lok, fun H7 v s7 res => q _ _ (s5.trans s7) ?_⟩
    rw [pr, fin]
    have er : (x0 :: ls).drop (es.length + 2) = r := by rw [hr]; rfl
    rw [er] at res
    exact res
end
end Wd

set_option Elab.async false
set_option linter.all false
set_option maxRecDepth 100000
set_option maxHeartbeats 4000000
/-! text * int -/
namespace RV
open PySem PySem.Spec PyProof.Rows L2
open SX (S)
def rMulS : R2 := fun x y H Q => ∃ (z : List Nat) (n : Nat), x = .str (S z) ∧ y = .int (n : Int) ∧ n ≤ 100000 ∧ n * z.length ≤ 100000 ∧ Q (.str (S (List.replicate n z).flatten)) H
theorem mul_S (z : List Nat) (n : Nat) : Txt.mul (S z) (n : Int) = S (List.replicate n z).flatten := by
  have rep : ∀ (n : Nat) (a : List Nat), (List.replicate n z.toArray).foldl (· ++ ·) a.toArray = (a ++ (List.replicate n z).flatten).toArray := fun n => by
    induction n with
    | zero => intro a; simp
    | succ n ih =>
      intro a
      rw [List.replicate_succ, List.foldl_cons, List.append_toArray, ih, List.replicate_succ, List.flatten_cons, List.append_assoc]
  unfold Txt.mul
  by_cases h : (n : Int) < 1
  · rw [if_pos h]
    have : n = 0 := by omega
    subst this
    rfl
  · rw [if_neg h]
    by_cases h1 : ((n : Int) == 1 || (S z).length == 0) = true
    · rw [if_pos h1]
      rw [Bool.or_eq_true] at h1
      rcases h1 with h1 | h1
      · have : n = 1 := by have := eq_of_beq h1; omega
        subst this
        simp
      · have : (S z).length = 0 := eq_of_beq h1
        rw [SX.S_len] at this
        have : z = [] := List.eq_nil_of_length_eq_zero this
        subst this
        simp
    · rw [if_neg h1, Int.toNat_natCast]
      have := rep n []
      rw [List.nil_append] at this
      exact congrArg Str.mk this
theorem op_mulS {X : Cx} : OpR X (binaryOp .Mult) rMulS := by
  intro pins s σ H x y v u Q I rx ry h
  obtain ⟨z, n, rfl, rfl, hn, hz, q⟩ := h
  obtain ⟨t, rfl⟩ := rx
  obtain ⟨t', rfl⟩ := ry
  have lz : (S z).length = z.length := SX.S_len z
  refine SB.mul ⟨?_, fun h0 h1 => ?_, fun h0 h1 => ?_⟩ fun t' k => ?_
  · rw [decide_eq_false (by omega), decide_eq_false (by omega)]
    rfl
  · rw [lz]
    have h2 : (0 : Int) < n := by omega
    have : ((z.length : Nat) : Int) ≤ (2 ^ 63 - 1) / (n : Int) := by
      rw [Int.le_ediv_iff_mul_le h2]
      have : ((z.length * n : Nat) : Int) ≤ 100000 := by rw [Nat.mul_comm]; omega
      rw [Int.natCast_mul] at this
      omega
    omega
  · rw [lz, Int.toNat_natCast, Nat.mul_comm]
    exact decide_eq_false (Nat.not_lt.mpr (Nat.le_trans hz (by decide)))
  · rw [mul_S]
    exact ⟨.str _, H, I.tok _, ⟨_, rfl⟩, q⟩
end RV

set_option Elab.async false
set_option linter.all false
set_option maxRecDepth 100000
set_option maxHeartbeats 4000000
set_option pp.maxSteps 400
set_option pp.deepTerms false
namespace Wd
open PySem L2 TL
open SX (S)

open PySem.Spec PyProof.Rows CwR
/-! ### a line with a change -/
structure LnOk (m : Nat) (x : List Nat) : Prop where
  l : x.length ≤ m
  a : ∀ c ∈ x, c < 128 ∧ c ≠ 10
theorem LnOk.mono {m n : Nat} {x : List Nat} (h : LnOk m x) (e : m ≤ n) : LnOk n x := ⟨Nat.le_trans h.l e, h.a⟩
def GoodV (y : V) : Prop := ∃ z : List Nat, y = .str (S z) ∧ LnOk 1500 z
def goodS (s : Str) : Bool := decide (s.length ≤ 1500) && s.cps.toList.all fun c => decide (c < 128) && decide (c ≠ 10)
theorem good_str {s : Str} (h : goodS s = true) : GoodV (.str s) := by
  unfold goodS at h
  rw [Bool.and_eq_true, decide_eq_true_eq, List.all_eq_true] at h
  refine ⟨tl s, congrArg V.str (SX.S_tl s).symm, ?_, fun c hc => ?_⟩
  · have e : (tl s).length = s.length := Array.length_toList
    omega
  · have := h.2 c hc
    rw [Bool.and_eq_true, decide_eq_true_eq, decide_eq_true_eq] at this
    exact this
theorem good_all {ys : List Str} (h : ys.all goodS = true) {y : V} (hy : y ∈ ys.map V.str) : GoodV y := by
  obtain ⟨s, hs, rfl⟩ := List.mem_map.mp hy
  exact good_str (List.all_eq_true.mp h s hs)
theorem wV_set (ws : List (List Nat)) (j : Nat) (z : List Nat) : (wV ws).set j (.str (S z)) = wV (ws.set j z) := by
  unfold wV
  rw [List.map_set]
theorem join_total {s : Nat} : ∀ {xs : List (List Nat)}, xs ≠ [] → (joinL [s] xs).length + 1 = (xs.map (·.length)).sum + xs.length
  | [], h => absurd rfl h
  | [x], _ => by
    show x.length + 1 = x.length + 0 + 1
    omega
  | x :: y :: r, _ => by
    have := join_total (s := s) (xs := y :: r) (by simp)
    rw [join_cons (by simp), List.length_append, List.length_cons, List.map_cons, List.sum_cons, List.length_cons (a := x)]
    omega
theorem set_sum : ∀ (ws : List (List Nat)) (j : Nat) (z : List Nat), ((ws.set j z).map (·.length)).sum ≤ (ws.map (·.length)).sum + z.length
  | [], j, z => Nat.zero_le _
  | w :: ws, 0, z => by
    show z.length + _ ≤ w.length + _ + _
    omega
  | w :: ws, j + 1, z => by
    have := set_sum ws j z
    show w.length + ((ws.set j z).map (·.length)).sum ≤ w.length + (ws.map (·.length)).sum + _
    omega
theorem mem_set_or {ws : List (List Nat)} {j : Nat} {z w : List Nat} (h : w ∈ ws.set j z) : w ∈ ws ∨ w = z := List.mem_or_eq_of_mem_set h
def spSpLine : Sp := fun vs H Q _ => ∃ (B : Addr) (x : List Nat), vs = [.ref B, .str (S x)] ∧ BagAt H B ∧ LnOk 23000 x ∧ ∀ H' y, LnOk (x.length + 1500) y → SB B H H' → BagAt H' B → Q (.str (S y)) H'
section
variable {P : Program} {w : World} {K : PySem.W.Frag} {mg : Str → Option Value} {base : Heap} {fI fL fT fP : Addr} {fdT fdP : FuncData}
abbrev nSL : List Str := ["bag", "line", "spot", "more", "way", "words", "at", "odd"]
theorem scSL : FnScope nSL ["bag", "line"] (defScope sSpoiltLine) := ⟨rfl, rfl, rfl, by decide +kernel, rfl, by decide +kernel, by decide +kernel⟩
theorem ok_spoilt_line {f : Addr} {fd : FuncData} (F : Fun K "_law_spoilt_line" "_law_spoilt_line" sSpoiltLine f fd) (X : WTxt mg fI fL) (T : GTxt mg fT fP) (FT : Fun K "_law_throw" "_law_throw" sThrow fT fdT) (bT : Binds K fdT ["bag", "total"] [])
    (FP : Fun K "_law_pick" "_law_pick" sPick fP fdP) (bP : Binds K fdP ["bag", "items"] []) : FnOk P w K mg base CX0 3 f fd ["bag", "line"] spSpLine := by
  have GT : FnOk P w K mg base CX0 1 fT fdT ["bag", "total"] spThrow := ok_throw FT T.toTxtA
  have GL : FnOk P w K mg base CX0 2 fP fdP ["bag", "items"] spPickL := ok_pickL FP T.toTxtA FT bT
  refine F.ok scSL (fun vs H Q E h => ?_) (fun cdv Ao outer s H vs Q E hr h => ?_)
  · obtain ⟨B, x, rfl, _⟩ := h
    rfl
  · obtain ⟨B, x, rfl, hB, lok, q⟩ := h
    have nd := scSL.nd
    have hr1 : Room 1 _ := hr.mono (by decide)
    have hr2 : Room 2 _ := hr.mono (by decide)
    refine ⟨_, pss_cons (ps_par (i := 2) (j := 3) (by rfl) nd rfl rfl (by decide) rfl rfl (pa_cons (pe_call GT hr1 rfl T.thr FT.kp bT .nil pass0 (pa_cons (pv 0) (pa_cons (pe_op op_add (pe_callB call_len_str (by rfl) X.len PySem.boot_len (pa_cons (pv 1) pa_nil)) pe_int) pa_nil))) (pa_cons (pe_call GL hr2 rfl T.pick FP.kp bP .nil pass0 (pa_cons (pv 0) (pa_cons (pe_op op_cat (pe_callTy (call_listS rfl) (by rfl) T.list (by decide +kernel) (pa_cons pe_str pa_nil)) (pe_lst (pa_cons pe_str (pa_cons pe_str pa_nil)))) pa_nil))) pa_nil)) rfl)
      (pss_cons (ps_set (i := 4) nd rfl (Or.inl rfl) (pe_call GT hr1 rfl T.thr FT.kp bT .nil pass0 (pa_cons (pv 0) (pa_cons pe_int pa_nil))))
      (pss_cons (ps_if (pt_cmpR op_lt (pv 4) pe_int (nomark _)) (pss_one (ps_ret (pe_op op_add_str (pe_op op_add_str (pe_slice C8.sl_txt (pv 1) po_none (po_some (pv 2))) (pv 3)) (pe_slice C8.sl_txt (pv 1) (po_some (pv 2)) po_none)))) pss_nil)
      (pss_cons (ps_if (pt_cmpR op_lt (pv 4) pe_int (nomark _)) (pss_one (ps_ret (pe_op op_add_str (pe_slice C8.sl_txt (pv 1) po_none (po_some (pv 2))) (pe_slice C8.sl_txt (pv 1) (po_some (pe_op op_add (pv 2) pe_int)) po_none)))) pss_nil)
      (pss_cons (ps_if (pt_cmpR op_eq (pv 4) pe_int (nomark _)) (pss_one (ps_ret (pe_op op_add_str (pe_op op_add_str (pe_slice C8.sl_txt (pv 1) po_none (po_some (pv 2))) (pv 3)) (pe_slice C8.sl_txt (pv 1) (po_some (pe_op op_add (pv 2) pe_int)) po_none)))) pss_nil)
      (pss_cons (ps_set (i := 5) nd rfl (Or.inl rfl) (pe_split (pv 1) pe_str))
      (pss_cons (ps_set (i := 6) nd rfl (Or.inl rfl) (pe_call GT hr1 rfl T.thr FT.kp bT .nil pass0 (pa_cons (pv 0) (pa_cons (pe_callB call_len_seq (by rfl) X.len PySem.boot_len (pa_cons (pv 5) pa_nil)) pa_nil))))
      (pss_cons (ps_set (i := 7) nd rfl (Or.inl rfl) (pe_lst (pa_cons pe_str (pa_cons pe_str (pa_cons pe_str (pa_cons pe_str (pa_cons (pe_op RV.op_mulS pe_str pe_int) (pa_cons (pe_op RV.op_mulS pe_str pe_int) (pa_cons (pe_op RV.op_mulS pe_str pe_int) (pa_cons (pe_op op_add_str pe_str (pe_op RV.op_mulS pe_str pe_int)) (pa_cons pe_str (pa_cons pe_str (pa_cons pe_str (pa_cons pe_str pa_nil))))))))))))))
      (pss_cons (ps_set (i := 7) nd rfl (Or.inl rfl) (pe_op op_cat (pv 7) (pe_lst (pa_cons pe_str (pa_cons pe_str (pa_cons pe_str (pa_cons (pe_op op_add_str (pe_op RV.op_mulS pe_str pe_int) (pe_op RV.op_mulS pe_str pe_int)) (pa_cons (pe_op op_add_str (pe_op RV.op_mulS pe_str pe_int) (pe_op RV.op_mulS pe_str pe_int)) (pa_cons (pe_op RV.op_mulS pe_str pe_int) (pa_cons pe_str (pa_cons pe_str pa_nil)))))))))))
      (pss_cons (ps_asg (pe_call GL hr2 rfl T.pick FP.kp bP .nil pass0 (pa_cons (pv 0) (pa_cons (pv 7) pa_nil))) (pg_sub (pv 5) (pv 6) set_list))
      (pss_one (ps_ret (pe_join pe_str (pv 5))))))))))))), ?_⟩
    have lS : (S x).length = x.length := SX.S_len x
    have lx := lok.l
    have big : (16777216 : Nat) ≤ sizeLine := by decide
    have t61 : ∀ {k : Int}, k ≤ 100000 → k ≤ ten61 := fun h => Int.le_trans h (by decide +kernel)
    refine ⟨_, rfl, _, rfl, _, rfl, by rw [lS]; omega, _, _, rfl, rfl, B, _, rfl, hB, by omega, t61 (by rw [lS]; omega), fun r H1 r0 r1 s1 b1 => ?_⟩
    obtain ⟨k, rfl⟩ := Int.eq_ofNat_of_zero_le r0
    refine ⟨_, rfl, _, rfl, by decide +kernel, fun l1 hl1 => ⟨by show 2 ≤ sizeLine; decide, fun l2 hl2 => ?_⟩⟩
    have n1 := same_new (o := .lst (letV (Str.ofString "() -0179azA_.").cps.toList)) hl1
    have n2 := same_new (o := .lst [.str (Str.ofString "10"), .str (Str.ofString "(())")]) hl2
    have b2 := (b1.new (o := .lst (letV (Str.ofString "() -0179azA_.").cps.toList)) hl1).new (o := .lst [.str (Str.ofString "10"), .str (Str.ofString "(())")]) hl2
    have e1 := n2 _ _ (upd_same (H := H1) (a := l1) (o := .lst (letV (Str.ofString "() -0179azA_.").cps.toList)))
    have e2 : (upd (upd H1 l1 (.lst (letV (Str.ofString "() -0179azA_.").cps.toList))) l2 (.lst [.str (Str.ofString "10"), .str (Str.ofString "(())")])) l2 = _ := upd_same
    have s2 := s1.trans (SB.of (B := B) (n1.trans n2))
    generalize upd (upd H1 l1 (.lst (letV (Str.ofString "() -0179azA_.").cps.toList))) l2 (.lst [.str (Str.ofString "10"), .str (Str.ofString "(())")]) = H2 at b2 e1 e2 s2
    refine ⟨l1, l2, _, _, rfl, rfl, e1, e2, by decide +kernel, fun l3 hl3 => ?_⟩
    have n3 := same_new (o := .lst (letV (Str.ofString "() -0179azA_.").cps.toList ++ [.str (Str.ofString "10"), .str (Str.ofString "(())")])) hl3
    refine ⟨B, l3, _, rfl, b2.new hl3, (b2.ne hl3).symm, upd_same, by decide +kernel, by decide +kernel, fun y H3 hy s3 b3 => ⟨_, _, rfl, ?_⟩⟩
    have s3 := (s2.trans (SB.of (B := B) n3)).trans s3
    obtain ⟨z, rfl, lz⟩ : GoodV y := by
      have e : letV (Str.ofString "() -0179azA_.").cps.toList ++ [.str (Str.ofString "10"), .str (Str.ofString "(())")] = (((Str.ofString "() -0179azA_.").cps.toList.map fun c => (⟨#[c]⟩ : Str)) ++ [Str.ofString "10", Str.ofString "(())"]).map V.str := by
        unfold letV
        rw [List.map_append, List.map_map]
        rfl
      rw [e] at hy
      exact good_all (by decide +kernel) hy
    have lzS : (S z).length = z.length := SX.S_len z
    have lz1 := lz.l
    refine ⟨_, rfl, B, 7, rfl, b3, by decide, by decide +kernel, fun r4 H4 _ _ s4 b4 => ?_⟩
    have s4 := s3.trans s4
    have ltk : ∀ j, (S (x.take j)).length ≤ x.length := fun j => by rw [SX.S_len]; exact List.length_take_le' _ _
    have ldk : ∀ j, (S (x.drop j)).length ≤ x.length := fun j => by rw [SX.S_len, List.length_drop]; omega
    have tk : ∀ j, ∀ c ∈ x.take j, c < 128 ∧ c ≠ 10 := fun j c hc => lok.a c (List.mem_of_mem_take hc)
    have dk : ∀ j, ∀ c ∈ x.drop j, c < 128 ∧ c ≠ 10 := fun j c hc => lok.a c (List.mem_of_mem_drop hc)
    have fin : ∀ (i j : Nat) (g : List Nat), i ≤ j → LnOk 1500 g → Q (.str (S (x.take i) ++ S g ++ S (x.drop j))) H4 := fun i j g hij hg => by
      rw [SX.S_cat, SX.S_cat, List.append_assoc]
      refine q _ _ ⟨?_, fun c hc => ?_⟩ s4 b4
      · have := hg.l
        rw [List.length_append, List.length_append, List.length_take, List.length_drop]
        omega
      · rcases List.mem_append.mp hc with hc | hc
        · exact tk i c hc
        · rcases List.mem_append.mp hc with hc | hc
          · exact hg.a c hc
          · exact dk j c hc
    have lcat : ∀ j, (S (x.take j) ++ S z).length ≤ x.length + 1500 := fun j => by
      rw [SX.S_cat, SX.S_len, List.length_append, List.length_take]
      omega
    refine ⟨_, rfl, _, _, rfl, rfl, _, rfl, ?_⟩
    refine ite2 (fun _ => ?_) (fun _ => ?_)
    · refine ⟨_, rfl, _, rfl, _, rfl, S x, rfl, by rw [lS]; omega, ?_⟩
      rw [SX.slice_to (by omega), Int.toNat_natCast]
      have := ltk k
      have := lcat k
      have := ldk k
      refine ⟨_, rfl, _, _, rfl, rfl, by omega, _, rfl, _, rfl, _, rfl, S x, rfl, by rw [lS]; omega, ?_⟩
      rw [SX.slice_from (by omega), Int.toNat_natCast]
      exact ⟨_, _, rfl, rfl, by omega, fin k k z (Nat.le_refl _) lz⟩
    refine ⟨_, rfl, _, _, rfl, rfl, _, rfl, ?_⟩
    have k1 : ((k : Int) + 1) = ((k + 1 : Nat) : Int) := by omega
    refine ite2 (fun _ => ?_) (fun _ => ?_)
    · refine ⟨_, rfl, _, rfl, _, rfl, S x, rfl, by rw [lS]; omega, ?_⟩
      rw [SX.slice_to (by omega), Int.toNat_natCast]
      have := ltk k
      have := ldk (k + 1)
      refine ⟨_, rfl, _, rfl, _, _, rfl, rfl, _, rfl, S x, rfl, by rw [lS]; omega, ?_⟩
      rw [k1, SX.slice_from (by omega), Int.toNat_natCast]
      refine ⟨_, _, rfl, rfl, by omega, ?_⟩
      have := fin k (k + 1) [] (by omega) ⟨Nat.zero_le _, fun c h => nomatch h⟩
      rw [show S (x.take k) ++ S [] = S (x.take k) from by rw [SX.S_cat, List.append_nil]] at this
      exact this
    refine ⟨_, rfl, rfl, _, rfl, ?_⟩
    refine ite2 (fun _ => ?_) (fun _ => ?_)
    · refine ⟨_, rfl, _, rfl, _, rfl, S x, rfl, by rw [lS]; omega, ?_⟩
      rw [SX.slice_to (by omega), Int.toNat_natCast]
      have := ltk k
      have := lcat k
      have := ldk (k + 1)
      refine ⟨_, rfl, _, _, rfl, rfl, by omega, _, rfl, _, rfl, _, _, rfl, rfl, _, rfl, S x, rfl, by rw [lS]; omega, ?_⟩
      rw [k1, SX.slice_from (by omega), Int.toNat_natCast]
      exact ⟨_, _, rfl, rfl, by omega, fin k (k + 1) z (by omega) lz⟩
    -- a word
    refine ⟨_, rfl, ⟨_, rfl⟩, _, _, rfl, rfl, rfl, by rw [lS]; omega, fun p hp => ?_⟩
    have n5 := same_new (o := .lst ((Txt.split (S x) (Str.ofString " ")).map V.str)) hp
    have b5 := b4.new (o := .lst ((Txt.split (S x) (Str.ofString " ")).map V.str)) hp
    have npB := b4.ne hp
    have ep : (upd H4 p (.lst ((Txt.split (S x) (Str.ofString " ")).map V.str))) p = some (.lst (wV (spl [32] 0 [] x))) := by
      rw [upd_same, show Str.ofString " " = S [32] from rfl, SX.split_S (by simp) (by decide), wV_eq]
    have s5 := s4.trans (SB.of (B := B) n5)
    generalize upd H4 p (.lst ((Txt.split (S x) (Str.ofString " ")).map V.str)) = H5 at n5 b5 ep s5 ⊢
    obtain ⟨sn, sl, sp⟩ := spl_ok (s := 32) x
    have back := spl_back (s := 32) x
    have tot := join_total (s := 32) sn
    rw [back] at tot
    have ml := List.length_pos_iff.mpr sn
    refine ⟨_, rfl, _, rfl, p, _, rfl, .inl (SqL.of ep), B, _, rfl, b5, by rw [wV_len]; omega, t61 (by rw [wV_len]; omega), fun r6 H6 c0 c1 s6 b6 => ?_⟩
    obtain ⟨j, rfl⟩ := Int.eq_ofNat_of_zero_le c0
    rw [wV_len] at c1
    have ep := s6 _ _ npB ep
    have s6 := s5.trans s6
    refine ⟨[57], 60, rfl, rfl, by decide, by decide, [57], 61, rfl, rfl, by decide, by decide, [57], 900, rfl, rfl, by decide, by decide, [57], 60, rfl, rfl, by decide, by decide, _, _, rfl, rfl, by decide +kernel, by show 12 ≤ sizeLine; decide, fun o1 ho1 => ?_⟩
    have m1 := fun {o : HO} => same_new (o := o) ho1
    have bo1 := fun {o : HO} => b6.new (o := o) ho1
    have ep1 := fun {o : HO} => (same_new (o := o) ho1) _ _ ep
    refine ⟨_, rfl, [40], 20, rfl, rfl, by decide, by decide, [41], 20, rfl, rfl, by decide, by decide, _, _, rfl, rfl, by decide +kernel, [40], 18, rfl, rfl, by decide, by decide, [41], 18, rfl, rfl, by decide, by decide, _, _, rfl, rfl, by decide +kernel, [40], 1500, rfl, rfl, by decide, by decide, by show 8 ≤ sizeLine; decide, fun o2 ho2 => ?_⟩
    have m2 := fun {o : HO} => same_new (o := o) ho2
    refine ⟨o1, o2, _, _, rfl, rfl, m2 _ _ upd_same, upd_same, by show 12 + 8 ≤ sizeLine; decide, fun o3 ho3 => ?_⟩
    have m3 := fun {o : HO} => same_new (o := o) ho3
    refine ⟨_, rfl, _, rfl, B, o3, _, rfl, (bo1.new ho2).new ho3, ((bo1.new ho2).ne ho3).symm, upd_same, by show 0 < 12 + 8; decide, by show 12 + 8 ≤ 100; decide, fun y H7 hy s7 b7 => ?_⟩
    have ep := s7 _ _ npB (m3 _ _ (m2 _ _ ep1))
    have s7 := (s6.trans (SB.of (B := B) ((m1.trans m2).trans m3))).trans s7
    obtain ⟨g, rfl, lg⟩ : GoodV y := good_all (ys := [Str.ofString "+1", Str.ofString "01", Str.ofString "-0", Str.ofString "", S (List.replicate 60 [57]).flatten, S (List.replicate 61 [57]).flatten, S (List.replicate 900 [57]).flatten, Str.ofString "-" ++ S (List.replicate 60 [57]).flatten, Str.ofString "told", Str.ofString "it", Str.ofString "aB", Str.ofString "abcdefghi"] ++ [Str.ofString "()", Str.ofString "-", Str.ofString "1_0", S (List.replicate 20 [40]).flatten ++ S (List.replicate 20 [41]).flatten, S (List.replicate 18 [40]).flatten ++ S (List.replicate 18 [41]).flatten, S (List.replicate 1500 [40]).flatten, Str.ofString "1 1", Str.ofString "a"]) (by decide +kernel) hy
    refine ⟨_, rfl, _, rfl, p, _, _, j, rfl, rfl, ep, ?_, ?_⟩
    · rw [wV_len]
      unfold ixN
      rw [if_pos (by omega), if_pos (by omega), Int.toNat_natCast]
    rw [wV_set]
    have e8 : (upd H7 p (.lst (wV ((spl [32] 0 [] x).set j g)))) p = some (.lst (wV ((spl [32] 0 [] x).set j g))) := upd_same
    have b8 := b7.other (o := .lst (wV ((spl [32] 0 [] x).set j g))) npB.symm
    have hp0 : H p = none := SB.none s4 npB hp
    have s8 := s7.own (o := .lst (wV ((spl [32] 0 [] x).set j g))) hp0
    generalize upd H7 p (.lst (wV ((spl [32] 0 [] x).set j g))) = H8 at e8 b8 s8
    have ss := set_sum (spl [32] 0 [] x) j g
    have lg1 := lg.l
    have sn2 : (spl [32] 0 [] x).set j g ≠ [] := fun e => by
      have := congrArg List.length e
      rw [List.length_set] at this
      exact absurd this (by show _ ≠ 0; omega)
    have tot2 := join_total (s := 32) sn2
    rw [List.length_set] at tot2
    refine ⟨⟨_, rfl⟩, _, rfl, _, p, ((spl [32] 0 [] x).set j g).map S, rfl, rfl, .inl (SqL.of (by rw [← wV_eq]; exact e8)), ?_, ?_⟩
    · rw [SX.lens, List.length_map, List.length_set]
      show _ + _ * 1 ≤ _
      omega
    rw [show Txt.join (Str.ofString " ") (((spl [32] 0 [] x).set j g).map S) = S (joinL [32] ((spl [32] 0 [] x).set j g)) from SX.join_S [32] _]
    refine q _ _ ⟨by omega, fun c hc => ?_⟩ s8 b8
    rcases mem_join hc with rfl | ⟨w, hw, hcw⟩
    · decide
    · rcases mem_set_or hw with hw | e
      · exact lok.a c ((sp w hw).2.1 c hcw)
      · rw [e] at hcw
        exact lg.a c hcw
end
end Wd

set_option Elab.async false
set_option linter.all false
set_option maxRecDepth 100000
set_option maxHeartbeats 4000000
set_option pp.maxSteps 400
set_option pp.deepTerms false
namespace Wd
open PySem L2 TL
open SX (S)

open PySem.Spec PyProof.Rows CwR
/-! ### lines with a change -/
def tot (ls : List (List Nat)) : Nat := (ls.map (·.length)).sum + ls.length
theorem tot_app (a b : List (List Nat)) : tot (a ++ b) = tot a + tot b := by
  unfold tot
  rw [List.map_append, List.sum_append, List.length_append]
  omega
theorem tot_one (x : List Nat) : tot [x] = x.length + 1 := rfl
theorem tot_cut (ls : List (List Nat)) (k : Nat) : tot (ls.take k) + tot (ls.drop k) = tot ls := by
  rw [← tot_app, List.take_append_drop]
theorem tot_len (ls : List (List Nat)) : ls.length ≤ tot ls := Nat.le_add_left _ _
structure LsOk (m t : Nat) (ls : List (List Nat)) : Prop where
  ne : ls ≠ []
  a : ∀ x ∈ ls, LnOk m x
  t : tot ls ≤ t
theorem ls_edit {m t : Nat} {ls g : List (List Nat)} (h : LsOk m t ls) {i j : Nat} (hij : i ≤ j) (hg : ∀ x ∈ g, LnOk (m + 1500) x) (tg : tot g ≤ 25000) (ne : ls.take i ++ (g ++ ls.drop j) ≠ []) : LsOk (m + 1500) (t + 25000) (ls.take i ++ (g ++ ls.drop j)) := by
  refine ⟨ne, fun x hx => ?_, ?_⟩
  · rcases List.mem_append.mp hx with hx | hx
    · exact (h.a x (List.mem_of_mem_take hx)).mono (by omega)
    · rcases List.mem_append.mp hx with hx | hx
      · exact hg x hx
      · exact (h.a x (List.mem_of_mem_drop hx)).mono (by omega)
  · rw [tot_app, tot_app]
    have h1 := tot_cut ls i
    have h2 := tot_cut (ls.drop i) (j - i)
    rw [List.drop_drop, show i + (j - i) = j by omega] at h2
    have := h.t
    omega
theorem bag_same {B : Addr} {H H' : Hp} (b : BagAt H B) (s : Same H H') : BagAt H' B := by
  obtain ⟨x, y, z, h⟩ := b
  exact ⟨x, y, z, s _ _ h⟩
section
variable {K : PySem.W.Frag}
theorem sl_to {H : Hp} {Q : VK} {a : Addr} {ls : List (List Nat)} {k : Nat} (e : H a = some (.lst (wV ls))) (h : ∀ p H', H p = none → Same H H' → H' p = some (.lst (wV (ls.take k))) → Q (.ref p) H') : rSlL K (.ref a) none (some (k : Int)) H Q :=
  ⟨a, _, rfl, SqL.of e, fun p hp => h p _ hp (same_new hp) (by rw [upd_same, cut_take])⟩
theorem sl_fr {H : Hp} {Q : VK} {σ : L2.St} {a : Addr} {ls : List (List Nat)} {k : Nat} (e : H a = some (.lst (wV ls))) (h : ∀ p H', H p = none → Same H H' → H' p = some (.lst (wV (ls.drop k))) → Q (.ref p) H') : tNoPart σ H fun u H3 => rSlL K (.ref a) (some (k : Int)) u H3 Q :=
  ⟨a, _, rfl, SqL.of e, fun p hp => h p _ hp (same_new hp) (by rw [upd_same, cut_drop])⟩
theorem sl_to1 {H : Hp} {Q : VK} {a : Addr} {ls : List (List Nat)} {k : Nat} (e : H a = some (.lst (wV ls))) (h : ∀ p H', H p = none → Same H H' → H' p = some (.lst (wV (ls.take (k + 1)))) → Q (.ref p) H') : rSlL K (.ref a) none (some ((k : Int) + 1)) H Q := by
  rw [show (k : Int) + 1 = ((k + 1 : Nat) : Int) by omega]
  exact sl_to e h
theorem sl_fr1 {H : Hp} {Q : VK} {σ : L2.St} {a : Addr} {ls : List (List Nat)} {k : Nat} (e : H a = some (.lst (wV ls))) (h : ∀ p H', H p = none → Same H H' → H' p = some (.lst (wV (ls.drop (k + 1)))) → Q (.ref p) H') : tNoPart σ H fun u H3 => rSlL K (.ref a) (some ((k : Int) + 1)) u H3 Q := by
  rw [show (k : Int) + 1 = ((k + 1 : Nat) : Int) by omega]
  exact sl_fr e h
theorem cat_w {H : Hp} {Q : VK} {a b : Addr} {xs ys : List (List Nat)} (ea : H a = some (.lst (wV xs))) (eb : H b = some (.lst (wV ys))) (hl : xs.length + ys.length ≤ 1000000) (h : ∀ p H', H p = none → Same H H' → H' p = some (.lst (wV (xs ++ ys))) → Q (.ref p) H') : rCat (.ref a) (.ref b) H Q :=
  ⟨a, b, _, _, rfl, rfl, ea, eb, by rw [wV_len, wV_len]; exact Nat.le_trans hl (by decide), fun p hp => h p _ hp (same_new hp) (by rw [upd_same]; unfold wV; rw [List.map_append])⟩
end
def spSpoilt : Sp := fun vs H Q _ => ∃ (B a : Addr) (ls : List (List Nat)) (m t : Nat), vs = [.ref B, .ref a] ∧ BagAt H B ∧ a ≠ B ∧ H a = some (.lst (wV ls)) ∧ LsOk m t ls ∧ m ≤ 21500 ∧ t ≤ 300000 ∧
  ∀ H' p ls', LsOk (m + 1500) (t + 25000) ls' → SB B H H' → BagAt H' B → p ≠ B → H' p = some (.lst (wV ls')) → Q (.ref p) H'
section
variable {P : Program} {w : World} {K : PySem.W.Frag} {mg : Str → Option Value} {base : Heap} {fI fL fT fP fS : Addr} {fdT fdP dS : FuncData}
abbrev nSp : List Str := ["bag", "lines", "spot", "way", "other", "rows"]
theorem scSp : FnScope nSp ["bag", "lines"] (defScope sSpoilt) := ⟨rfl, rfl, rfl, by decide +kernel, rfl, by decide +kernel, by decide +kernel⟩
theorem ok_spoilt {f : Addr} {fd : FuncData} (F : Fun K "_law_spoilt" "_law_spoilt" sSpoilt f fd) (X : WTxt mg fI fL) (T : GTxt mg fT fP) (FT : Fun K "_law_throw" "_law_throw" sThrow fT fdT) (bT : Binds K fdT ["bag", "total"] [])
    (FP : Fun K "_law_pick" "_law_pick" sPick fP fdP) (bP : Binds K fdP ["bag", "items"] []) (SL : At P w K mg base 3 "_law_spoilt_line" fS dS ["bag", "line"] spSpLine) : FnOk P w K mg base CX0 4 f fd ["bag", "lines"] spSpoilt := by
  have GT : FnOk P w K mg base CX0 1 fT fdT ["bag", "total"] spThrow := ok_throw FT T.toTxtA
  have GL : FnOk P w K mg base CX0 2 fP fdP ["bag", "items"] spPickL := ok_pickL FP T.toTxtA FT bT
  refine F.ok scSp (fun vs H Q E h => ?_) (fun cdv Ao outer s H vs Q E hr h => ?_)
  · obtain ⟨B, a, ls, m, t, rfl, _⟩ := h
    rfl
  · obtain ⟨B, a, ls, m, t, rfl, hB, naB, ea, ok, hm, ht, q⟩ := h
    have nd := scSp.nd
    have hr1 : Room 1 _ := hr.mono (by decide)
    have hr2 : Room 2 _ := hr.mono (by decide)
    have hr3 : Room 3 _ := hr.mono (by decide)
    refine ⟨_, pss_cons (ps_par (i := 2) (j := 3) (by rfl) nd rfl rfl (by decide) rfl rfl (pa_cons (pe_call GT hr1 rfl T.thr FT.kp bT .nil pass0 (pa_cons (pv 0) (pa_cons (pe_callB call_len_seq (by rfl) X.len PySem.boot_len (pa_cons (pv 1) pa_nil)) pa_nil))) (pa_cons (pe_call GT hr1 rfl T.thr FT.kp bT .nil pass0 (pa_cons (pv 0) (pa_cons pe_int pa_nil))) pa_nil)) rfl)
      (pss_cons (ps_set (i := 4) nd rfl (Or.inl rfl) (pe_ix (r := rIxL K) ix_list (pv 1) (pe_call GT hr1 rfl T.thr FT.kp bT .nil pass0 (pa_cons (pv 0) (pa_cons (pe_callB call_len_seq (by rfl) X.len PySem.boot_len (pa_cons (pv 1) pa_nil)) pa_nil))) (fun _ _ => rfl)))
      (pss_cons (ps_if (pt_cmpR op_eq (pv 3) pe_int (nomark _)) (pss_one (ps_ret (pe_ifExp (pt_cmpR op_gt (pe_callB call_len_seq (by rfl) X.len PySem.boot_len (pa_cons (pv 1) pa_nil)) pe_int (nomark _)) (pe_op op_cat (pe_slice sl_list (pv 1) po_none (po_some (pv 2))) (pe_slice sl_list (pv 1) (po_some (pe_op op_add (pv 2) pe_int)) po_none)) (pe_lst (pa_cons pe_str pa_nil))))) pss_nil)
      (pss_cons (ps_if (pt_cmpR op_eq (pv 3) pe_int (nomark _)) (pss_one (ps_ret (pe_op op_cat (pe_op op_cat (pe_slice sl_list (pv 1) po_none (po_some (pv 2))) (pe_lst (pa_cons (pv 4) pa_nil))) (pe_slice sl_list (pv 1) (po_some (pv 2)) po_none)))) pss_nil)
      (pss_cons (ps_if (pt_cmpR op_eq (pv 3) pe_int (nomark _)) (pss_one (ps_ret (pe_op op_cat (pe_op op_cat (pe_slice sl_list (pv 1) po_none (po_some (pv 2))) (pe_lst (pa_cons (pv 4) pa_nil))) (pe_slice sl_list (pv 1) (po_some (pe_op op_add (pv 2) pe_int)) po_none)))) pss_nil)
      (pss_cons (ps_if (pt_cmpR op_eq (pv 3) pe_int (nomark _)) (pss_one (ps_ret (pe_slice sl_list (pv 1) po_none (po_some (pe_op op_add (pv 2) pe_int))))) pss_nil)
      (pss_cons (ps_if (pt_cmpR op_eq (pv 3) pe_int (nomark _)) (pss_cons (ps_set (i := 5) nd rfl (Or.inl rfl) (pe_lst (pa_cons pe_str (pa_cons pe_str (pa_cons pe_str (pa_cons pe_str (pa_cons pe_str (pa_cons pe_str (pa_cons pe_str (pa_cons pe_str (pa_cons pe_str (pa_cons pe_str pa_nil))))))))))))
      (pss_one (ps_ret (pe_op op_cat (pe_op op_cat (pe_slice sl_list (pv 1) po_none (po_some (pe_op op_add (pv 2) pe_int))) (pe_lst (pa_cons (pe_call GL hr2 rfl T.pick FP.kp bP .nil pass0 (pa_cons (pv 0) (pa_cons (pv 5) pa_nil))) pa_nil))) (pe_slice sl_list (pv 1) (po_some (pe_op op_add (pv 2) pe_int)) po_none))))) pss_nil)
      (pss_cons (ps_if (pt_cmpR op_eq (pv 3) pe_int (nomark _)) (pss_one (ps_ret (pe_op op_cat (pv 1) (pe_lst (pa_cons pe_str pa_nil))))) pss_nil)
      (pss_one (ps_ret (pe_op op_cat (pe_op op_cat (pe_slice sl_list (pv 1) po_none (po_some (pv 2))) (pe_lst (pa_cons (pe_call SL.g hr3 rfl SL.m SL.kp SL.b .nil pass0 (pa_cons (pv 0) (pa_cons (pe_ix (r := rIxL K) ix_list (pv 1) (pv 2) (fun _ _ => rfl)) pa_nil))) pa_nil))) (pe_slice sl_list (pv 1) (po_some (pe_op op_add (pv 2) pe_int)) po_none))))))))))), ?_⟩
    have t61 : ∀ {k : Int}, k ≤ 1000000 → k ≤ ten61 := fun h => Int.le_trans h (by decide +kernel)
    have l1 := List.length_pos_iff.mpr ok.ne
    have lt := tot_len ls
    have okt := ok.t
    have lw := wV_len ls
    refine ⟨_, rfl, _, rfl, a, _, rfl, .inl (SqL.of ea), B, _, rfl, hB, by rw [lw]; omega, t61 (by rw [lw]; omega), fun r H1 r0 r1 s1 b1 => ?_⟩
    obtain ⟨k, rfl⟩ := Int.eq_ofNat_of_zero_le r0
    rw [lw] at r1
    have ea := s1 _ _ naB ea
    refine ⟨_, rfl, B, 10, rfl, b1, by decide, by decide +kernel, fun r2 H2 _ _ s2 b2 => ⟨_, _, rfl, ?_⟩⟩
    have ea := s2 _ _ naB ea
    have s2 := s1.trans s2
    refine ⟨_, rfl, _, rfl, _, rfl, a, _, rfl, .inl (SqL.of ea), B, _, rfl, b2, by rw [lw]; omega, t61 (by rw [lw]; omega), fun r3 H3 c0 c1 s3 b3 => ?_⟩
    obtain ⟨j, rfl⟩ := Int.eq_ofNat_of_zero_le c0
    rw [lw] at c1
    have ea := s3 _ _ naB ea
    have s3 := s2.trans s3
    have hj : j < ls.length := by omega
    have hk : k < ls.length := by omega
    refine ⟨a, _, _, _, rfl, rfl, SqL.of ea, atI_nat (wV_get hj), ?_⟩
    have oko := ok.a _ (List.getElem_mem hj)
    generalize ls[j] = other at oko
    have okk := ok.a _ (List.getElem_mem hk)
    have fin : ∀ {Hx : Hp} (p : Addr) (i j : Nat) (g : List (List Nat)), SB B H Hx → BagAt Hx B → p ≠ B → Hx p = some (.lst (wV (ls.take i ++ (g ++ ls.drop j)))) → i ≤ j → (∀ x ∈ g, LnOk (m + 1500) x) → tot g ≤ 25000 → ls.take i ++ (g ++ ls.drop j) ≠ [] → Q (.ref p) Hx := fun {Hx} p i j g s b n e hij hg tg ne => q Hx p _ (ls_edit ok hij hg tg ne) s b n e
    have lenT : ∀ i, (ls.take i).length ≤ ls.length := fun i => List.length_take_le' _ _
    have lenD : ∀ i, (ls.drop i).length ≤ ls.length := fun i => by rw [List.length_drop]; omega
    have neT : ∀ (i : Nat) (g : List (List Nat)) (j : Nat), g ≠ [] → ls.take i ++ (g ++ ls.drop j) ≠ [] := fun i g j hg e => by
      obtain ⟨_, e⟩ := List.append_eq_nil_iff.mp e
      exact hg (List.append_eq_nil_iff.mp e).1
    have emp : LnOk (m + 1500) [] := ⟨Nat.zero_le _, fun c h => nomatch h⟩
    have oth : ∀ x ∈ [other], LnOk (m + 1500) x := fun x hx => by
      rw [List.mem_singleton.mp hx]
      exact oko.mono (by omega)
    have toth : tot [other] ≤ 25000 := by
      rw [tot_one]
      have := oko.l
      omega
    -- way 0
    refine ⟨_, rfl, rfl, _, rfl, ite2 (fun _ => ?_) (fun _ => ?_)⟩
    · refine ⟨_, rfl, a, _, rfl, .inl (SqL.of ea), _, _, rfl, rfl, _, rfl, ?_⟩
      rw [lw]
      by_cases h1 : 1 < ls.length
      · rw [decide_eq_true (by omega)]
        refine iteT ⟨_, rfl, _, rfl, _, rfl, sl_to ea fun p1 H4 hp1 n4 e1 => ?_⟩
        refine ⟨_, rfl, _, rfl, _, _, rfl, rfl, _, rfl, sl_fr1 (n4 _ _ ea) fun p2 H5 hp2 n5 e2 => ?_⟩
        have := lenT k
        have := lenD (k + 1)
        refine cat_w (n5 _ _ e1) e2 (by omega) fun p3 H6 hp3 n6 e3 => ?_
        have s6 := (n4.trans n5).trans n6
        refine fin p3 k (k + 1) [] (s3.trans (SB.of s6)) (bag_same b3 s6) ((bag_same b3 (n4.trans n5)).ne hp3) (by rw [e3, List.nil_append]) (by omega) (fun x h => nomatch h) (Nat.zero_le _) fun e => ?_
        have := congrArg List.length e
        rw [List.nil_append, List.length_append, List.length_take, List.length_drop] at this
        have z : ([] : List (List Nat)).length = 0 := rfl
        omega
      · rw [decide_eq_false (by omega)]
        refine iteF ⟨by show 1 ≤ sizeLine; decide, fun p hp => ?_⟩
        refine fin p 0 ls.length [[]] (s3.trans (SB.of (same_new hp))) (b3.new hp) (b3.ne hp) ?_ (Nat.zero_le _) (fun x hx => by rw [List.mem_singleton.mp hx]; exact emp) (by decide) (neT _ _ _ (by simp))
        rw [upd_same, List.take_zero, List.drop_length]
        rfl
    -- way 1
    refine ⟨_, rfl, rfl, _, rfl, ite2 (fun _ => ?_) (fun _ => ?_)⟩
    · refine ⟨_, rfl, _, rfl, _, rfl, sl_to ea fun p1 H4 hp1 n4 e1 => ⟨_, rfl, by show 1 ≤ sizeLine; decide, fun p2 hp2 => ?_⟩⟩
      have n5 := same_new (o := .lst [.str (S other)]) hp2
      have := lenT k
      refine cat_w (ys := [other]) (n5 _ _ e1) upd_same (by show _ + 1 ≤ _; omega) fun p3 H6 hp3 n6 e3 => ?_
      have n46 := (n4.trans n5).trans n6
      refine ⟨_, rfl, _, rfl, _, rfl, sl_fr (n46 _ _ ea) fun p4 H7 hp4 n7 e4 => ?_⟩
      have := lenD k
      refine cat_w (n7 _ _ e3) e4 (by rw [List.length_append]; show _ + 1 + _ ≤ _; omega) fun p5 H8 hp5 n8 e5 => ?_
      have n48 := (n46.trans n7).trans n8
      exact fin p5 k k [other] (s3.trans (SB.of n48)) (bag_same b3 n48) ((bag_same b3 (n46.trans n7)).ne hp5) (by rw [e5, List.append_assoc]) (Nat.le_refl _) oth toth (neT _ _ _ (by simp))
    -- way 2
    refine ⟨_, rfl, rfl, _, rfl, ite2 (fun _ => ?_) (fun _ => ?_)⟩
    · refine ⟨_, rfl, _, rfl, _, rfl, sl_to ea fun p1 H4 hp1 n4 e1 => ⟨_, rfl, by show 1 ≤ sizeLine; decide, fun p2 hp2 => ?_⟩⟩
      have n5 := same_new (o := .lst [.str (S other)]) hp2
      have := lenT k
      refine cat_w (ys := [other]) (n5 _ _ e1) upd_same (by show _ + 1 ≤ _; omega) fun p3 H6 hp3 n6 e3 => ?_
      have n46 := (n4.trans n5).trans n6
      refine ⟨_, rfl, _, rfl, _, _, rfl, rfl, _, rfl, sl_fr1 (n46 _ _ ea) fun p4 H7 hp4 n7 e4 => ?_⟩
      have := lenD (k + 1)
      refine cat_w (n7 _ _ e3) e4 (by rw [List.length_append]; show _ + 1 + _ ≤ _; omega) fun p5 H8 hp5 n8 e5 => ?_
      have n48 := (n46.trans n7).trans n8
      exact fin p5 k (k + 1) [other] (s3.trans (SB.of n48)) (bag_same b3 n48) ((bag_same b3 (n46.trans n7)).ne hp5) (by rw [e5, List.append_assoc]) (by omega) oth toth (neT _ _ _ (by simp))
    -- way 3
    refine ⟨_, rfl, rfl, _, rfl, ite2 (fun _ => ?_) (fun _ => ?_)⟩
    · refine ⟨_, rfl, _, rfl, _, _, rfl, rfl, _, rfl, sl_to1 ea fun p1 H4 hp1 n4 e1 => ?_⟩
      refine fin p1 (k + 1) ls.length [] (s3.trans (SB.of n4)) (bag_same b3 n4) (b3.ne hp1) (by rw [e1, List.nil_append, List.drop_length, List.append_nil]) (by omega) (fun x h => nomatch h) (Nat.zero_le _) fun e => ?_
      have := congrArg List.length e
      rw [List.nil_append, List.length_append, List.length_take, List.length_drop] at this
      have z : ([] : List (List Nat)).length = 0 := rfl
      omega
    -- way 4
    refine ⟨_, rfl, rfl, _, rfl, ite2 (fun _ => ?_) (fun _ => ?_)⟩
    · refine ⟨by show 10 ≤ sizeLine; decide, fun p0 hp0 => ?_⟩
      have n4 := fun {o : HO} => same_new (o := o) hp0
      refine ⟨_, rfl, _, rfl, _, _, rfl, rfl, _, rfl, sl_to1 (n4 _ _ ea) fun p1 H5 hp1 n5 e1 => ?_⟩
      have s5 := s3.trans (SB.of (B := B) (n4.trans n5))
      have b5 := bag_same b3 (n4.trans n5)
      have ea5 := n5 _ _ (n4 _ _ ea)
      refine ⟨_, rfl, _, rfl, B, p0, _, rfl, b5, (b3.ne hp0).symm, n5 _ _ upd_same, by show 0 < 10; decide, by show 10 ≤ 100; decide, fun y H6 hy s6 b6 => ?_⟩
      have ea6 := s6 _ _ naB ea5
      have np1 : p1 ≠ B := (bag_same b3 n4).ne hp1
      have e1 := s6 _ _ np1 e1
      have s6 := s5.trans s6
      obtain ⟨g, rfl, lg⟩ : GoodV y := good_all (ys := [Str.ofString "", Str.ofString "round", Str.ofString "until 0", Str.ofString "until 7", Str.ofString "row", Str.ofString "list", Str.ofString "0 s a 0", Str.ofString "5 s a 1", Str.ofString "(() () () ((0)))", Str.ofString "((0))"]) (by decide +kernel) hy
      refine ⟨by show 1 ≤ sizeLine; decide, fun p2 hp2 => ?_⟩
      have n7 := same_new (o := .lst [.str (S g)]) hp2
      have := lenT (k + 1)
      refine cat_w (ys := [g]) (n7 _ _ e1) upd_same (by show _ + 1 ≤ _; omega) fun p3 H8 hp3 n8 e3 => ?_
      refine ⟨_, rfl, _, rfl, _, _, rfl, rfl, _, rfl, sl_fr1 (n8 _ _ (n7 _ _ ea6)) fun p4 H9 hp4 n9 e4 => ?_⟩
      have := lenD (k + 1)
      refine cat_w (n9 _ _ e3) e4 (by rw [List.length_append]; show _ + 1 + _ ≤ _; omega) fun p5 H10 hp5 n10 e5 => ?_
      have n79 := (n7.trans n8).trans n9
      have n710 := n79.trans n10
      refine fin p5 (k + 1) (k + 1) [g] (s6.trans (SB.of n710)) (bag_same b6 n710) ((bag_same b6 n79).ne hp5) (by rw [e5, List.append_assoc]) (Nat.le_refl _) (fun x hx => by rw [List.mem_singleton.mp hx]; exact lg.mono (by omega)) ?_ (neT _ _ _ (by simp))
      rw [tot_one]
      have := lg.l
      omega
    -- way 5
    refine ⟨_, rfl, rfl, _, rfl, ite2 (fun _ => ?_) (fun _ => ?_)⟩
    · refine ⟨_, rfl, by show 1 ≤ sizeLine; decide, fun p2 hp2 => ?_⟩
      have n4 := same_new (o := .lst [.str (Str.ofString "")]) hp2
      refine cat_w (ys := [[]]) (n4 _ _ ea) upd_same (by show _ + 1 ≤ _; omega) fun p3 H6 hp3 n6 e3 => ?_
      have n46 := n4.trans n6
      exact fin p3 ls.length ls.length [[]] (s3.trans (SB.of n46)) (bag_same b3 n46) ((bag_same b3 n4).ne hp3) (by rw [e3, List.take_length, List.drop_length, List.append_nil]) (Nat.le_refl _) (fun x hx => by rw [List.mem_singleton.mp hx]; exact emp) (by decide) (neT _ _ _ (by simp))
    -- a line
    refine ⟨_, rfl, _, rfl, _, rfl, sl_to ea fun p1 H4 hp1 n4 e1 => ?_⟩
    have b4 := bag_same b3 n4
    have ea4 := n4 _ _ ea
    have np1 : p1 ≠ B := b3.ne hp1
    refine ⟨_, rfl, _, rfl, _, rfl, a, _, _, _, rfl, rfl, SqL.of ea4, atI_nat (wV_get hk), B, _, rfl, b4, okk.mono (by omega), fun H5 g lg s5 b5 => ?_⟩
    have ea5 := s5 _ _ naB ea4
    have e1 := s5 _ _ np1 e1
    have s5 := (s3.trans (SB.of (B := B) n4)).trans s5
    refine ⟨by show 1 ≤ sizeLine; decide, fun p2 hp2 => ?_⟩
    have n7 := same_new (o := .lst [.str (S g)]) hp2
    have := lenT k
    refine cat_w (ys := [g]) (n7 _ _ e1) upd_same (by show _ + 1 ≤ _; omega) fun p3 H8 hp3 n8 e3 => ?_
    refine ⟨_, rfl, _, rfl, _, _, rfl, rfl, _, rfl, sl_fr1 (n8 _ _ (n7 _ _ ea5)) fun p4 H9 hp4 n9 e4 => ?_⟩
    have := lenD (k + 1)
    refine cat_w (n9 _ _ e3) e4 (by rw [List.length_append]; show _ + 1 + _ ≤ _; omega) fun p5 H10 hp5 n10 e5 => ?_
    have n79 := (n7.trans n8).trans n9
    have n710 := n79.trans n10
    have lk := okk.l
    refine fin p5 k (k + 1) [g] (s5.trans (SB.of n710)) (bag_same b5 n710) ((bag_same b5 n79).ne hp5) (by rw [e5, List.append_assoc]) (by omega) (fun x hx => by rw [List.mem_singleton.mp hx]; exact lg.mono (by omega)) ?_ (neT _ _ _ (by simp))
    rw [tot_one]
    have := lg.l
    omega
end
end Wd

set_option Elab.async false
set_option linter.all false
set_option maxRecDepth 100000
set_option maxHeartbeats 4000000
/-! defs that are called where no repr is under way: they may ask repr of lists and tuples -/
namespace Br
open PySem PySem.Spec PyProof.Rows L2
/-- repr of data -/
def rReprD (K : PySem.W.Frag) : List V → Hp → VK → Prop := fun xs H Q => ∃ v d, xs = [v] ∧ Dp K H v d ∧ d.showable = true ∧ d.hasDict = false ∧ d.depth ≤ 60 ∧ ((∀ i, d ≠ .int i) → d.shown.length ≤ sizeLine) ∧ Q (.str d.shown) H
theorem call_reprD {X : Cx} (hg : X.A.guards = some []) (hu : X.A.units + 64 < cLine) : CallR X (.builtin "repr") (rReprD X.K) := by
  intro pins s σ H xs us Q I r h
  obtain ⟨v, d, rfl, dp, hs, nd, hd, hz, q⟩ := h
  obtain ⟨u, rfl, ru⟩ := vals1 r
  cases dp with
  | non => cases ru; exact PySem.P.repr_of_none ⟨.str _, H, I.tok _, ⟨_, rfl⟩, q⟩
  | bl b => cases ru; exact PySem.P.repr_of_bool ⟨.str (if b then "True" else "False"), H, I.tok _, ⟨_, rfl⟩, q⟩
  | int i =>
    obtain ⟨t, rfl⟩ := ru
    exact PySem.P.repr_of_int (of_decide_eq_true hs) ⟨.str _, H, I.tok _, ⟨_, rfl⟩, q⟩
  | str x =>
    obtain ⟨t, rfl⟩ := ru
    exact PySem.P.repr_of_str ⟨.str _, H, I.tok _, ⟨_, rfl⟩, q⟩ (hz fun i e => nomatch e)
  | lst l p =>
    cases ru
    obtain ⟨as, rd⟩ := Dp.reads I _ _ _ (.lst l p) (show RelV (.ref _) (.ref _) from rfl)
    exact repr_of_reads' rd hs (fun z => by rw [nd] at z; cases z) hg (by omega) (fun _ _ z => z) (fun h' u tk hk => ⟨.str _, H, I.kept hk, ⟨_, rfl⟩, q⟩) (hz fun i e => nomatch e)
  | tup l p =>
    cases ru
    obtain ⟨as, rd⟩ := Dp.reads I _ _ _ (.tup l p) (show RelV (.ref _) (.ref _) from rfl)
    exact repr_of_reads' rd hs (fun z => by rw [nd] at z; cases z) hg (by omega) (fun _ _ z => z) (fun h' u tk hk => ⟨.str _, H, I.kept hk, ⟨_, rfl⟩, q⟩) (hz fun i e => nomatch e)
/-- a def's promise where no repr is under way -/
structure GnOk (P : Program) (w : World) (K : PySem.W.Frag) (mg : Str → Option Value) (base : Heap) (CX : CXT) (k : Nat) (f : Addr) (fd : FuncData) (ps : List Str) (sp : Sp) : Prop where
  len : ∀ vs H Q E, sp vs H Q E → vs.length = ps.length
  go : ∀ (A : Around), A.guards = some [] → Room k A → ∀ (outer : List Env) (s : Shared) (H : Hp), Env0 P w K mg base A outer s H → ∀ (args : Args) (us : List Value), BindsTo s fd args (ps.zip us) → ∀ (vs : List V), Vals vs us → ∀ (Q : VK) (E : XK), sp vs H Q E →
    codeAny (model P w) A (.call (.ref f) args) (CR CX outer P w H s Q E) s
section
variable {P : Program} {w : World} {K : PySem.W.Frag} {mg : Str → Option Value} {base : Heap}
/-- such a def by its body -/
theorem gn_of {x qual : Str} {st : Stmt} {f : Addr} {fd : FuncData} {N ps : List Str} {k : Nat} {sp : Sp} (F : Fun K x qual st f fd) (S : FnScope N ps (defScope st)) (len : ∀ vs H Q E, sp vs H Q E → vs.length = ps.length)
    (hbody : ∀ (cdv : Value) (A : Around) (outer : List Env) (s : Shared) (H : Hp) (vs : List V) (Q : VK) (E : XK), (A.deeper (envOfC qual (defScope st) s.heap.objs.size f cdv)).guards = some [] → Room k (A.deeper (envOfC qual (defScope st) s.heap.objs.size f cdv)) → sp vs H Q E →
      ∃ t, PSs (cxOf CX0 P w K mg base N qual (defScope st) f cdv A outer s H E).nox (defBody st) t ∧ t { nx := fun _ H' => Q .non H', rt := Q } (start N vs) H) : GnOk P w K mg base CX0 (k + 1) f fd ps sp := by
  obtain ⟨oc, od, kV, doc, pm, an, cdv, ct, osl, rfl, lk, hcd⟩ := F.ex
  refine ⟨len, fun A hg hr outer s H e0 args us hb vs r Q E hsp => ?_⟩
  have hN := len _ _ _ _ hsp
  have KS : K.In s.heap := e0.mod.kin.keeps fun b o z => (e0.bs b o z).1
  have lim : s.heap.NoLimit := e0.mod.nolimit.keeps fun b o z => (e0.bs b o z).1
  refine codeAny_call_function hr.depth (KS _ _ lk) rfl S.co S.gen rfl (PySem.W.codeRec_of KS hcd) (hb _ _ _ _ (wpAny_newFunctionEnv_cells S.kind (fun y hy => ?_) fun env he s1 x1 => ?_))
  · obtain ⟨y1, y2⟩ := y
    rcases S.par y1 (List.of_mem_zip hy).1 with q | q
    · exact .inl q
    · exact .inr ⟨q, PySem.W.cellsFrom_some _ _ _ (.inl q)⟩
  · subst he
    refine ⟨lim.keeps x1.toInCall.keep, codeAny_func ?_⟩
    obtain ⟨t, ht, hq⟩ := hbody cdv A outer s H vs Q E hg (hr.deeper _) hsp
    have I0 := inv_start (CX := CX0) S hr.hd e0 hN r x1 (E := E)
    refine wpAny_mono (ht.nox.run [] s1 (start N vs) H _ I0 hq) (fun fl s' hs => ?_) fun _ _ z => z
    cases fl with
    | brk => exact (let ⟨_, _, _, z⟩ := hs; False.elim z)
    | cont => exact (let ⟨_, _, _, z⟩ := hs; False.elim z)
    | ret u =>
      obtain ⟨v, σ', H', J, rv, z⟩ := hs
      exact ⟨v, H', J.os, J.bare, J.base, J.hok, rv, z⟩
    | next =>
      obtain ⟨σ', H', J, z⟩ := hs
      exact ⟨.non, H', J.os, J.bare, J.base, J.hok, rfl, z⟩
end
section
variable {X : Cx} {CX : CXT} {k : Nat} {f : Addr} {fd : FuncData} {ps : List Str} {sp : Sp} {E : XK} {x : Str} {p pos : Pos} {e : Expr} {es : List Expr} {t : TA}
/-- f(e, ..) of such a def -/
theorem pe_callG (hgd : X.A.guards = some []) (F : GnOk X.prog X.w X.K X.mg X.base CX k f fd ps sp) (hr : Room k X.A) (hg : Gl X x) (hm : X.mg x = some (.ref f)) (hk : PySem.W.keepIn X.K (.ref f) = true) (hb : Binds X.K fd ps []) (hx : Passes CX X E)
    (ha : PA X (e :: es) t) (hdb : (x == ("__debug__" : Str)) = false := by decide) (he : starEach (e :: es) X.env = (false, eval e X.env) :: starEach es X.env := by rfl) (hpl : (backTo pos (starEach es X.env)).any (·.1) = false := by rfl) :
    PE X (.Call (.Name x p) (e :: es) [] pos) (tCall sp [] E t) := by
  refine ⟨fun pins s σ H Q I h => wpAny_Call_Name_kw (ld_glob I hg hm ?_ hdb)⟩
  refine PySem.W.callWith_K (h₀ := X.base) I.ok.mod.kin hk (thn (ha.run pos pins s σ H _ I h) fun us s1 ⟨vs, H1, I1, r, q⟩ => ⟨I1.kIn, ?_⟩) he hpl
  have q' : sp vs H1 Q E := by
    have z : sp (vs ++ []) H1 Q E := q
    rwa [List.append_nil] at z
  have hl : (us ++ []).length = ps.length := by
    rw [List.append_nil, ← r.length]
    exact F.len _ _ _ _ q'
  have bd := hb s1 us I1.kIn hl
  rw [List.append_nil] at bd
  refine wpAny_call (codeAny_mono (F.go X.A hgd hr X.stack s1 H1 I1.env0 ⟨us, []⟩ us bd vs r Q E q') fun res s' hq => ?_)
  cases res with
  | error er => exact hx pins σ H1 s1 er s' I1 hq
  | ok fl =>
    cases fl with
    | ret u => exact I1.after hq
    | next => exact hq.elim
    | brk => exact hq.elim
    | cont => exact hq.elim
end
/-! ### the law's own call -/
theorem hid_of {h : Heap} {H : Hp} {b : Addr} {o : Obj} (e : h.get? b = some o) (n : H b = none) : (hidT h H).get? b = some o := hidT_get e n
/-- the law is called where no repr is under way -/
theorem law_callG {P : Program} {w : World} {K : PySem.W.Frag} {mg mb : Str → Option Value} {CX : CXT} {k : Nat} {fa a : Addr} {fd : FuncData} {x : Str} {sp : Sp} {s₁ : Shared} {vs : List Value} {ns : List Int}
    (KX : K.In s₁.heap) (gN : s₁.heap.Ns mainGlobals mg) (bN : s₁.heap.Ns builtinsNs mb) (bB : ∀ x : Str, x ≠ "__name__" → mb x = bootBuiltins x) (lim : s₁.heap.NoLimit) (hg : s₁.gens = #[])
    (ha : s₁.heap.get? a = some { cls := .type "list", data := .seq vs.toArray }) (hi : IntsAre vs ns) (hl : ns.length ≤ sizeLine) (hr : Room k callerA)
    (F : ∀ base : Heap, K.In base → base.Ns mainGlobals mg → GnOk P w K mg base CX k fa fd [x] sp) (hbind : ∀ (s : Shared) (u : Value), BindsTo s fd ⟨[u], []⟩ [(x, u)])
    (hsp : ∀ H : Hp, Only H → SqL K H a (ns.map V.int) → sp [.ref a] H (fun v _ => v = .bl true) fun _ _ _ => False)
    (hCX : ∀ H e s', CX [] H s₁ (fun _ _ _ => False) e s' → False) :
    codeAny (model P w) callerA (.call (.ref fa) ⟨[.ref a], []⟩) (fun r s' => r = .ok (.ret (.bool true)) ∧ OldK s₁.heap s'.heap ∧ s'.os = s₁.os ∧ AllBare s'.gens) s₁ := by
  have rv := vals_ints hi
  have lv := hi.length
  have step : ∀ H : Hp, Only H → SqL K H a (ns.map V.int) → HOk P w H s₁.heap → (∀ b, H b ≠ none → b = a ∧ K.lookup a = none) →
      codeAny (model P w) callerA (.call (.ref fa) ⟨[.ref a], []⟩) (fun r s' => r = .ok (.ret (.bool true)) ∧ OldK s₁.heap s'.heap ∧ s'.os = s₁.os ∧ AllBare s'.gens) s₁ := fun H only sq hok one => by
    have free : ∀ {b : Addr} {o : Obj}, s₁.heap.get? b = some o → (∀ ws n, o.data ≠ .seq ws n) → H b = none := fun {b o} e nd => Classical.byContradiction fun z => by
      rw [(one b z).1, ha] at e
      cases e
      exact nd _ _ rfl
    have up : ∀ {b : Addr} {m : Str → Option Value}, s₁.heap.Ns b m → (hidT s₁.heap H).Ns b m := fun {b m} ⟨o, es, ep, e, d, r⟩ => ⟨o, es, ep, hid_of e (free e fun ws n z => by rw [d] at z; cases z), d, r⟩
    have kb : K.In (hidT s₁.heap H) := fun b o e => hid_of (KX b o e) (Classical.byContradiction fun z => by
      obtain ⟨z1, z2⟩ := one b z
      rw [z1, z2] at e
      cases e)
    have md : Mod K mg (hidT s₁.heap H) := ⟨kb, up gN, ⟨mb, up bN, bB⟩, let ⟨mc, h1, h2⟩ := lim; ⟨mc, up h1, h2⟩⟩
    have env : Env0 P w K mg (hidT s₁.heap H) callerA [] s₁ H := ⟨rfl, md, fun b o e => of_hidT e, Nat.le_of_eq (hidT_size _ _), trivial, fun b hb => (List.not_mem_nil hb).elim, hok, .of_eq hg⟩
    refine codeAny_mono ((F _ kb (up gN)).go callerA rfl hr [] s₁ H env ⟨[.ref a], []⟩ [.ref a] (hbind s₁ (.ref a)) [.ref a] (.cons rfl .nil) _ _ (hsp H only sq)) fun r s' h => ?_
    match r, h with
    | .error e, h => exact (hCX H e s' h).elim
    | .ok (.ret u), ⟨v, H', os, bare, un, hok', r', q⟩ =>
      cases (show v = .bl true from q)
      cases (show u = Value.bool true from r')
      refine ⟨rfl, OldK.of_keep fun b o e => ?_, os, bare⟩
      by_cases z : H b = none
      · exact un.keep b o e z (fun y => (List.not_mem_nil y).elim) (by simp)
      · rcases only b with y | ⟨ob, xs, y⟩
        · exact (z y).elim
        · have g1 := (hok b _ y).1
          have g2 := (hok' b _ (un.frzs b ob _ y)).1
          rw [e] at g1
          cases g1
          exact g2
  by_cases hk : K.lookup a = none
  · have at_ : ∀ b, (fun b => if b = a then some (HO.frz { cls := .type "list", data := .seq vs.toArray } (.lst (ns.map V.int))) else none) b = none ∨ b = a := fun b => by
      by_cases hb : b = a
      · exact .inr hb
      · exact .inl (if_neg hb)
    refine step (fun b => if b = a then some (HO.frz { cls := .type "list", data := .seq vs.toArray } (.lst (ns.map V.int))) else none) (fun b => ?_) (.inl (.inr ⟨_, if_pos rfl⟩)) (fun b u z => ?_) fun b z => ⟨(at_ b).resolve_left z, hk⟩
    · by_cases hb : b = a
      · exact .inr ⟨_, _, if_pos hb⟩
      · exact .inl (if_neg hb)
    · rcases at_ b with y | rfl
      · exact nomatch y.symm.trans z
      · cases (if_pos rfl).symm.trans z
        exact ⟨ha, by rw [List.length_map]; exact hl, vs, _, rv, ha⟩
  · obtain ⟨o, ho⟩ := Option.ne_none_iff_exists'.mp hk
    have e := KX a o ho
    rw [ha] at e
    cases e
    exact step (fun _ => none) (fun _ => .inl rfl) (.inr ⟨_, vs.toArray, _, ho, rfl, rfl, rfl, by rw [List.size_toArray, lv]; exact hl, by simpa using rv⟩) (fun b u z => nomatch z) fun b z => (z rfl).elim
/-- the end of a row whose law may ask repr -/
theorem walk_ofG {l : PySem.W.OpenLaw} {n k : Nat} {q : Program} {loose : List Str} {XP : (Str → Option Value) → Heap → Prop} {YP : World → Heap → Prop} {d : DefRec} {K : Params → PySem.W.Frag} {sp : PySem.W.Frag → Sp} {x : Str}
    (hn : l.most = some n) (hn2 : n ≤ sizeLine) (hdf : d.params.defaults = []) (hr : Room k callerA)
    (hY : ∀ (w : World) (h : Heap), YP w h → (K w.params).In h)
    (F : ∀ (w : World) (mg : Str → Option Value) (fa : Addr) (h : Heap), (K w.params).In h → h.Ns mainGlobals mg → mg d.name = some (.ref fa) →
      ∃ fd : FuncData, (∀ (s : Shared) (u : Value), BindsTo s fd ⟨[u], []⟩ [(x, u)]) ∧ ∀ base : Heap, (K w.params).In base → base.Ns mainGlobals mg → GnOk l.prog w (K w.params) mg base CX0 k fa fd [x] (sp (K w.params)))
    (hsp : ∀ (K : PySem.W.Frag) (H : Hp) (a : Addr) (ns : List Int), ns.length ≤ n → Only H → SqL K H a (ns.map V.int) → sp K [.ref a] H (fun v _ => v = .bl true) fun _ _ _ => False) :
    PySem.W.WalkO q loose XP YP l.row.toRowW d [] (fun f vs => PySem.call f vs) := by
  refine Att.attach_call hn hdf fun w s₀ s₁ mg mb fa o pm cd doc a vs ns G Y ho hd hcd hmg hobj hints hlen hg => ?_
  obtain ⟨fd, hb, hF⟩ := F w mg fa _ (hY w _ Y) G.T.g hmg
  exact law_callG (hY w _ Y) G.T.g G.T.b G.T.builtins G.T.nolimit hg hobj hints (Nat.le_trans hlen hn2) hr hF hb (fun H h1 h2 => hsp _ H a ns hlen h1 h2) fun H e s' z => z.elim
end Br

set_option Elab.async false
set_option linter.all false
set_option maxRecDepth 100000
set_option maxHeartbeats 4000000
set_option pp.maxSteps 400
set_option pp.deepTerms false
namespace Wd
open PySem L2 TL
open SX (S)

open PySem.Spec PyProof.Rows CwR
/-! ### what a paper's repr needs -/
mutual
theorem okD_pure : ∀ {d : PyData}, okD d = true → pureB d = true
  | .none, _ => rfl
  | .bool _, _ => rfl
  | .int _, _ => rfl
  | .str _, _ => rfl
  | .tuple ds, h => okL_pure (show okL ds = true from h)
  | .list _, h => nomatch h
  | .dict _, h => nomatch h
theorem okL_pure : ∀ {ds : List PyData}, okL ds = true → pureL ds = true
  | [], _ => rfl
  | d :: ds, h => by
    have h : (okD d && okL ds) = true := h
    rw [Bool.and_eq_true] at h
    show (pureB d && pureL ds) = true
    rw [okD_pure h.1, okL_pure h.2]
    rfl
end
theorem bulk_tup (ds : List PyData) : (PyData.tuple ds).bulk = PyData.bulkAll ds := by simp only [PyData.bulk]
theorem bulk_cons (d : PyData) (ds : List PyData) : PyData.bulkAll (d :: ds) = d.bulk + 1 + PyData.bulkAll ds := by simp only [PyData.bulkAll]
theorem bulk_app : ∀ (a b : List PyData), PyData.bulkAll (a ++ b) = PyData.bulkAll a + PyData.bulkAll b
  | [], b => by
    show PyData.bulkAll b = 0 + _
    omega
  | d :: a, b => by
    rw [List.cons_append, bulk_cons, bulk_cons, bulk_app a b]
    omega
theorem item_bulk : ∀ (k : Nat) {d : PyData}, itemB k d = true → d.bulk ≤ (itemT d).length
  | k, d, h => by
    rcases no_parts (d := d) with ⟨ds, rfl⟩ | no
    · have hb := itemB_parts h
      have hk : 0 < k := by
        rw [itemB_tup, Bool.and_eq_true, decide_eq_true_eq] at h
        exact h.1
      rw [itemT_tup, List.length_cons, List.length_append, List.length_singleton, bulk_tup]
      have j := join_sum (s := 32) (xs := ds.map itemT)
      have : ∀ {es : List PyData}, (∀ e ∈ es, itemB (k - 1) e = true) → PyData.bulkAll es ≤ ((es.map itemT).map (·.length)).sum + (es.map itemT).length := by
        intro es
        induction es with
        | nil => exact fun _ => Nat.le_refl _
        | cons e es ih =>
          intro h
          have h1 := item_bulk (k - 1) (h e (by simp))
          have h2 := ih fun x hx => h x (by simp [hx])
          rw [bulk_cons]
          show _ ≤ (itemT e).length + ((es.map itemT).map (·.length)).sum + ((es.map itemT).length + 1)
          omega
      have := this hb
      omega
    · rcases flat_is no h with rfl | ⟨z, rfl, hz⟩ | ⟨i, rfl, h1, h2⟩
      · show 0 ≤ _
        exact Nat.zero_le _
      · show z.cps.size ≤ (tl z).length
        have : (tl z).length = z.length := Array.length_toList
        have e : z.cps.size = z.length := rfl
        omega
      · show 0 ≤ _
        exact Nat.zero_le _
termination_by k => k
theorem stB_fact {y : List Nat} (h : stB y = true) : standB (standD y) = true ∧ (standD y).bulk ≤ y.length := by
  obtain ⟨a, b⟩ := standD_pos (stB_iff.mp h)
  have := item_bulk 20 (stand_item a).1
  rw [b] at this
  exact ⟨a, this⟩
theorem tot_cons (x : List Nat) (ls : List (List Nat)) : tot (x :: ls) = x.length + 1 + tot ls := by
  unfold tot
  rw [List.map_cons, List.sum_cons, List.length_cons]
  omega
theorem listR_ok : ∀ {ls : List (List Nat)} {ss : List PyData} {i : Nat} {d : PyData}, listR ss i ls = .ok d → (∀ e ∈ ss, standB e = true) → ∃ es, d = .tuple [.str (Str.ofString "list"), .tuple es] ∧ (∀ e ∈ es, standB e = true) ∧ PyData.bulkAll es ≤ PyData.bulkAll ss + tot ls
  | [], ss, i, d, h, hs => by
    cases h
    exact ⟨ss, rfl, hs, Nat.le_add_right _ _⟩
  | x :: ls, ss, i, d, h, hs => by
    have h : (if stB x = true then listR (ss ++ [standD x]) (i + 1) ls else .bad i) = .ok d := h
    by_cases hx : stB x = true
    · rw [if_pos hx] at h
      obtain ⟨a, b⟩ := stB_fact hx
      obtain ⟨es, e1, e2, e3⟩ := listR_ok h fun e he => by
        rcases List.mem_append.mp he with he | he
        · exact hs e he
        · rw [List.mem_singleton.mp he]
          exact a
      refine ⟨es, e1, e2, ?_⟩
      rw [bulk_app, bulk_cons] at e3
      rw [tot_cons]
      have : PyData.bulkAll [] = 0 := rfl
      omega
    · rw [if_neg hx] at h
      cases h
def rb (st : List (List PyData)) : Nat := (st.map fun t => PyData.bulkAll t + 1).sum
theorem rb_cons (t : List PyData) (st : List (List PyData)) : rb (t :: st) = PyData.bulkAll t + 1 + rb st := by
  unfold rb
  rw [List.map_cons, List.sum_cons]
theorem rb_all : ∀ (st : List (List PyData)), PyData.bulkAll (st.map .tuple) = rb st
  | [] => rfl
  | t :: st => by
    rw [List.map_cons, bulk_cons, rb_cons, rb_all st, bulk_tup]
theorem rb_rev (st : List (List PyData)) : rb st.reverse = rb st := by
  unfold rb
  rw [List.map_reverse, List.sum_reverse]
theorem rounds_cons (m : Nat) (st : List (List PyData)) (i : Nat) (x : List Nat) (ls : List (List Nat)) : roundsR m st i (x :: ls) = (if x = rndW ∧ st.length < m then roundsR m ([] :: st) (i + 1) ls
      else match st with
        | [] => .bad i
        | t :: st' => if stB x = true then roundsR m ((t ++ [standD x]) :: st') (i + 1) ls else .bad i) := rfl
theorem roundsR_ok {m : Nat} : ∀ {ls : List (List Nat)} {st : List (List PyData)} {i : Nat} {d : PyData}, roundsR m st i ls = .ok d → (∀ t ∈ st, ∀ e ∈ t, standB e = true) → ∃ rs : List (List PyData), d = .tuple (rs.map .tuple) ∧ (∀ t ∈ rs, ∀ e ∈ t, standB e = true) ∧ rb rs ≤ rb st + tot ls
  | [], st, i, d, h, hs => by
    have h : (if st.length < m then RR.bad i else .ok (.tuple (st.reverse.map .tuple))) = .ok d := h
    by_cases hm : st.length < m
    · rw [if_pos hm] at h
      cases h
    · rw [if_neg hm] at h
      cases h
      exact ⟨st.reverse, rfl, fun t ht => hs t (List.mem_reverse.mp ht), by rw [rb_rev]; exact Nat.le_add_right _ _⟩
  | x :: ls, st, i, d, h, hs => by
    rw [rounds_cons] at h
    rw [tot_cons]
    by_cases hc : x = rndW ∧ st.length < m
    · rw [if_pos hc] at h
      obtain ⟨rs, e1, e2, e3⟩ := roundsR_ok h fun t ht => by
        rcases List.mem_cons.mp ht with rfl | ht
        · exact fun e he => nomatch he
        · exact hs t ht
      refine ⟨rs, e1, e2, ?_⟩
      rw [rb_cons] at e3
      have : PyData.bulkAll [] = 0 := rfl
      omega
    · rw [if_neg hc] at h
      cases st with
      | nil => cases h
      | cons t st =>
        have h : (if stB x = true then roundsR m ((t ++ [standD x]) :: st) (i + 1) ls else .bad i) = .ok d := h
        by_cases hx : stB x = true
        · rw [if_pos hx] at h
          obtain ⟨a, b⟩ := stB_fact hx
          obtain ⟨rs, e1, e2, e3⟩ := roundsR_ok h fun t' ht => by
            rcases List.mem_cons.mp ht with rfl | ht
            · intro e he
              rcases List.mem_append.mp he with he | he
              · exact hs t (by simp) e he
              · rw [List.mem_singleton.mp he]
                exact a
            · exact hs t' (by simp [ht])
          refine ⟨rs, e1, e2, ?_⟩
          rw [rb_cons, bulk_app, bulk_cons] at e3
          rw [rb_cons]
          have : PyData.bulkAll [] = 0 := rfl
          omega
        · rw [if_neg hx] at h
          cases h
theorem event_bulk {x : List Nat} (h : eventB (evD (spl [32] 0 [] x)) = true) : (evD (spl [32] 0 [] x)).bulk ≤ x.length := by
  have back := spl_back (s := 32) x
  obtain ⟨t, u, l, v, e, _⟩ := event_parts h
  unfold evD at e ⊢
  split at e
  · rename_i a n c b hs
    rw [hs] at back
    have lx : x.length = a.length + (n.length + (c.length + b.length + 1) + 1) + 1 := by
      rw [← back]
      show (a ++ ([32] ++ (n ++ ([32] ++ (c ++ ([32] ++ b)))))).length = _
      simp only [List.length_append, List.length_singleton]
      omega
    split at e
    · rename_i hc
      injection e with e
      have e1 : intD a = .int t := by injection e
      have e2 : intD b = .int v := by
        injection e with _ e
        injection e with _ e
        injection e with _ e
        injection e with e
      obtain ⟨h1, h2, h3⟩ := intD_int e1
      obtain ⟨g1, g2, g3⟩ := intD_int e2
      have la : 1 ≤ a.length := by
        have := (plain_int h1 h2).1
        rw [← h3] at this
        exact List.length_pos_iff.mpr this
      have lb : 1 ≤ b.length := by
        have := (plain_int g1 g2).1
        rw [← g3] at this
        exact List.length_pos_iff.mpr this
      have : (PyData.tuple [intD a, .str (S n), .str (S c), intD b]).bulk = n.length + c.length + 4 := by
        rw [bulk_tup, bulk_cons, bulk_cons, bulk_cons, bulk_cons, e1, e2]
        have x1 : (PyData.int t).bulk = 0 := rfl
        have x2 : (PyData.int v).bulk = 0 := rfl
        have x3 : (PyData.str (S n)).bulk = n.length := by
          show (S n).cps.size = _
          simp [S]
        have x4 : (PyData.str (S c)).bulk = c.length := by
          show (S c).cps.size = _
          simp [S]
        have x5 : PyData.bulkAll [] = 0 := rfl
        omega
      have goal : (if eventB (.tuple [intD a, .str (S n), .str (S c), intD b]) = true then PyData.tuple [intD a, .str (S n), .str (S c), intD b] else .none).bulk ≤ x.length := by
        rw [if_pos hc, this]
        omega
      exact goal
    · cases e
  · cases e
theorem tapeR_bulk : ∀ {ls : List (List Nat)} {es es' : List PyData} {i : Nat} {t : Int} {rest : List (List Nat)}, tapeR es i ls = .fin es' t rest → PyData.bulkAll es' + tot rest ≤ PyData.bulkAll es + tot ls
  | [], es, es', i, t, rest, h => by cases h
  | x :: r, es, es', i, t, rest, h => by
    rw [tape_cons] at h
    rw [tot_cons]
    cases hu : untD x with
    | some u =>
      rw [hu] at h
      have h : (if lastT (.tuple es) ≤ u then TR.fin es u r else .bad i) = .fin es' t rest := h
      split at h
      · cases h
        omega
      · cases h
    | none =>
      rw [hu] at h
      have h : (if eventB (evD (spl [32] 0 [] x)) = true ∧ lastT (.tuple es) ≤ evT (evD (spl [32] 0 [] x)) then tapeR (es ++ [evD (spl [32] 0 [] x)]) (i + 1) r else .bad i) = .fin es' t rest := h
      split at h
      · rename_i hc
        have z := tapeR_bulk h
        rw [bulk_app, bulk_cons] at z
        have := event_bulk hc.1
        have e0 : PyData.bulkAll [] = 0 := rfl
        omega
      · cases h
theorem bulk_list : (PyData.str (Str.ofString "list")).bulk = 4 := by decide +kernel
theorem bulk_row : (PyData.str (Str.ofString "row")).bulk = 3 := by decide +kernel
theorem paperR_ok {x : List Nat} {d : PyData} (h : paperR x = .ok d) : okD d = true ∧ d.depth ≤ 24 ∧ d.bulk ≤ x.length + 20 ∧ ∃ ds, d = .tuple ds := by
  have back := spl_back (s := 10) x
  obtain ⟨sn, _, _⟩ := spl_ok (s := 10) x
  have jt := join_total (s := 10) sn
  rw [back] at jt
  unfold paperR at h
  cases hs : spl [10] 0 [] x with
  | nil => exact absurd hs sn
  | cons x0 ls =>
    rw [hs] at h jt
    have tl' : tot ls ≤ x.length := by
      rw [List.map_cons, List.sum_cons, List.length_cons] at jt
      unfold tot
      omega
    dsimp only at h
    by_cases hl : x0 = listW
    · rw [if_pos hl] at h
      obtain ⟨es, rfl, e2, e3⟩ := listR_ok h fun e he => nomatch he
      have st := stands_ok e2
      refine ⟨?_, ?_, ?_, _, rfl⟩
      · show (okD (.str (Str.ofString "list")) && (okD (.tuple es) && true)) = true
        rw [st.1]
        rfl
      · have := st.2
        simp only [PyData.depth, PyData.depthAll] at this ⊢
        omega
      · rw [bulk_tup, bulk_cons, bulk_cons, bulk_list, bulk_tup]
        have e0 : PyData.bulkAll [] = 0 := rfl
        omega
    · rw [if_neg hl] at h
      by_cases hr : x0 = rowW
      · rw [if_pos hr] at h
        cases ht : tapeR [] 1 ls with
        | bad i =>
          rw [ht] at h
          cases h
        | fin es t rest =>
          rw [ht] at h
          dsimp only at h
          cases hq : roundsR es.length [] (es.length + 2) rest with
          | bad i =>
            rw [hq] at h
            cases h
          | ok e =>
            rw [hq] at h
            cases h
            obtain ⟨rs, rfl, r2, r3⟩ := roundsR_ok hq fun t ht => nomatch ht
            obtain ⟨ev, t1, t2, _⟩ := tapeR_fin ht rfl
            have tb := tapeR_bulk ht
            have e1 : okD (.tuple es) = true := okL_all fun d hd => (okD_event (List.all_eq_true.mp ev d hd)).1
            have e2 := depth_all fun d hd => (okD_event (List.all_eq_true.mp ev d hd)).2
            have o1 : okD (.tuple (rs.map .tuple)) = true := okL_all fun d hd => by
              obtain ⟨ss, h, rfl⟩ := List.mem_map.mp hd
              exact (stands_ok (r2 ss h)).1
            have o2 : PyData.depthAll (rs.map .tuple) ≤ 21 := depth_all fun d hd => by
              obtain ⟨ss, h, rfl⟩ := List.mem_map.mp hd
              exact (stands_ok (r2 ss h)).2
            refine ⟨?_, ?_, ?_, _, rfl⟩
            · show (okD (.str (Str.ofString "row")) && (okD (.tuple es) && (okD (.int t) && (okD (.tuple (rs.map .tuple)) && true)))) = true
              rw [e1, o1, okD_int t1 t2]
              rfl
            · simp only [PyData.depth, PyData.depthAll]
              omega
            · rw [bulk_tup, bulk_cons, bulk_cons, bulk_cons, bulk_cons, bulk_row, bulk_tup, bulk_tup, rb_all]
              have e0 : PyData.bulkAll [] = 0 := rfl
              have e4 : (PyData.int t).bulk = 0 := rfl
              have e5 : rb [] = 0 := rfl
              omega
      · rw [if_neg hr] at h
        cases h
theorem listR_bad : ∀ {ls : List (List Nat)} {ss : List PyData} {i j : Nat}, listR ss i ls = .bad j → j ≤ i + ls.length
  | [], ss, i, j, h => by cases h
  | x :: ls, ss, i, j, h => by
    have h : (if stB x = true then listR (ss ++ [standD x]) (i + 1) ls else .bad i) = .bad j := h
    rw [List.length_cons]
    split at h
    · have := listR_bad h
      omega
    · cases h
      omega
theorem roundsR_bad {m : Nat} : ∀ {ls : List (List Nat)} {st : List (List PyData)} {i j : Nat}, roundsR m st i ls = .bad j → j ≤ i + ls.length
  | [], st, i, j, h => by
    have h : (if st.length < m then RR.bad i else .ok (.tuple (st.reverse.map .tuple))) = .bad j := h
    split at h
    · cases h
      omega
    · cases h
  | x :: ls, st, i, j, h => by
    rw [rounds_cons] at h
    rw [List.length_cons]
    split at h
    · have := roundsR_bad h
      omega
    · cases st with
      | nil =>
        cases h
        omega
      | cons t st =>
        have h : (if stB x = true then roundsR m ((t ++ [standD x]) :: st) (i + 1) ls else .bad i) = .bad j := h
        split at h
        · have := roundsR_bad h
          omega
        · cases h
          omega
end Wd

set_option Elab.async false
set_option linter.all false
set_option maxRecDepth 100000
set_option maxHeartbeats 4000000
/-! isinstance(e, C) that is true, e a caught error with its own dict -/
namespace PySem.W
open PySem PySem.Spec PySem.Calls PyProof.Rows
theorem ans_sub {K : Frag} {a D : Addr} {oe : Obj} {c : Value} (ne : ¬ (Value.ref D == c) = true) (ec : kitCls K (.ref D) c = some true) : Answers (fun s => K.In s.heap ∧ (s.heap.get? a = some oe ∧ oe.cls = .ref D)) (.ref a) c true := by
  intro dep tk prog w A R s hs
  obtain ⟨hp, ge, dr, nt, ou⟩ := s
  obtain ⟨⟨XK, at_, cl⟩, hq⟩ := hs
  have ofT : Looks (model prog w) hp (typeOf (.ref a)) (.ref D) := fun A Q E s k q => wpAny_typeOf_ref (k _ _ at_) (by rw [cl]; exact q)
  unfold Builtin.«isinstance.nested»
  refine wpAny_bind (ofT.at ?_)
  rw [if_neg ne]
  obtain ⟨t1, t2, t3⟩ := kit_cls (M := model prog w) XK ec
  have inst : Looks (model prog w) hp (isInstance (.ref a) c) true := ofT.andThen t3
  refine wpAny_bind (t1.at ?_)
  rw [if_pos (show (Value.type "type" == Value.type "type") = true from by decide)]
  k_delta "plainIsInstance"
  refine wpAny_bind (wpAny_bind (t2.at ?_))
  simp only [Bool.not_true, if_false, Bool.false_eq_true]
  refine wpAny_bind (inst.at ?_)
  first
    | exact wpAny_pure (wpAny_pure (hq nt))
    | (simp only [if_true]
       first
         | exact wpAny_pure (hq nt)
         | exact wpAny_pure (wpAny_pure (hq nt))
         | exact wpAny_bind (wpAny_pure (wpAny_pure (hq nt))))
end PySem.W
namespace L2
open PySem PySem.Spec PyProof.Rows PySem.W PySem.Calls
def rIsT (K : PySem.W.Frag) (cls : Value) (a D : Addr) : List V → Hp → VK → Prop := fun xs H Q => cls = .ref D ∧ ∃ (c : V) (cv : Value), xs = [.ref a, c] ∧ (∀ u, RelV c u → u = cv) ∧ ¬ (Value.ref D == cv) = true ∧ kitCls K (.ref D) cv = some true ∧ Q (.bl true) H
theorem call_isT {X : Cx} {a D : Addr} {oe : Obj} {cls : Value} {d : Option Addr} {pn : List (Addr × Obj)} (hz : Zc cls d oe) : CallR (X.suite a ((a, oe) :: pn)) (.builtin "isinstance") (rIsT X.K cls a D) := by
  intro pins s σ H xs us Q I r h
  obtain ⟨ecl, c, cv, rfl, same, ne, ec, q⟩ := h
  cases r with
  | cons rx rr =>
    cases rr with
    | cons rt rr =>
      cases rr
      cases rx
      obtain rfl := same _ rt
      obtain ⟨hget, _⟩ := I.pin (a, oe) (List.mem_append_left _ List.mem_cons_self)
      refine call_isinstance (S := fun _ R s => (X.K.In s.heap ∧ (s.heap.get? a = some oe ∧ oe.cls = .ref D)) ∧ ∀ tk, R (.ok (.ret (.bool true))) { s with toks := tk }) (fun prog w A R s hs => isinstance_outer (ans_sub ne ec 0 _ prog w A R s hs) (fun z => nomatch z)) ⟨⟨I.kIn, hget, hz.1.trans ecl⟩, fun tk => ⟨.bl true, H, I.kept (t' := tk) (fun _ _ z => z), rfl, q⟩⟩
end L2

set_option Elab.async false
set_option linter.all false
set_option maxRecDepth 100000
set_option maxHeartbeats 4000000
set_option pp.maxSteps 400
set_option pp.deepTerms false
namespace Wd
open PySem L2 TL Br
open SX (S)

open PySem.Spec PyProof.Rows CwR
/-! ### whether a text is read as is due -/
structure YTxt (mg : Str → Option Value) (CB CP : Addr) : Prop where
  rp : mg "repr" = none
  gB : mg "PushError" = some (.ref CB)
  gP : mg "ParseError" = some (.ref CP)
def spRight : Sp := fun vs H Q _ => ∃ x : List Nat, vs = [.str (S x)] ∧ PTxt x ∧ x.length ≤ 250000 ∧ ∀ H', Same H H' → Q (.bl true) H'
section
variable {P : Program} {w : World} {K : PySem.W.Frag} {mg : Str → Option Value} {base : Heap} {fI fL fD fR CB CP : Addr} {dD dR : FuncData}
abbrev nRight : List Str := ["text", "due", "turn", "found", "e"]
theorem scRight : FnScope nRight ["text"] (defScope sRight) := ⟨rfl, rfl, rfl, by decide +kernel, rfl, by decide +kernel, by decide +kernel⟩
theorem ok_right {f : Addr} {fd : FuncData} (F : Fun K "_law_right" "_law_right" sRight f fd) (X : WTxt mg fI fL) (Y : YTxt mg CB CP) (xP : XfC K CP) (vP : PySem.W.findIn K (.ref CP) "index" = some none) (ePP : PySem.W.exmOne K (.ref CP) (.ref CP) = some true) (kB : PySem.W.kitCls K (.ref CP) (.ref CB) = some true) (nPB : ¬ (Value.ref CP == Value.ref CB) = true)
    (D : At P w K mg base 26 "_law_due" fD dD ["text"] spDue) (R : AtX P w K mg base 28 "read_paper" fR dR ["text"] (spReadPaperX CP)) : GnOk P w K mg base CX0 29 f fd ["text"] spRight := by
  refine gn_of F scRight (fun vs H Q E h => ?_) (fun cdv Ao outer s H vs Q E hgd hr h => ?_)
  · obtain ⟨x, rfl, _⟩ := h
    rfl
  · obtain ⟨x, rfl, ok, l25, q⟩ := h
    have nd := scRight.nd
    have hr26 : Room 26 _ := hr.mono (by decide)
    have hr28 : Room 28 _ := hr
    refine ⟨_, pss_cons (ps_set (i := 1) nd rfl (Or.inl rfl) (pe_call D.g hr26 rfl D.m D.kp D.b .nil pass0 (pa_cons (pv 0) pa_nil)))
      (pss_cons (ps_if (PW.pt (pw_and (pt_val (pe_isi (N := "int") (pv 1) X.isin X.int)) (pw_and1 (pt_cmpR op_gt (pe_callB call_len_str (by rfl) X.len PySem.boot_len (pa_cons (pv 0) pa_nil)) pe_int (nomark _))))) (pss_one (ps_ret pe_bl)) pss_nil)
      (pss_cons (ps_for PassesOwn.never rfl (pi_range1 rfl X.range (pa_cons pe_int pa_nil)) (pg_name (i := 2) nd rfl (Or.inl rfl)) (pss_cons (TM.ps_try_mix rfl rfl takes0 (fun W pn xe tk _ => pss_one (ps_set (i := 3) nd rfl (Or.inl rfl) (pe_callS (E := WE W) R.g hr28 rfl R.m R.kp R.b (passAt tk) (pa_cons (pv 0) pa_nil)))) (.named (ts := fun a cls d => tSeq (tIfS (tOr (tB (tIsi K "tuple" (tVar 1))) (tOr (tTest (tOp rNe (tXf a cls d CP "index" (tVar 4)) (tVar 1))) (tOr (tB (tIsi K "bool" (tXf a cls d CP "index" (tVar 4)))) (tNot (tB (tCB (rIsT K cls a CP) (tCons (tVar 4) (tCons (tC (.ref CB)) tNil)))))))) (tRet (tC (.bl false))) tNext) tCont) nd (i := 4) rfl rfl ⟨rfl, by decide, .inl Y.gP⟩ (fun a oe cls d pn hz hf => (pss_cons (ps_if (PW.pt (pw_or (pt_val (pe_isi (N := "tuple") (pv 1) X.isin X.tup)) (pw_or (pt_cmpR op_ne (pe_xf xP vP hz hf (pv 4)) (pv 1) (nomark _)) (pw_or (pt_val (pe_isi (N := "bool") (pe_xf xP vP hz hf (pv 4)) X.isin X.bool)) (pw_or1 (pt_not (pt_val (pe_callB (call_isT (D := CP) hz) (by rfl) X.isin (by decide +kernel) (pa_cons (pv 4) (pa_cons (pe_gcon rfl ⟨_, Y.gB, (show RelV (.ref _) (.ref _) from rfl)⟩) pa_nil)))))))))) (pss_one (ps_ret pe_bl)) pss_nil)
      (pss_one ps_continue))) .nil))
      (pss_one (ps_if (pt_cmpR op_ne (pe_callB (call_reprD hgd hr.units) (by rfl) Y.rp (by decide +kernel) (pa_cons (pv 3) pa_nil)) (pe_callB (call_reprD hgd hr.units) (by rfl) Y.rp (by decide +kernel) (pa_cons (pv 1) pa_nil)) (nomark _)) (pss_one (ps_ret pe_bl)) pss_nil))))
      (pss_one (ps_ret pe_bl)))), ?_⟩
    have lS : (S x).length = x.length := SX.S_len x
    have big : (16777216 : Nat) ≤ sizeLine := by decide
    refine ⟨_, rfl, x, rfl, ok, fun H1 v s1 res => ?_⟩
    cases hp : paperR x with
    | bad i =>
      rw [hp] at res
      have res : v = .int (i : Nat) := res
      subst res
      refine ⟨_, rfl, true, isi_ty (.base (.int _)) (by decide), _, rfl, iteT ⟨_, rfl, S x, rfl, by rw [lS]; omega, _, _, rfl, rfl, _, rfl, ?_⟩⟩
      refine ite2 (fun _ => q _ s1) (fun _ => ?_)
      refine ⟨_, rfl, by omega, by decide, ?_⟩
      refine for_it (walk_range (lo := 0)) (fun k σ H' => ∃ (v2 v3 : Option V), σ = [some (.str (S x)), some (.int (i : Nat)), v2, v3, none] ∧ Same H H') ⟨_, _, rfl, s1⟩ (fun _ _ _ _ _ => trivial) ?_ ?_
      · rintro k y σ H2 H' hk ⟨v2, v3, rfl, s2⟩ ⟨rfl, rfl⟩
        refine ⟨_, rfl, .inr ⟨x, rfl, ok, fun j hj => ?_, fun d hd => ?_⟩⟩
        · rw [hp] at hj
          cases hj
          intro d H3 nd' s3 ed
          refine ⟨true, ePP, fun _ ea hea => ?_, fun z => nomatch z⟩
          refine ⟨_, rfl, false, isi_ty (.base (.int _)) (by decide), _, rfl, iteF ?_⟩
          refine ⟨_, rfl, rfl, rfl, d, _, .int (i : Nat), rfl, ed, rfl, _, rfl, rfl, _, rfl, ?_⟩
          rw [decide_eq_true rfl]
          refine iteF ⟨_, rfl, rfl, rfl, d, _, .int (i : Nat), rfl, ed, rfl, false, isi_ty (.base (.int _)) (by decide), _, rfl, iteF ?_⟩
          refine ⟨_, rfl, rfl, .ref CB, .ref CB, rfl, (fun u r => ?_), nPB, kB, _, rfl, iteF ?_⟩
          · cases r
            rfl
          exact ⟨_, _, rfl, s2.trans s3⟩
        · rw [hp] at hd
          cases hd
      · rintro σ H2 ⟨v2, v3, rfl, s2⟩
        exact q _ s2
    | ok d =>
      rw [hp] at res
      have res : DA [] H1 d v := res
      obtain ⟨od, dpt, bk, ds, rfl⟩ := paperR_ok hp
      have pd := okD_pure od
      obtain ⟨r1, r2, r3, r4⟩ := okD_repr od
      have fits : (PyData.tuple ds).shown.length ≤ sizeLine := by
        have := PyData.shown_le_bulk 64 (by decide) (.tuple ds) r3
        omega
      have i1 : Isi K H1 v "int" false := by
        rcases res.isInt (K := K) with ⟨i, _, e, _⟩ | ⟨b, _, e, _⟩ | ⟨_, _, i1⟩
        · cases e
        · cases e
        · exact i1
      refine ⟨_, rfl, false, i1, _, rfl, iteF ?_⟩
      refine ⟨_, rfl, by omega, by decide, ?_⟩
      refine for_it (walk_range (lo := 0)) (fun k σ H' => ∃ (v2 v3 : Option V), σ = [some (.str (S x)), some v, v2, v3, none] ∧ Same H1 H') ⟨_, _, rfl, Same.refl _⟩ (fun _ _ _ _ _ => trivial) ?_ ?_
      · rintro k y σ H2 H' hk ⟨v2, v3, rfl, s2⟩ ⟨rfl, rfl⟩
        refine ⟨_, rfl, .inr ⟨x, rfl, ok, fun j hj => ?_, fun d hd H3 u s3 du => ?_⟩⟩
        · rw [hp] at hj
          cases hj
        rw [hp] at hd
        cases hd
        refine ⟨_, rfl, u, _, rfl, du.dp pd, r1, r2, by omega, fun _ => fits, _, rfl, v, _, rfl, (res.same (s2.trans s3)).dp pd, r1, r2, by omega, fun _ => fits, rfl, _, rfl, ?_⟩
        rw [decide_eq_true rfl]
        exact iteF ⟨_, _, rfl, s2.trans s3⟩
      · rintro σ H2 ⟨v2, v3, rfl, s2⟩
        exact q _ (s1.trans s2)
end
end Wd

set_option Elab.async false
set_option linter.all false
set_option maxRecDepth 100000
set_option maxHeartbeats 4000000
set_option pp.maxSteps 400
set_option pp.deepTerms false
namespace Wd
open PySem L2 TL
open SX (S)

open PySem.Spec PyProof.Rows CwR
/-! ### the law's own texts -/
theorem event_text (t v : Int) (u l : Str) : Str.ofString (toString t) ++ Str.ofString " " ++ u ++ Str.ofString " " ++ l ++ Str.ofString " " ++ Str.ofString (toString v) = S (joinL [32] [intL t, tl u, tl l, intL v]) := by
  have eu : u = S (tl u) := (SX.S_tl u).symm
  have el : l = S (tl l) := (SX.S_tl l).symm
  rw [← intL_text t, ← intL_text v, show Str.ofString " " = S [32] from rfl]
  conv => lhs; rw [eu, el]
  rw [SX.S_cat, SX.S_cat, SX.S_cat, SX.S_cat, SX.S_cat, SX.S_cat]
  congr 1
  show _ = intL t ++ ([32] ++ (tl u ++ ([32] ++ (tl l ++ ([32] ++ intL v)))))
  simp
def spLines : Sp := fun vs H Q _ => ∃ (A : List Addr) (v : V) (d : PyData), vs = [v] ∧ DA A H d v ∧ fitB 400000 d = true ∧ paperB d = true ∧ (paperT d).length ≤ 900000 ∧ ∀ H' p, Same H H' → H' p = some (.lst (wV (paperLs d))) → Q (.ref p) H'
section
variable {P : Program} {w : World} {K : PySem.W.Frag} {mg : Str → Option Value} {base : Heap} {fI fL fT : Addr} {dT : FuncData}
abbrev nLT : List Str := ["value", "item"]
theorem scLT : FnScope nLT ["value"] (defScope sText) := ⟨rfl, rfl, rfl, by decide +kernel, rfl, by decide +kernel, by decide +kernel⟩
theorem ok_ltext {f : Addr} {fd : FuncData} (F : Fun K "_law_text" "_law_text" sText f fd) (X : WTxt mg fI fL) (m : mg "_law_text" = some (.ref f)) (bd : Binds K fd ["value"] []) : ∀ n, FnOk P w K mg base CX0 (n + 1) f fd ["value"] (spIText n)
  | 0 => F.ok scLT (fun vs H Q E ⟨A, v, d, k, _, h, _⟩ => by rw [h]; rfl) fun cdv Ao outer s H vs Q E hr ⟨A, v, d, k, hk, _⟩ => absurd hk (by omega)
  | n + 1 => by
    have G := ok_ltext F X m bd n
    refine F.ok scLT (fun vs H Q E h => ?_) (fun cdv Ao outer s H vs Q E hr h => ?_)
    · obtain ⟨A, v, d, k, _, rfl, _⟩ := h
      rfl
    · obtain ⟨A, v, d, k, hk, rfl, da, fit, ib, lt, q⟩ := h
      have nd := scLT.nd
      refine ⟨_, pss_cons (ps_if (pt_not (pt_val (pe_isi (N := "tuple") (pv 0) X.isin X.tup))) (pss_one (ps_ret (pe_ifExp (pt_cmp (pc_isN (pv 0)) rfl) pe_str (pe_callTy (call_str_int.or SkE.call_str_str) (by rfl) X.str (by decide +kernel) (pa_cons (pv 0) pa_nil))))) pss_nil)
      (pss_one (ps_ret (pe_op op_add_str (pe_op op_add_str pe_str (pe_join pe_str (pe_lc (own := [("item", 1)]) (g := gName 1) (tt := tYes) rfl nd (pi_tup (pv 0)) (blkOk_by (N := nLT) (sc := defScope sText) (by decide +kernel)) (fun _ _ _ _ _ => pg_name (i := 1) nd rfl (Or.inl rfl)) (fun _ _ _ _ _ => pts_nil) (fun _ _ _ _ _ => (pe_call G hr rfl m F.kp bd .nil pass0 (pa_cons (pv 1) pa_nil)))))) pe_str))), ?_⟩
      rcases da.isTup (K := K) with ⟨a, xs, ds, rfl, rfl, na, e, l, i1⟩ | ⟨no, i1⟩
      · obtain ⟨l1000, fits⟩ := fit_tup fit
        have ll := l.length
        rw [itemB_tup, Bool.and_eq_true, decide_eq_true_eq] at ib
        have ibs := List.all_eq_true.mp ib.2
        rw [itemT_tup] at lt q
        have lj : (joinL [32] (ds.map itemT)).length ≤ 1000000 := by
          rw [List.length_cons, List.length_append] at lt
          omega
        refine ⟨_, rfl, _, i1, _, rfl, iteF ⟨⟨_, rfl⟩, _, rfl, a, rfl, ⟨_, SqT.of e⟩, fun D hD => ?_⟩⟩
        refine lc_texts (n := xs.length) (walk_tup (K := K) (xs := xs) (a := a)) (ds.map itemT) (by rw [List.length_map, ll]) hD (by omega) (fun H4 s4 => SqT.of (s4 _ _ e)) ?_ ?_
        · rintro i x H4 H' kT hi s4 ⟨rfl, hx⟩ h
          rw [List.length_map] at hi
          have hd := List.getElem?_eq_getElem hi
          have hm := List.getElem_mem hi
          refine ⟨rfl, _, rfl, A, x, ds[i], k - 1, by omega, rfl, (l.at hd hx).same s4, fits _ hm, ibs _ hm, ?_, fun H5 s5 => ?_⟩
          · exact Nat.le_trans (join_ge (s := 32) _ (List.mem_map_of_mem hm)) lj
          · have z := h H5 s5
            rw [List.getElem_map] at z
            exact z
        · intro H4 s4 e4
          have js := join_sum (s := 32) (xs := ds.map itemT)
          refine ⟨_, D, (ds.map itemT).map S, rfl, rfl, .inl (SqL.of (by rw [← wV_eq]; exact e4)), ?_, ?_⟩
          · rw [SX.lens, List.length_map]
            show _ + _ * 1 ≤ _
            omega
          · rw [show Txt.join (Str.ofString " ") ((ds.map itemT).map S) = S (joinL [32] (ds.map itemT)) from SX.join_S [32] _]
            have lS : (S (joinL [32] (ds.map itemT))).length ≤ 1000000 := by rw [SX.S_len]; exact lj
            have c1 : ∀ {k : Nat}, k ≤ 2000000 → k ≤ sizeLine := fun h => Nat.le_trans h (by decide)
            refine ⟨_, _, rfl, rfl, c1 (by show 1 + _ ≤ _; omega), _, _, rfl, rfl, ?_, ?_⟩
            · rw [show Str.ofString "(" = S [40] from rfl, SX.S_cat, SX.S_len]
              have e1 : (Str.ofString ")").length = 1 := rfl
              rw [e1, List.length_append, List.length_singleton]
              exact c1 (by omega)
            · rw [show Str.ofString "(" ++ S (joinL [32] (ds.map itemT)) ++ Str.ofString ")" = S (40 :: (joinL [32] (ds.map itemT) ++ [41])) from by rw [show Str.ofString "(" = S [40] from rfl, show Str.ofString ")" = S [41] from rfl, SX.S_cat, SX.S_cat]; rfl]
              exact q H4 s4
      · refine ⟨_, rfl, _, i1, _, rfl, iteT ?_⟩
        have hn : v = .non ∨ v ≠ .non := by
          cases v with
          | non => exact .inl rfl
          | _ => exact .inr fun e => nomatch e
        rcases hn with rfl | hn
        · cases da
          exact ⟨_, rfl, true, congrArg V.bl (decide_eq_true rfl), iteT (q H (Same.refl _))⟩
        · refine ⟨_, rfl, false, congrArg V.bl (decide_eq_false hn), iteF ?_⟩
          rw [itemB_no no fun e => by subst e; cases da; exact hn rfl] at ib
          cases da with
          | int i =>
            have hi := intB_i (show intB (.int i) = true from ib)
            refine ⟨_, rfl, .inl ⟨i, rfl, int_small hi.1 hi.2, ?_⟩⟩
            have e : S (itemT (.int i)) = Str.ofString (toString i) := SX.S_tl _
            rw [e] at q
            exact q H (Same.refl _)
          | str z =>
            refine ⟨_, rfl, .inr ⟨z, rfl, ?_⟩⟩
            have e : S (itemT (.str z)) = z := SX.S_tl _
            rw [e] at q
            exact q H (Same.refl _)
          | tup n e l => exact absurd rfl (no _)
          | non => exact absurd rfl hn
          | bl b => cases ib
          | lst n e l => cases ib
          | dic n e => cases ib
abbrev nLN : List Str := ["paper", "found", "time", "source", "letter", "value", "stands", "stand"]
theorem scLN : FnScope nLN ["paper"] (defScope sLines) := ⟨rfl, rfl, rfl, by decide +kernel, rfl, by decide +kernel, by decide +kernel⟩
theorem ok_llines {f : Addr} {fd : FuncData} (F : Fun K "_law_lines" "_law_lines" sLines f fd) (X : WTxt mg fI fL) (T : At P w K mg base 22 "_law_text" fT dT ["value"] (spIText 21)) : FnOk P w K mg base CX0 23 f fd ["paper"] spLines := by
  refine F.ok scLN (fun vs H Q E h => ?_) (fun cdv Ao outer s H vs Q E hr h => ?_)
  · obtain ⟨A, v, d, rfl, _⟩ := h
    rfl
  · obtain ⟨A, v, d, rfl, da, fit, pb, lt, q⟩ := h
    have nd := scLN.nd
    refine ⟨_, pss_cons (ps_if (pt_cmpR op_eq (pe_ix (r := rIxT K) ix_tup (pv 0) pe_int (fun _ _ => rfl)) pe_str (nomark _)) (pss_one (ps_ret (pe_op op_cat (pe_lst (pa_cons pe_str pa_nil)) (pe_lc (own := [("stand", 7)]) (g := gName 7) (tt := tYes) rfl nd (pi_tup (pe_ix (r := rIxT K) ix_tup (pv 0) pe_int (fun _ _ => rfl))) (blkOk_by (N := nLN) (sc := defScope sLines) (by decide +kernel)) (fun _ _ _ _ _ => pg_name (i := 7) nd rfl (Or.inl rfl)) (fun _ _ _ _ _ => pts_nil) (fun _ _ _ _ _ => (pe_call T.g hr rfl T.m T.kp T.b .nil pass0 (pa_cons (pv 7) pa_nil))))))) pss_nil)
      (pss_cons (ps_set (i := 1) nd rfl (Or.inl rfl) (pe_lst (pa_cons pe_str pa_nil)))
      (pss_cons (ps_for PassesOwn.never rfl (pi_tup (pe_ix (r := rIxT K) ix_tup (pv 0) pe_int (fun _ _ => rfl))) (pg_tup rfl (pgs_cons (pg_name (i := 2) nd rfl (Or.inl rfl)) (pgs_cons (pg_name (i := 3) nd rfl (Or.inl rfl)) (pgs_cons (pg_name (i := 4) nd rfl (Or.inl rfl)) (pgs_cons (pg_name (i := 5) nd rfl (Or.inl rfl)) pgs_nil))))) (pss_one (ps_expr (pe_bm PySem.F.plainAttrs_list PySem.F.slot_list_append PySem.F.type_list_append mt_append (pv 1) (pa_cons (pe_op op_add_str (pe_op op_add_str (pe_op op_add_str (pe_op op_add_str (pe_op op_add_str (pe_op op_add_str (pe_callTy (call_str_int.or SkE.call_str_str) (by rfl) X.str (by decide +kernel) (pa_cons (pv 2) pa_nil)) pe_str) (pv 3)) pe_str) (pv 4)) pe_str) (pe_callTy (call_str_int.or SkE.call_str_str) (by rfl) X.str (by decide +kernel) (pa_cons (pv 5) pa_nil))) pa_nil)))))
      (pss_cons (ps_expr (pe_bm PySem.F.plainAttrs_list PySem.F.slot_list_append PySem.F.type_list_append mt_append (pv 1) (pa_cons (pe_op op_add_str pe_str (pe_callTy (call_str_int.or SkE.call_str_str) (by rfl) X.str (by decide +kernel) (pa_cons (pe_ix (r := rIxT K) ix_tup (pv 0) pe_int (fun _ _ => rfl)) pa_nil))) pa_nil)))
      (pss_cons (ps_for PassesOwn.never rfl (pi_tup (pe_ix (r := rIxT K) ix_tup (pv 0) pe_int (fun _ _ => rfl))) (pg_name (i := 6) nd rfl (Or.inl rfl)) (pss_cons (ps_expr (pe_bm PySem.F.plainAttrs_list PySem.F.slot_list_append PySem.F.type_list_append mt_append (pv 1) (pa_cons pe_str pa_nil)))
      (pss_one (ps_expr (pe_bm PySem.F.plainAttrs_list PySem.F.slot_list_extend PySem.F.type_list_extend mt_extend (pv 1) (pa_cons (pe_lc (own := [("stand", 7)]) (g := gName 7) (tt := tYes) rfl nd (pi_tup (pv 6)) (blkOk_by (N := nLN) (sc := defScope sLines) (by decide +kernel)) (fun _ _ _ _ _ => pg_name (i := 7) nd rfl (Or.inl rfl)) (fun _ _ _ _ _ => pts_nil) (fun _ _ _ _ _ => (pe_call T.g hr rfl T.m T.kp T.b .nil pass0 (pa_cons (pv 7) pa_nil)))) pa_nil))))))
      (pss_one (ps_ret (pv 1))))))), ?_⟩
    have big : (16777216 : Nat) ≤ sizeLine := by decide
    have txt : ∀ {A : List Addr} {H2 : Hp} {ss : List PyData} {xs : List V}, DAL A H2 ss xs → (∀ x ∈ ss, standB x = true) → (∀ x ∈ ss, fitB 400000 x = true) → (∀ x ∈ ss, (itemT x).length ≤ 900000) → ∀ i x H4 (Qk : VK) (hi : i < (ss.map itemT).length), Same H2 H4 → xs[i]? = some x → (∀ H5, Same H4 H5 → Qk (.str (S (ss.map itemT)[i])) H5) → spIText 21 ([x] ++ []) H4 Qk E0 := by
      intro A H2 ss xs l hs hf ht i x H4 Qk hi s hx q
      rw [List.length_map] at hi
      have hd := List.getElem?_eq_getElem hi
      have hm := List.getElem_mem hi
      refine ⟨A, x, ss[i], 20, by decide, rfl, (l.at hd hx).same s, hf _ hm, (stand_item (hs _ hm)).1, by have := ht _ hm; omega, fun H5 s5 => ?_⟩
      have z := q H5 s5
      rw [List.getElem_map] at z
      exact z
    have hLR : listPB d = true ∨ rowPB d = true := by
      have h : (listPB d || rowPB d) = true := pb
      rw [Bool.or_eq_true] at h
      exact h
    rcases hLR with hL | hR
    · obtain ⟨ss, rfl, hs⟩ := listP_parts hL
      cases da with
      | @tup p xs _ np ep dl =>
        cases dl with
        | @cons _ _ v1 _ d1 dl =>
          cases dl with
          | @cons _ _ v2 _ d2 dl =>
            cases dl
            cases d1
            cases d2 with
            | @tup b ys _ nb eb de =>
              have lb := de.length
              have f2 := (fit_tup fit).2 (.tuple ss) (by simp)
              obtain ⟨n9, f9⟩ := fit_tup f2
              have lt' : (joinL [10] (listW :: ss.map itemT)).length ≤ 900000 := lt
              have js := join_sum (s := 10) (xs := listW :: ss.map itemT)
              refine ⟨_, rfl, p, _, 0, _, rfl, rfl, SqT.of ep, rfl, rfl, _, rfl, ?_⟩
              refine iteT ⟨by show 1 ≤ sizeLine; decide, fun c hc => ?_⟩
              have sc := same_new (o := .lst [.str (Str.ofString "list")]) hc
              have ec : (upd H c (.lst [.str (Str.ofString "list")])) c = some (.lst (wV [listW])) := by
                rw [upd_same]
                congr 2
              generalize upd H c (.lst [.str (Str.ofString "list")]) = H2 at sc ec ⊢
              have ep := sc _ _ ep
              have eb := sc _ _ eb
              have de := de.same sc
              refine ⟨_, rfl, p, _, 1, _, rfl, rfl, SqT.of ep, rfl, b, rfl, ⟨_, SqT.of eb⟩, fun D hD => ?_⟩
              refine lc_texts (n := ys.length) (walk_tup (K := K) (xs := ys) (a := b)) (ss.map itemT) (by rw [List.length_map, lb]) hD (by omega) (fun H4 s4 => SqT.of (s4 _ _ eb)) ?_ ?_
              · rintro i x H4 H' kT hi s4 ⟨rfl, hx⟩ h
                exact ⟨rfl, _, rfl, txt de hs f9 (fun x hx => by
                  have := join_ge (s := 10) (itemT x) (List.mem_cons_of_mem listW (List.mem_map_of_mem (f := itemT) hx))
                  omega) i x _ _ hi s4 hx h⟩
              · intro H4 s4 e4
                have ec := s4 _ _ ec
                rw [List.length_cons] at js
                refine ⟨c, D, _, _, rfl, rfl, ec, e4, by rw [wV_len, wV_len]; show 1 + _ ≤ _; omega, fun r hr => ?_⟩
                rw [wV_app]
                have sr := same_new (o := .lst (wV ([listW] ++ ss.map itemT))) hr
                exact q _ _ ((sc.trans s4).trans sr) upd_same
    · obtain ⟨es, l, rs, rfl, ev, as, l1, l2, ll, ln, hs⟩ := rowP_parts hR
      cases da with
      | @tup p xs _ np ep dl =>
        cases dl with
        | @cons _ _ v1 _ d1 dl =>
        cases dl with
        | @cons _ _ v2 _ d2 dl =>
        cases dl with
        | @cons _ _ v3 _ d3 dl =>
        cases dl with
        | @cons _ _ v4 _ d4 dl =>
          cases dl
          cases d1
          cases d3
          cases d2 with
          | @tup b ys _ nb eb de =>
          cases d4 with
          | @tup c zs _ nc ec dr =>
            have lb := de.length
            have lc := dr.length
            rw [List.length_map] at lc
            have f0 := (fit_tup fit).2
            obtain ⟨n2, f2⟩ := fit_tup (f0 (.tuple es) (by simp))
            obtain ⟨n4, f4⟩ := fit_tup (f0 (.tuple (rs.map .tuple)) (by simp))
            have pl : paperLs (.tuple [.str (Str.ofString "row"), .tuple es, .int l, .tuple (rs.map .tuple)]) = tapeLs es l (rs.flatMap roundLs) := by
              show tapeLs es l (((rs.map PyData.tuple).map partsD).flatMap roundLs) = _
              rw [parts_back]
            have pt : paperT (.tuple [.str (Str.ofString "row"), .tuple es, .int l, .tuple (rs.map .tuple)]) = joinL [10] (tapeLs es l (rs.flatMap roundLs)) := by
              unfold paperT
              rw [pl]
            rw [pt] at lt
            rw [pl] at q
            have js := join_sum (s := 10) (xs := tapeLs es l (rs.flatMap roundLs))
            have lll : (tapeLs es l (rs.flatMap roundLs)).length = es.length + 2 + (rs.flatMap roundLs).length := by
              show (es.map evL ++ untilL l :: rs.flatMap roundLs).length + 1 = _
              rw [List.length_append, List.length_map, List.length_cons]
              omega
            refine ⟨_, rfl, p, _, 0, _, rfl, rfl, SqT.of ep, rfl, rfl, _, rfl, ?_⟩
            rw [decide_eq_false (show V.str (Str.ofString "row") ≠ V.str (Str.ofString "list") from by decide)]
            refine iteF ⟨by show 1 ≤ sizeLine; decide, fun g hg => ?_⟩
            have sg := same_new (o := .lst [.str (Str.ofString "row")]) hg
            have eg : (upd H g (.lst [.str (Str.ofString "row")])) g = some (.lst (wV (rowW :: (es.take 0).map evL))) := by
              rw [upd_same]
              congr 2
            have noG : ∀ {H' : Hp} {o : HO}, Same H H' → Same H (upd H' g o) := fun {H' o} s b ob e => by
              rw [upd_ne (ne_of_none e hg)]
              exact s b ob e
            generalize upd H g (.lst [.str (Str.ofString "row")]) = H3 at sg eg ⊢
            refine ⟨_, rfl, p, _, 1, _, rfl, rfl, SqT.of (sg _ _ ep), rfl, b, rfl, ⟨_, SqT.of (sg _ _ eb)⟩, ?_⟩
            refine for_it (n := ys.length) (walk_tup (K := K) (xs := ys) (a := b)) (fun i σ H' => ∃ w2 w3 w4 w5, σ = [some (.ref p), some (.ref g), w2, w3, w4, w5, none, none] ∧ Same H H' ∧ H' g = some (.lst (wV (rowW :: (es.take i).map evL))))
              ⟨_, _, _, _, rfl, sg, eg⟩ (fun _ _ _ _ ⟨_, _, _, _, _, s, _⟩ => SqT.of (s _ _ eb)) ?_ ?_
            · rintro i x σ Hx H4 hi ⟨w2, w3, w4, w5, rfl, s4, e4⟩ ⟨rfl, hx⟩
              have hie : i < es.length := by omega
              have he := List.all_eq_true.mp ev _ (List.getElem_mem hie)
              have dx := (de.same s4).at (List.getElem?_eq_getElem hie) hx
              have el := (event_line he).1
              have ee : (es.take (i + 1)).map evL = (es.take i).map evL ++ [evL es[i]] := by
                rw [List.take_succ_eq_append_getElem hie, List.map_append]
                rfl
              rw [ee]
              obtain ⟨t, u, l', vv, eq, t1, t2, hu, hl, v1, v2⟩ := event_parts he
              generalize es[i] = de1 at dx el eq he ⊢
              subst eq
              cases dx with
              | @tup y xs _ ny ey dl =>
                have e5 : DAL A _ [.int t, .str u, .str l', .int vv] xs := dl
                obtain ⟨_, _, _, _, y1, y2, y3, y4, e6, rfl, b1, b2, b3, b4⟩ := four e5 rfl
                injection e6 with x1 e6
                injection e6 with x2 e6
                injection e6 with x3 e6
                injection e6 with x4 e6
                subst x1
                subst x2
                subst x3
                subst x4
                cases b1
                cases b2
                cases b3
                cases b4
                have zz : (0 : Int) < ten60 := by decide
                have tx := event_text t vv u l'
                have lx : (S (joinL [32] [intL t, tl u, tl l', intL vv])).length ≤ 400 := by
                  rw [SX.S_len]
                  exact el
                rw [← tx] at lx
                have lz : ∀ a b : Str, (a ++ b).length = a.length + b.length := fun a b => strLen_append a b
                rw [lz, lz, lz, lz, lz, lz] at lx
                have z1 : (Str.ofString " ").length = 1 := rfl
                rw [z1] at lx
                refine ⟨y, _, rfl, SqT.of ey, rfl, _, _, rfl, _, _, rfl, _, _, rfl, _, _, rfl, rfl, ?_⟩
                refine ⟨_, rfl, .inl ⟨rfl, _, SqL.of e4⟩, ?_⟩
                refine ⟨_, rfl, .inl ⟨t, rfl, int_small (by omega) t2, _, _, rfl, rfl, ?_, _, rfl, _, _, rfl, rfl, ?_, _, _, rfl, rfl, ?_, _, rfl, _, _, rfl, rfl, ?_, _, _, rfl, rfl, ?_, _, rfl, .inl ⟨vv, rfl, int_small v1 v2, _, _, rfl, rfl, ?_, ?_⟩⟩⟩
                · rw [z1]; omega
                · rw [lz, z1]; omega
                · rw [lz, lz, z1]; omega
                · rw [lz, lz, lz, z1]; omega
                · rw [lz, lz, lz, lz, z1]; omega
                · rw [lz, lz, lz, lz, lz, z1]; omega
                · rw [tx]
                  refine ⟨g, _, _, rfl, rfl, e4, ?_, _, _, _, _, rfl, noG s4, ?_⟩
                  · rw [wV_len, List.length_cons, List.length_map, List.length_take]
                    omega
                  · rw [upd_same]
                    show some (HO.lst (wV (rowW :: (es.take i).map evL) ++ wV [joinL [32] [intL t, tl u, tl l', intL vv]])) = _
                    rw [wV_app]
                    rfl
            · rintro σ H4 ⟨w2, w3, w4, w5, rfl, s4, e4⟩
              rw [← lb, List.take_length] at e4
              refine ⟨_, rfl, .inl ⟨rfl, _, SqL.of e4⟩, _, rfl, p, _, 2, _, rfl, rfl, SqT.of (s4 _ _ ep), rfl, .inl ⟨l, rfl, int_small l1 l2, _, _, rfl, rfl, ?_, ?_⟩⟩
              · have lu : (S (untilL l)).length ≤ 400 := by rw [SX.S_len]; exact (until_line l1 l2).1
                rw [← until_text, strLen_append] at lu
                have z2 : (Str.empty ++ Str.ofString "until ").length = 6 := rfl
                have z3 : (Str.ofString "until ").length = 6 := rfl
                omega
              have ut := until_text l
              rw [show Str.empty ++ Str.ofString "until " = Str.ofString "until " from rfl] at ut
              rw [ut]
              refine ⟨g, _, _, rfl, rfl, e4, ?_, ?_⟩
              · rw [wV_len, List.length_cons, List.length_map]
                omega
              have e5 : (upd H4 g (.lst (wV (rowW :: es.map evL) ++ [.str (S (untilL l))]))) g = some (.lst (wV (tapeLs es l ((rs.take 0).flatMap roundLs)))) := by
                rw [upd_same]
                show some (HO.lst (wV (rowW :: es.map evL) ++ wV [untilL l])) = _
                rw [wV_app]
                rfl
              have s5 : Same H (upd H4 g (.lst (wV (rowW :: es.map evL) ++ [.str (S (untilL l))]))) := noG s4
              generalize upd H4 g (.lst (wV (rowW :: es.map evL) ++ [.str (S (untilL l))])) = H5 at e5 s5
              refine ⟨_, rfl, p, _, 3, _, rfl, rfl, SqT.of (s5 _ _ ep), rfl, c, rfl, ⟨_, SqT.of (s5 _ _ ec)⟩, ?_⟩
              refine for_it (n := zs.length) (walk_tup (K := K) (xs := zs) (a := c)) (fun i σ H' => ∃ w2 w3 w4 w5 w6, σ = [some (.ref p), some (.ref g), w2, w3, w4, w5, w6, none] ∧ Same H H' ∧ H' g = some (.lst (wV (tapeLs es l ((rs.take i).flatMap roundLs)))))
                ⟨_, _, _, _, _, rfl, s5, e5⟩ (fun _ _ _ _ ⟨_, _, _, _, _, _, s, _⟩ => SqT.of (s _ _ ec)) ?_ ?_
              · rintro i y0 σ Hx H8 hi ⟨w2, w3, w4, w5, w6, rfl, s8, ey⟩ ⟨rfl, hy⟩
                have hir : i < rs.length := by omega
                have dy := (dr.same s8).at (i := i) (d := .tuple rs[i]) (by rw [List.getElem?_map, List.getElem?_eq_getElem hir]; rfl) hy
                have hm := List.getElem_mem hir
                cases dy with
                | @tup z ws _ nq eq dl =>
                  have lq := dl.length
                  obtain ⟨n5, f5⟩ := fit_tup (f4 (.tuple rs[i]) (List.mem_map_of_mem hm))
                  have fm : rs.flatMap roundLs = (rs.take i).flatMap roundLs ++ (roundLs rs[i] ++ (rs.drop (i + 1)).flatMap roundLs) := by
                    have : rs = rs.take i ++ rs[i] :: rs.drop (i + 1) := by
                      rw [← List.drop_eq_getElem_cons hir, List.take_append_drop]
                    rw [show rs.flatMap roundLs = (rs.take i ++ rs[i] :: rs.drop (i + 1)).flatMap roundLs from congrArg (List.flatMap roundLs) this, List.flatMap_append, List.flatMap_cons]
                  have fl := congrArg List.length fm
                  rw [List.length_append, List.length_append, show (roundLs rs[i]).length = rs[i].length + 1 from by show (rndW :: rs[i].map itemT).length = _; rw [List.length_cons, List.length_map]] at fl
                  have lt3 : (tapeLs es l ((rs.take i).flatMap roundLs)).length = es.length + 2 + ((rs.take i).flatMap roundLs).length := by
                    show (es.map evL ++ untilL l :: _).length + 1 = _
                    rw [List.length_append, List.length_map, List.length_cons]
                    omega
                  refine ⟨_, rfl, .inl ⟨rfl, _, SqL.of ey⟩, g, _, _, rfl, rfl, ey, by rw [wV_len]; omega, ?_⟩
                  have e9 : (upd H8 g (.lst (wV (tapeLs es l ((rs.take i).flatMap roundLs)) ++ [.str (Str.ofString "round")]))) g = some (.lst (wV (tapeLs es l ((rs.take i).flatMap roundLs) ++ [rndW]))) := by
                    rw [upd_same, ← wV_app]
                    congr 3
                  have s9 : Same H (upd H8 g (.lst (wV (tapeLs es l ((rs.take i).flatMap roundLs)) ++ [.str (Str.ofString "round")]))) := noG s8
                  have nzg : z ≠ g := fun e => by rw [e, ey] at eq; cases eq
                  have eq : (upd H8 g (.lst (wV (tapeLs es l ((rs.take i).flatMap roundLs)) ++ [.str (Str.ofString "round")]))) z = some (.tup ws) := (upd_ne nzg).trans eq
                  have dl := (dr.same s9).at (i := i) (d := .tuple rs[i]) (by rw [List.getElem?_map, List.getElem?_eq_getElem hir]; rfl) hy
                  generalize upd H8 g (.lst (wV (tapeLs es l ((rs.take i).flatMap roundLs)) ++ [.str (Str.ofString "round")])) = H9 at e9 s9 eq dl
                  cases dl with
                  | @tup _ ws2 _ nq2 eq2 dl =>
                    rw [eq] at eq2
                    cases eq2
                    refine ⟨_, rfl, .inl ⟨rfl, _, SqL.of e9⟩, _, rfl, z, rfl, ⟨_, SqT.of eq⟩, fun D3 hD3 => ?_⟩
                    refine lc_texts (n := ws.length) (walk_tup (K := K) (xs := ws) (a := z)) (rs[i].map itemT) (by rw [List.length_map, lq]) hD3 (by omega) (fun H4 s4 => SqT.of (s4 _ _ eq)) ?_ ?_
                    · rintro j y1 H11 H' kT hj s11 ⟨rfl, hx⟩ h
                      exact ⟨rfl, _, rfl, txt dl (hs _ hm) f5 (fun x hx => by
                        have : itemT x ∈ tapeLs es l (rs.flatMap roundLs) := by
                          refine List.mem_cons_of_mem _ (List.mem_append_right _ (List.mem_cons_of_mem _ (List.mem_flatMap.mpr ⟨_, hm, List.mem_cons_of_mem _ (List.mem_map_of_mem hx)⟩)))
                        have := join_ge (s := 10) _ this
                        omega) j y1 _ _ hj s11 hx h⟩
                    · intro H11 s11 e11
                      have e9 := s11 _ _ e9
                      refine ⟨g, D3, _, _, rfl, rfl, e9, e11, ?_, _, _, _, _, _, rfl, noG (s9.trans s11), ?_⟩
                      · rw [wV_len, wV_len, List.length_append, List.length_map]
                        show _ + 1 + _ ≤ _
                        omega
                      · rw [upd_same, wV_app]
                        congr 3
                        rw [List.take_succ_eq_append_getElem hir, List.flatMap_append]
                        show (rowW :: (es.map evL ++ untilL l :: (rs.take i).flatMap roundLs)) ++ [rndW] ++ rs[i].map itemT = rowW :: (es.map evL ++ untilL l :: ((rs.take i).flatMap roundLs ++ [rs[i]].flatMap roundLs))
                        rw [show [rs[i]].flatMap roundLs = rndW :: rs[i].map itemT from by simp [roundLs]]
                        simp
              · rintro σ H8 ⟨w2, w3, w4, w5, w6, rfl, s8, ey⟩
                rw [← lc, List.take_length] at ey
                exact ⟨_, rfl, q _ _ s8 ey⟩
end
end Wd

set_option Elab.async false
set_option linter.all false
set_option maxRecDepth 100000
set_option maxHeartbeats 4000000
set_option pp.maxSteps 400
set_option pp.deepTerms false
namespace Wd
open PySem L2 TL Br
open SX (S)

open PySem.Spec PyProof.Rows CwR
/-! ### a case -/
structure GAt (P : Program) (w : World) (K : PySem.W.Frag) (mg : Str → Option Value) (base : Heap) (k : Nat) (x : Str) (f : Addr) (fd : FuncData) (ps : List Str) (sp : Sp) : Prop where
  m : mg x = some (.ref f)
  kp : PySem.W.keepIn K (.ref f) = true
  b : Binds K fd ps []
  g : GnOk P w K mg base CX0 k f fd ps sp
theorem LsOk.txt {m t : Nat} {ls : List (List Nat)} (h : LsOk m t ls) (hm : m ≤ 25000) (ht : t ≤ 250000) : PTxt (joinL [10] ls) ∧ (joinL [10] ls).length ≤ 250000 := by
  have jt := join_total (s := 10) h.ne
  have tt := h.t
  have lj : (joinL [10] ls).length ≤ 250000 := by
    unfold tot at tt
    omega
  have sp : spl [10] 0 [] (joinL [10] ls) = ls := spl_join h.ne fun p hp e => ((h.a p hp).a 10 e).2 rfl
  refine ⟨⟨by omega, fun y hy => ?_⟩, lj⟩
  rw [sp] at hy
  have := h.a y hy
  exact ⟨Nat.le_trans this.l hm, fun c hc => (this.a c hc).1⟩
theorem paper_lines {d : PyData} (h : paperB d = true) : paperLs d ≠ [] ∧ ∀ x ∈ paperLs d, ∀ c ∈ x, c < 128 ∧ c ≠ 10 := by
  have st : ∀ {y : PyData}, standB y = true → ∀ c ∈ itemT y, c < 128 ∧ c ≠ 10 := fun h c hc => by
    have := item_signs 20 (stand_item h).1 c hc
    omega
  have wd : ∀ c, (c ∈ listW ∨ c ∈ rowW ∨ c ∈ rndW) → c < 128 ∧ c ≠ 10 := by
    intro c hc
    have : (listW ++ (rowW ++ rndW)).all (fun c => decide (c < 128) && decide (c ≠ 10)) = true := by decide +kernel
    have := List.all_eq_true.mp this c (by simp only [List.mem_append]; exact hc)
    rw [Bool.and_eq_true, decide_eq_true_eq, decide_eq_true_eq] at this
    exact this
  unfold paperB at h
  rw [Bool.or_eq_true] at h
  rcases h with h | h
  · obtain ⟨ss, rfl, hs⟩ := listP_parts h
    refine ⟨(by simp [paperLs]), fun x hx c hc => ?_⟩
    have hx : x ∈ listW :: ss.map itemT := hx
    rcases List.mem_cons.mp hx with rfl | hx
    · exact wd c (.inl hc)
    · obtain ⟨y, hy, rfl⟩ := List.mem_map.mp hx
      exact st (hs y hy) c hc
  · obtain ⟨es, l, rs, rfl, ev, as, l1, l2, ll, ln, hs⟩ := rowP_parts h
    have pe : paperLs (.tuple [.str (Str.ofString "row"), .tuple es, .int l, .tuple (rs.map .tuple)]) = tapeLs es l (rs.flatMap roundLs) := by
      show tapeLs es l (((rs.map PyData.tuple).map partsD).flatMap roundLs) = _
      rw [parts_back]
    rw [pe]
    refine ⟨(by simp [tapeLs]), fun x hx c hc => ?_⟩
    have hx : x ∈ rowW :: (es.map evL ++ untilL l :: rs.flatMap roundLs) := hx
    rcases List.mem_cons.mp hx with rfl | hx
    · exact wd c (.inr (.inl hc))
    · rcases List.mem_append.mp hx with hx | hx
      · obtain ⟨d, hd, rfl⟩ := List.mem_map.mp hx
        have := (event_line (List.all_eq_true.mp ev d hd)).2.1 c hc
        omega
      · rcases List.mem_cons.mp hx with rfl | hx
        · have := (until_line l1 l2).2.1 c hc
          omega
        · obtain ⟨ss, hss, hx⟩ := List.mem_flatMap.mp hx
          rcases List.mem_cons.mp hx with rfl | hx
          · exact wd c (.inr (.inr hc))
          · obtain ⟨y, hy, rfl⟩ := List.mem_map.mp hx
            exact st (hs ss hss y hy) c hc
theorem pap_lines {d : PyData} (h : PapD d) : LsOk 19800 160000 (paperLs d) := by
  obtain ⟨ne, sg⟩ := paper_lines h.p
  refine ⟨ne, fun x hx => ⟨h.n x hx, sg x hx⟩, ?_⟩
  have jt := join_total (s := 10) ne
  have ps := paper_sz h.p
  have e : (joinL [10] (paperLs d)).length = (paperT d).length := rfl
  have := h.w
  unfold tot
  omega
def spCase : Sp := fun vs H Q _ => ∃ B : Addr, vs = [.ref B] ∧ BagAt H B ∧ ∀ H', SB B H H' → Q (.bl true) H'
section
variable {P : Program} {w : World} {K : PySem.W.Frag} {mg : Str → Option Value} {base : Heap} {fI fL fT fP fPA fLN fR fSP : Addr} {fdT fdP dPA dLN dR dSP : FuncData}
theorem scCase : FnScope ["bag", "lines", "turn"] ["bag"] (defScope sCase) := ⟨rfl, rfl, rfl, by decide +kernel, rfl, by decide +kernel, by decide +kernel⟩
theorem ok_case {f : Addr} {fd : FuncData} (F : Fun K "_law_case" "_law_case" sCase f fd) (X : WTxt mg fI fL) (T : GTxt mg fT fP) (FT : Fun K "_law_throw" "_law_throw" sThrow fT fdT) (bT : Binds K fdT ["bag", "total"] []) (FP : Fun K "_law_pick" "_law_pick" sPick fP fdP) (bP : Binds K fdP ["bag", "items"] [])
    (PA : At P w K mg base 14 "_law_paper" fPA dPA ["bag"] spPaper) (LN : At P w K mg base 23 "_law_lines" fLN dLN ["paper"] spLines) (R : GAt P w K mg base 29 "_law_right" fR dR ["text"] spRight) (SP : At P w K mg base 4 "_law_spoilt" fSP dSP ["bag", "lines"] spSpoilt) : GnOk P w K mg base CX0 30 f fd ["bag"] spCase := by
  have GL : FnOk P w K mg base CX0 2 fP fdP ["bag", "items"] spPickL := ok_pickL FP T.toTxtA FT bT
  refine gn_of F scCase (fun vs H Q E h => ?_) (fun cdv Ao outer s H vs Q E hgd hr h => ?_)
  · obtain ⟨B, rfl, _⟩ := h
    rfl
  · obtain ⟨B, rfl, hB, q⟩ := h
    have nd := scCase.nd
    have hr2 : Room 2 _ := hr.mono (by decide)
    have hr4 : Room 4 _ := hr.mono (by decide)
    have hr14 : Room 14 _ := hr.mono (by decide)
    have hr23 : Room 23 _ := hr.mono (by decide)
    have hr29 : Room 29 _ := hr
    refine ⟨_, pss_cons (ps_set (i := 1) nd rfl (Or.inl rfl) (pe_call LN.g hr23 rfl LN.m LN.kp LN.b .nil pass0 (pa_cons (pe_call PA.g hr14 rfl PA.m PA.kp PA.b .nil pass0 (pa_cons (pv 0) pa_nil)) pa_nil)))
      (pss_cons (ps_if (pt_not (pt_val (pe_callG hgd R.g hr29 rfl R.m R.kp R.b pass0 (pa_cons (pe_join pe_str (pv 1)) pa_nil)))) (pss_one (ps_ret pe_bl)) pss_nil)
      (pss_cons (ps_for PassesOwn.never rfl (pi_range1 rfl X.range (pa_cons (pe_call GL hr2 rfl T.pick FP.kp bP .nil pass0 (pa_cons (pv 0) (pa_cons (pe_lst (pa_cons pe_int (pa_cons pe_int (pa_cons pe_int (pa_cons pe_int (pa_cons pe_int pa_nil)))))) pa_nil))) pa_nil)) (pg_name (i := 2) nd rfl (Or.inl rfl)) (pss_one (ps_set (i := 1) nd rfl (Or.inl rfl) (pe_call SP.g hr4 rfl SP.m SP.kp SP.b .nil pass0 (pa_cons (pv 0) (pa_cons (pv 1) pa_nil))))))
      (pss_one (ps_ret (pe_callG hgd R.g hr29 rfl R.m R.kp R.b pass0 (pa_cons (pe_join pe_str (pv 1)) pa_nil)))))), ?_⟩
    have big : (16777216 : Nat) ≤ sizeLine := by decide
    refine ⟨_, rfl, B, rfl, hB, fun d v H1 dv pd s1 b1 => ?_⟩
    have psz := paper_sz pd.p
    have pw := pd.w
    refine ⟨[], v, d, rfl, dv, fit_up (by decide) pd.f, pd.p, by omega, fun H2 p s2 e2 => ?_⟩
    have b2 := bag_same b1 s2
    have npB : p ≠ B := fun e => by
      obtain ⟨x, y, z, hb⟩ := b2
      rw [← e, e2] at hb
      injection hb with hb
      injection hb with hb
      have ne := (pap_lines pd).ne
      cases hp : paperLs d with
      | nil => exact ne hp
      | cons x r =>
        rw [hp] at hb
        cases hb
    have ok := pap_lines pd
    generalize paperLs d = ls at e2 ok
    have s2 := s1.trans (SB.of (B := B) s2)
    obtain ⟨pt, pl⟩ := ok.txt (by decide) (by decide)
    have jt := join_total (s := 10) ok.ne
    have ll : ls.length ≤ 160000 := Nat.le_trans (tot_len ls) ok.t
    refine ⟨⟨_, rfl⟩, _, rfl, _, p, ls.map S, rfl, rfl, .inl (SqL.of (by rw [← wV_eq]; exact e2)), ?_, ?_⟩
    · rw [SX.lens, List.length_map]
      show _ + _ * 1 ≤ _
      omega
    rw [show Txt.join (Str.ofString "\n") (ls.map S) = S (joinL [10] ls) from SX.join_S [10] _]
    refine ⟨_, rfl, pt, pl, fun H3 s3 => ⟨_, rfl, iteF ?_⟩⟩
    have e3 := s3 _ _ e2
    have b3 := bag_same b2 s3
    have s3 := s2.trans (SB.of (B := B) s3)
    refine ⟨_, rfl, by show 5 ≤ sizeLine; decide, fun L hL => ⟨B, L, _, rfl, b3.new hL, (b3.ne hL).symm, upd_same, by show 0 < 5; decide, by show 5 ≤ 100; decide, fun y H4 hy s4 b4 => ?_⟩⟩
    have s4 := (SB.of (B := B) (same_new (o := .lst [.int 0, .int 1, .int 1, .int 1, .int 2]) hL)).trans s4
    have e4 := s4 _ _ npB e3
    have s4 := s3.trans s4
    obtain ⟨k, rfl, k2⟩ : ∃ k : Nat, y = .int (k : Nat) ∧ k ≤ 2 := by
      have hy : y = .int 0 ∨ y = .int 1 ∨ y = .int 2 := by
        simp only [List.mem_cons, List.not_mem_nil, or_false] at hy
        rcases hy with h | h | h | h | h
        · exact .inl h
        · exact .inr (.inl h)
        · exact .inr (.inl h)
        · exact .inr (.inl h)
        · exact .inr (.inr h)
      rcases hy with rfl | rfl | rfl
      · exact ⟨0, rfl, by decide⟩
      · exact ⟨1, rfl, by decide⟩
      · exact ⟨2, rfl, by decide⟩
    refine ⟨_, rfl, by omega, by omega, ?_⟩
    rw [Int.toNat_natCast]
    refine for_it (walk_range (lo := 0) (n := k)) (fun i σ H' => ∃ (v2 : Option V) (a : Addr) (ls : List (List Nat)), σ = [some (.ref B), some (.ref a), v2] ∧ SB B H H' ∧ BagAt H' B ∧ a ≠ B ∧ H' a = some (.lst (wV ls)) ∧ LsOk (19800 + 1500 * i) (160000 + 25000 * i) ls) ⟨_, p, ls, rfl, s4, b4, npB, e4, ok⟩ (fun _ _ _ _ _ => trivial) ?_ ?_
    · rintro i x σ H5 H' hi ⟨v2, a, ls, rfl, s5, b5, naB, e5, ok5⟩ ⟨rfl, rfl⟩
      dsimp only
      refine ⟨_, rfl, _, rfl, B, a, ls, _, _, rfl, b5, naB, e5, ok5, by omega, by omega, fun H6 p6 ls6 ok6 s6 b6 n6 e6 => ?_⟩
      exact ⟨_, p6, ls6, rfl, s5.trans s6, b6, n6, e6, ok6⟩
    · rintro σ H5 ⟨v2, a, ls, rfl, s5, b5, naB, e5, ok5⟩
      obtain ⟨pt, pl⟩ := ok5.txt (by omega) (by omega)
      have jt := join_total (s := 10) ok5.ne
      have ll : ls.length ≤ 250000 := Nat.le_trans (tot_len ls) (Nat.le_trans ok5.t (by omega))
      refine ⟨⟨_, rfl⟩, _, rfl, _, a, ls.map S, rfl, rfl, .inl (SqL.of (by rw [← wV_eq]; exact e5)), ?_, ?_⟩
      · rw [SX.lens, List.length_map]
        show _ + _ * 1 ≤ _
        omega
      rw [show Txt.join (Str.ofString "\n") (ls.map S) = S (joinL [10] ls) from SX.join_S [10] _]
      exact ⟨_, rfl, pt, pl, fun H6 s6 => q _ (s5.trans (SB.of s6))⟩
end
end Wd

set_option Elab.async false
set_option linter.all false
set_option maxRecDepth 100000
set_option maxHeartbeats 4000000
set_option pp.maxSteps 400
set_option pp.deepTerms false
namespace Wd
open PySem L2 TL Br
open SX (S)

open PySem.Spec PyProof.Rows CwR
/-! ### the law -/
/-- an expression that makes data, over a heap that goes on from H0 -/
def Lit (σ : L2.St) (H0 : Hp) (te : TE) (d : PyData) : Prop := ∀ (H : Hp) (Q : VK), Same H0 H → (∀ H' v, Same H H' → DA [] H' d v → Q v H') → te σ H Q
def LitA (σ : L2.St) (H0 : Hp) (ta : TA) (ds : List PyData) : Prop := ∀ (H : Hp) (Q : List V → Hp → Prop), Same H0 H → (∀ H' vs, Same H H' → DAL [] H' ds vs → Q vs H') → ta σ H Q
section
variable {σ : L2.St} {H0 : Hp}
theorem LitA.nil : LitA σ H0 tNil [] := fun H Q _ k => k H [] (Same.refl _) .nil
theorem LitA.cons {te : TE} {ta : TA} {d : PyData} {ds : List PyData} (a : Lit σ H0 te d) (b : LitA σ H0 ta ds) : LitA σ H0 (tCons te ta) (d :: ds) := fun H Q s k => a H _ s fun H1 v s1 dv => b H1 _ (s.trans s1) fun H2 vs s2 dl => k H2 (v :: vs) (s1.trans s2) (.cons (dv.same s2) dl)
theorem Lit.non : Lit σ H0 (tC .non) .none := fun H Q _ k => k H _ (Same.refl _) .non
theorem Lit.str {z : Str} : Lit σ H0 (tC (.str z)) (.str z) := fun H Q _ k => k H _ (Same.refl _) (.str z)
theorem Lit.int {i : Int} : Lit σ H0 (tC (.int i)) (.int i) := fun H Q _ k => k H _ (Same.refl _) (.int i)
theorem Lit.neg {i : Int} : Lit σ H0 (tUn (rU fun i => .int (-i)) (tC (.int i))) (.int (-i)) := fun H Q _ k => ⟨i, rfl, k H _ (Same.refl _) (.int _)⟩
theorem Lit.dic : Lit σ H0 tDNewK (.dict []) := fun H Q _ k p hp => k _ _ (same_new hp) (.dic (fun z => nomatch z) upd_same)
theorem Lit.tup {ta : TA} {ds : List PyData} (n : ds.length ≤ sizeLine) (a : LitA σ H0 ta ds) : Lit σ H0 (tTup ta) (.tuple ds) := fun H Q s k => a H _ s fun H1 vs s1 dl => ⟨by rw [← dl.length]; exact n, fun p hp => k _ _ (s1.trans (same_new hp)) (.tup (fun z => nomatch z) upd_same (dl.same (same_new hp)))⟩
theorem Lit.lst {ta : TA} {ds : List PyData} (n : ds.length ≤ sizeLine) (a : LitA σ H0 ta ds) : Lit σ H0 (tLst ta) (.list ds) := fun H Q s k => a H _ s fun H1 vs s1 dl => ⟨by rw [← dl.length]; exact n, fun p hp => k _ _ (s1.trans (same_new hp)) (.lst (fun z => nomatch z) upd_same (dl.same (same_new hp)))⟩
theorem Lit.var {i : Nat} {v : V} {d : PyData} (e : σ[i]? = some (some v)) (dv : DA [] H0 d v) : Lit σ H0 (tVar i) d := fun H Q s k => ⟨v, e, k H v (Same.refl _) (dv.same s)⟩
theorem Lit.bl {b : Bool} : Lit σ H0 (tC (.bl b)) (.bool b) := fun H Q _ k => k H _ (Same.refl _) (.bl b)
end
def ptB (x : List Nat) : Bool := decide (x.length ≤ 250000) && (spl [10] 0 [] x).all fun y => decide (y.length ≤ 25000) && y.all fun c => decide (c < 128)
theorem ptB_ok {x : List Nat} (h : ptB x = true) : PTxt x ∧ x.length ≤ 250000 := by
  unfold ptB at h
  rw [Bool.and_eq_true, decide_eq_true_eq, List.all_eq_true] at h
  refine ⟨⟨by omega, fun y hy => ?_⟩, h.1⟩
  have := h.2 y hy
  rw [Bool.and_eq_true, decide_eq_true_eq, List.all_eq_true] at this
  exact ⟨this.1, fun c hc => of_decide_eq_true (this.2 c hc)⟩
def zeroS : Str := Str.ofString "(" ++ S (List.replicate 13 [48, 32]).flatten ++ Str.ofString "0)"
def wideS : Str := Str.ofString "list\n(on on () (" ++ Txt.join (Str.ofString " ") (List.replicate 14 zeroS) ++ Str.ofString "))"
def someS : List Str := [wideS, Str.ofString "row\n5 s a 1\nuntil 4", Str.ofString "row\n5 s a 1\n4 s a 1", Str.ofString "row\nuntil 1_0", Str.ofString "", Str.ofString "list", Str.ofString "row"]
def moreS : List Str := [Str.ofString "list\n", Str.ofString "row\nuntil 0\nround", Str.ofString "row\n\nuntil 0"]
theorem some_ok : (someS ++ moreS).all (fun z => ptB (tl z)) = true := by decide +kernel
theorem same_bag' {H0 H' H1 Hk : Hp} {B : Addr} (s0 : Same H0 H') (hB : H' B = none) (s1 : Same H' H1) (s : SB B H1 Hk) : Same H0 Hk := fun b o e => s b o (ne_of_none (s0 b o e) hB) (s1 b o (s0 b o e))
theorem seqForL {K : PySem.W.Frag} {σ : L2.St} {H : Hp} {u : TS} {D : Ends} {ta : TA} {g : TG} {tb : TS} {ds : List PyData} (h : LitA σ H ta ds) (n : ds.length ≤ 100) (k : ∀ H1 C ms, Same H H1 → DAL [] H1 ds ms → H1 C = some (.lst ms) → tFor (fun _ H' R => R (Itl K C) H') g tb { D with nx := u D } σ H1) : tSeq (tFor (iList K (tLst ta)) g tb) u D σ H := by
  have c1 : ∀ {k : Nat}, k ≤ 200 → k ≤ sizeLine := fun h => Nat.le_trans h (by decide)
  change ta σ H _
  refine h H _ (Same.refl _) fun H1 ms s1 dm => ?_
  have lm := dm.length
  refine ⟨c1 (by omega), fun M hM => ⟨M, rfl, ⟨_, SqL.of upd_same⟩, ?_⟩⟩
  have s2 := same_new (o := .lst ms) hM
  exact k _ M ms (s1.trans s2) (dm.same s2) upd_same
theorem for_itF {J : It} {n : Nat} {G : Hp → Prop} {Y : Nat → Hp → V → Hp → Prop} (w : Walk J n G Y) {g : TG} {tb : TS} {D : Ends} {σ : L2.St} {H : Hp} (Pv : Nat → L2.St → Hp → Prop) (h0 : Pv 0 σ H) (hG : ∀ i σ H, i ≤ n → Pv i σ H → G H)
    (hs : ∀ i x σ H H', i < n → Pv i σ H → Y i H x H' → g x σ H' fun σ2 H2 => tb { D with nx := Pv (i + 1), ct := Pv (i + 1), bk := D.nx } σ2 H2) (hd : ∀ σ H, Pv n σ H → D.nx σ H) : tFor (fun _ H' R => R J H') g tb D σ H := for_it w Pv h0 hG hs hd
structure ZTxt50 (mg : Str → Option Value) (CP : Addr) : Prop where
  len : mg "len" = none
  range : mg "range" = none
  max : mg "max" = none
  min : mg "min" = none
  gP : mg "ParseError" = some (.ref CP)
def spLaw (K : PySem.W.Frag) : Sp := fun vs H Q _ => ∃ (a : Addr) (ns : List Int), vs = [.ref a] ∧ SqL K H a (ns.map V.int) ∧ ns.length ≤ 63 ∧ ∀ H', Q (.bl true) H'
section
variable {P : Program} {w : World} {K : PySem.W.Frag} {mg : Str → Option Value} {base : Heap} {fA fR fC fRP CP : Addr} {dA dR dC dRP : FuncData}
abbrev nLaw : List Str := ["script", "value", "e", "wide", "some", "text", "at"]
theorem scLaw : FnScope nLaw ["script"] (defScope sLaw) := ⟨rfl, rfl, rfl, by decide +kernel, rfl, by decide +kernel, by decide +kernel⟩
theorem ok_law {f : Addr} {fd : FuncData} (F : Fun K "law" "law" sLaw f fd) (Z : ZTxt50 mg CP) (xP : XfC K CP) (vP : PySem.W.findIn K (.ref CP) "index" = some none) (ePP : PySem.W.exmOne K (.ref CP) (.ref CP) = some true)
    (A : At P w K mg base 1 "_law_start" fA dA ["script", "at"] (spStart K)) (RP : AtX P w K mg base 28 "read_paper" fRP dRP ["text"] (spReadPaperX CP)) (R : GAt P w K mg base 29 "_law_right" fR dR ["text"] spRight) (Cs : GAt P w K mg base 30 "_law_case" fC dC ["bag"] spCase) : GnOk P w K mg base CX0 31 f fd ["script"] (spLaw K) := by
  refine gn_of F scLaw (fun vs H Q E h => ?_) (fun cdv Ao outer s H vs Q E hgd hr h => ?_)
  · obtain ⟨a, ns, rfl, _⟩ := h
    rfl
  · obtain ⟨a, ns, rfl, hS, hn, q⟩ := h
    have nd := scLaw.nd
    have hr1 : Room 1 _ := hr.mono (by decide)
    have hr28 : Room 28 _ := hr.mono (by decide)
    have hr29 : Room 29 _ := hr.mono (by decide)
    have hr30 : Room 30 _ := hr
    refine ⟨_, pss_cons (ps_for PassesOwn.never rfl (pi_list (pe_lst (pa_cons pe_non (pa_cons pe_int (pa_cons pe_bl (pa_cons (pe_tup (pa_cons pe_str (pa_cons (pe_tup pa_nil) pa_nil))) (pa_cons (pe_lst (pa_cons pe_str pa_nil)) (pa_cons pe_dnewK pa_nil)))))))) (pg_name (i := 1) nd rfl (Or.inl rfl)) (pss_one (TM.ps_try_mix rfl rfl takes0 (fun W pn xe tk _ => pss_cons (ps_expr (pe_callS (E := WE W) RP.g hr28 rfl RP.m RP.kp RP.b (passAt tk) (pa_cons (pv 1) pa_nil))) (pss_one (ps_ret pe_bl))) (.named nd (i := 2) rfl rfl ⟨rfl, by decide, .inl Z.gP⟩ (fun a oe cls d pn hz hf => (pss_one (ps_if (pt_cmp (pc_notN (pe_xf xP vP hz hf (pv 2))) rfl) (pss_one (ps_ret pe_bl)) pss_nil))) .nil))))
      (pss_cons (ps_set (i := 3) nd rfl (Or.inl rfl) (pe_op op_add_str (pe_op op_add_str pe_str (pe_join pe_str (pe_op op_rep (pe_lst (pa_cons (pe_op op_add_str (pe_op op_add_str pe_str (pe_op RV.op_mulS pe_str pe_int)) pe_str) pa_nil)) pe_int))) pe_str))
      (pss_cons (ps_set (i := 4) nd rfl (Or.inl rfl) (pe_lst (pa_cons (pv 3) (pa_cons pe_str (pa_cons pe_str (pa_cons pe_str (pa_cons pe_str (pa_cons pe_str (pa_cons pe_str pa_nil)))))))))
      (pss_cons (ps_for PassesOwn.never rfl (pi_list (pe_op op_cat (pv 4) (pe_lst (pa_cons pe_str (pa_cons pe_str (pa_cons pe_str pa_nil)))))) (pg_name (i := 5) nd rfl (Or.inl rfl)) (pss_one (ps_if (pt_not (pt_val (pe_callG hgd R.g hr29 rfl R.m R.kp R.b pass0 (pa_cons (pv 5) pa_nil)))) (pss_one (ps_ret pe_bl)) pss_nil)))
      (pss_cons (ps_for PassesOwn.never rfl (pi_range1 rfl Z.range (pa_cons (pe_callB (call_min2 rfl) (by rfl) Z.min (by decide +kernel) (pa_cons (pe_callB (call_max2 rfl) (by rfl) Z.max (by decide +kernel) (pa_cons pe_int (pa_cons (pe_callB call_len_seq (by rfl) Z.len PySem.boot_len (pa_cons (pv 0) pa_nil)) pa_nil))) (pa_cons pe_int pa_nil))) pa_nil)) (pg_name (i := 6) nd rfl (Or.inl rfl)) (pss_one (ps_if (pt_not (pt_val (pe_callG hgd Cs.g hr30 rfl Cs.m Cs.kp Cs.b pass0 (pa_cons (pe_call A.g hr1 rfl A.m A.kp A.b .nil pass0 (pa_cons (pv 0) (pa_cons (pv 6) pa_nil))) pa_nil)))) (pss_one (ps_ret pe_bl)) pss_nil)))
      (pss_one (ps_ret pe_bl)))))), ?_⟩
    have big : (16777216 : Nat) ≤ sizeLine := by decide
    have L1 : LitA (L2.start nLaw [.ref a]) H (tCons (tC .non) (tCons (tC (.int 5)) (tCons (tC (.bl true)) (tCons (tTup (tCons (tC (.str "list")) (tCons (tTup tNil) tNil))) (tCons (tLst (tCons (tC (.str "list")) tNil)) (tCons tDNewK tNil)))))) [.none, .int 5, .bool true, .tuple [.str "list", .tuple []], .list [.str "list"], .dict []] :=
      LitA.cons Lit.non (LitA.cons Lit.int (LitA.cons Lit.bl (LitA.cons (Lit.tup (by show 2 ≤ sizeLine; decide) (LitA.cons (Lit.str (z := "list")) (LitA.cons (Lit.tup (by show 0 ≤ sizeLine; decide) LitA.nil) LitA.nil))) (LitA.cons (Lit.lst (by show 1 ≤ sizeLine; decide) (LitA.cons (Lit.str (z := "list")) LitA.nil)) (LitA.cons Lit.dic LitA.nil)))))
    refine seqForL L1 (by decide) fun H2 L vs s1 dl eL => ?_
    have lv : vs.length = 6 := dl.length.symm
    refine for_itF (walk_list (K := K) (xs := vs) (a := L)) (fun i σ H' => ∃ (v1 : Option V), σ = [some (.ref a), v1, none, none, none, none, none] ∧ Same H2 H') ⟨_, rfl, Same.refl _⟩ (fun _ _ _ _ ⟨_, _, s⟩ => SqL.of (s _ _ eL)) ?_ ?_
    · rintro i x σ H3 H' hi ⟨v1, rfl, s3⟩ ⟨rfl, hx⟩
      dsimp only
      have hi' : i < ([.none, .int 5, .bool true, .tuple [.str "list", .tuple []], .list [.str "list"], .dict []] : List PyData).length := by
        show i < 6
        omega
      have dv := (dl.same s3).at (List.getElem?_eq_getElem hi') hx
      have ns : ∀ z, ([.none, .int 5, .bool true, .tuple [.str "list", .tuple []], .list [.str "list"], .dict []] : List PyData)[i] ≠ .str z := fun z e => by
        have hm := List.getElem_mem hi'
        rw [e] at hm
        simp at hm
      refine ⟨_, rfl, .inl ⟨[], x, _, rfl, dv, ns, ?_⟩⟩
      intro d H4 nd' s4 ed
      refine ⟨true, ePP, fun _ ea hea => ?_, fun z => nomatch z⟩
      refine ⟨_, rfl, rfl, rfl, d, _, .non, rfl, ed, rfl, false, congrArg (fun t => V.bl (!t)) (decide_eq_true rfl), iteF ?_⟩
      exact ⟨_, rfl, s3.trans s4⟩
    · rintro σ H3 ⟨v1, rfl, s3⟩
      have s3 := s1.trans s3
      clear dl eL
      refine ⟨⟨_, rfl⟩, [48, 32], 13, rfl, rfl, by decide, by decide, _, _, rfl, rfl, by decide +kernel, _, _, rfl, rfl, by decide +kernel, by show 1 ≤ sizeLine; decide, fun l1 g1 => ⟨l1, 14, _, rfl, rfl, upd_same, by decide, by decide, by show 14 ≤ sizeLine; decide, fun l2 g2 => ?_⟩⟩
      have n1 := same_new (o := .lst [.str zeroS]) g1
      refine ⟨_, l2, List.replicate 14 zeroS, rfl, rfl, .inl (SqL.of upd_same), by decide +kernel, _, _, rfl, rfl, by decide +kernel, _, _, rfl, rfl, by decide +kernel, ?_⟩
      change gName 3 (V.str wideS) [some (V.ref a), v1, none, none, none, none, none] (upd (upd H3 l1 (.lst [.str zeroS])) l2 (.lst (List.replicate 14 [V.str zeroS]).flatten)) _
      have s4 := s3.trans (n1.trans (same_new (o := .lst (List.replicate 14 [V.str zeroS]).flatten) g2))
      generalize upd (upd H3 l1 (.lst [.str zeroS])) l2 (.lst (List.replicate 14 [V.str zeroS]).flatten) = H4 at s4
      have ws : someS.map V.str = [.str wideS, .str (Str.ofString "row\n5 s a 1\nuntil 4"), .str (Str.ofString "row\n5 s a 1\n4 s a 1"), .str (Str.ofString "row\nuntil 1_0"), .str (Str.ofString ""), .str (Str.ofString "list"), .str (Str.ofString "row")] := rfl
      have wm : moreS.map V.str = [.str (Str.ofString "list\n"), .str (Str.ofString "row\nuntil 0\nround"), .str (Str.ofString "row\n\nuntil 0")] := rfl
      generalize wideS = W at ws ⊢
      refine ⟨_, rfl, by show 7 ≤ sizeLine; decide, fun M hM => ?_⟩
      change gName 4 (.ref M) [some (V.ref a), v1, none, some (.str W), none, none, none] (upd H4 M (.lst [.str W, .str (Str.ofString "row\n5 s a 1\nuntil 4"), .str (Str.ofString "row\n5 s a 1\n4 s a 1"), .str (Str.ofString "row\nuntil 1_0"), .str (Str.ofString ""), .str (Str.ofString "list"), .str (Str.ofString "row")])) _
      rw [← ws]
      have s5 := s4.trans (same_new (o := .lst (someS.map V.str)) hM)
      have eM : (upd H4 M (.lst (someS.map V.str))) M = some (.lst (someS.map V.str)) := upd_same
      generalize upd H4 M (.lst (someS.map V.str)) = H5 at s5 eM
      clear ws
      refine ⟨_, rfl, by show 3 ≤ sizeLine; decide, fun N hN => ⟨M, N, _, _, rfl, rfl, same_new hN _ _ eM, upd_same, by decide, fun C hC => ⟨C, rfl, ⟨_, SqL.of upd_same⟩, ?_⟩⟩⟩
      rw [← wm]
      have s6 := (s5.trans (same_new (o := .lst (moreS.map V.str)) hN)).trans (same_new (o := .lst (someS.map V.str ++ moreS.map V.str)) hC)
      have eC : (upd (upd H5 N (.lst (moreS.map V.str))) C (.lst (someS.map V.str ++ moreS.map V.str))) C = some (.lst ((someS ++ moreS).map V.str)) := by
        rw [upd_same, List.map_append]
      generalize upd (upd H5 N (.lst (moreS.map V.str))) C (.lst (someS.map V.str ++ moreS.map V.str)) = H6 at s6 eC
      refine for_it (walk_list (K := K) (xs := (someS ++ moreS).map V.str) (a := C)) (fun i σ H' => ∃ (v5 : Option V), σ = [some (.ref a), v1, none, some (.str W), some (.ref M), v5, none] ∧ Same H6 H') ⟨_, rfl, Same.refl _⟩ (fun _ _ _ _ ⟨_, _, s⟩ => SqL.of (s _ _ eC)) ?_ ?_
      · rintro i x σ H7 H' hi ⟨v5, rfl, s7⟩ ⟨rfl, hx⟩
        obtain ⟨z, hz, rfl⟩ := List.mem_map.mp (List.mem_of_getElem? hx)
        obtain ⟨pt, pl⟩ := ptB_ok (List.all_eq_true.mp some_ok z hz)
        dsimp only
        refine ⟨_, rfl, tl z, ?_, pt, pl, fun H8 s8 => ⟨_, rfl, iteF ⟨_, rfl, s7.trans s8⟩⟩⟩
        rw [SX.S_tl]
        rfl
      · rintro σ H7 ⟨v5, rfl, s7⟩
        have s0 := s6.trans s7
        refine ⟨_, rfl, a, _, rfl, .inl (s0.seq hS), _, _, rfl, _, _, rfl, ?_⟩
        rw [List.length_map]
        obtain ⟨N, hN, N16⟩ : ∃ N : Nat, (if (16 : Int) < (if (ns.length : Int) > 1 then (ns.length : Int) else 1) then (16 : Int) else (if (ns.length : Int) > 1 then (ns.length : Int) else 1)) = (N : Int) ∧ N ≤ 16 := by
          by_cases h : (ns.length : Int) > 1
          · rw [if_pos h]
            by_cases h2 : (16 : Int) < ns.length
            · exact ⟨16, if_pos h2, Nat.le_refl _⟩
            · exact ⟨ns.length, if_neg h2, by omega⟩
          · rw [if_neg h]
            exact ⟨1, rfl, by decide⟩
        rw [hN]
        refine ⟨_, rfl, by omega, by omega, ?_⟩
        rw [Int.toNat_natCast]
        refine for_it (walk_range (lo := 0) (n := N)) (fun i σ H' => ∃ (v6 : Option V), σ = [some (.ref a), v1, none, some (.str W), some (.ref M), v5, v6] ∧ Same H H') ⟨_, rfl, s0⟩ (fun _ _ _ _ _ => trivial) ?_ ?_
        · rintro i x σ H9 H' hi ⟨v6, rfl, s9⟩ ⟨rfl, rfl⟩
          dsimp only
          rw [Int.zero_add]
          refine ⟨_, rfl, _, rfl, a, ns, i, rfl, s9.seq hS, fun H10 B s10 hB b10 => ?_⟩
          exact ⟨B, rfl, b10, fun H11 s11 => ⟨_, rfl, iteF ⟨_, rfl, same_bag' s9 hB s10 s11⟩⟩⟩
        · rintro σ H9 ⟨v6, rfl, s9⟩
          exact q _
end
end Wd

set_option Elab.async false
set_option linter.all false
set_option maxRecDepth 100000
set_option maxHeartbeats 4000000
/-! the written dict of words -/
namespace Wd
open PySem PySem.Spec PyProof.Rows L2
theorem lit_at {P : Params} : ∀ {l : List DictEntry}, PySem.W.KeysLit P l → ∀ z : Str, ((l.find? (·.key.isStr z)).isSome = true ↔ ∃ e ∈ l, ∃ t, e.key = .str z t) ∧ l.any (·.refKey) = false
  | [], _, z => ⟨by simp, rfl⟩
  | e :: r, ⟨⟨x, t, q, _⟩, h⟩, z => by
    have ih := lit_at h z
    have rk : e.refKey = false := by
      unfold DictEntry.refKey
      rw [q]
    constructor
    · rw [List.find?_cons]
      by_cases c : x = z
      · have c1 : e.key.isStr z = true := by
          rw [q, c]
          exact beq_self_eq_true z
        rw [c1]
        exact ⟨fun _ => ⟨e, List.mem_cons_self, t, by rw [q, c]⟩, fun _ => rfl⟩
      · have c1 : e.key.isStr z = false := by
          rw [q]
          exact beq_eq_false_iff_ne.mpr c
        rw [c1]
        refine ih.1.trans ⟨fun ⟨e', m, w⟩ => ⟨e', List.mem_cons_of_mem _ m, w⟩, fun ⟨e', m, t', w⟩ => ?_⟩
        rcases List.mem_cons.mp m with m | m
        · rw [m, q] at w
          injection w with w1
          exact (c w1).elim
        · exact ⟨e', m, t', w⟩
    · rw [List.any_cons, rk, ih.2]
      rfl
theorem atxt_of {K : PySem.W.Frag} {w : World} {mg : Str → Option Value} {d : Addr} {ks : List Str} (g : ∃ u, mg "ARGUMENTS" = some u ∧ RelV (.ref d) u) (h : He.dicW K d = some (He.keysIn w.params ks))
    (hk : ∀ z : Str, z ∈ ks ↔ z ∈ words ∨ z = Str.ofString "+" ∨ z = Str.ofString "&") : ∃ es n, ATxt K w mg d es n := by
  obtain ⟨es, n, D⟩ := He.dicW_ok h
  refine ⟨es, n, g, D, fun z => ?_⟩
  obtain ⟨l1, l2⟩ := lit_at D.lit z
  have keys : es.toList.map He.keyOf = He.keysIn w.params ks := by
    have h' := h
    unfold He.dicW at h'
    rw [D.at_] at h'
    have low := D.low
    simp [low] at h'
    exact h'
  have mem : (∃ e ∈ es.toList, ∃ t, e.key = .str z t) ↔ z ∈ ks := by
    constructor
    · rintro ⟨e, he, t, q⟩
      have m : He.keyOf e ∈ He.keysIn w.params ks := keys ▸ List.mem_map.mpr ⟨e, he, rfl⟩
      have ke : He.keyOf e = some (z, e.hash) := by
        unfold He.keyOf
        rw [q]
      rw [ke] at m
      obtain ⟨k, hk', e'⟩ := List.mem_map.mp m
      have := (Prod.mk.inj (Option.some.inj e')).1
      exact this ▸ hk'
    · intro hz
      have m : some (z, PyData.keyHash w.params z) ∈ es.toList.map He.keyOf := keys ▸ List.mem_map.mpr ⟨z, hz, rfl⟩
      obtain ⟨e, he, q⟩ := List.mem_map.mp m
      unfold He.keyOf at q
      split at q
      · rename_i x t kq
        have := (Prod.mk.inj (Option.some.inj q)).1
        exact ⟨e, he, t, by rw [kq, this]⟩
      · cases q
  unfold PySem.W.nsIn
  rw [D.at_]
  dsimp only
  rw [← hk z, ← mem, ← l1]
  cases f : es.toList.find? (·.key.isStr z) with
  | some e => exact ⟨_, rfl, by simp⟩
  | none =>
    dsimp only
    rw [l2]
    exact ⟨none, rfl, by simp⟩
end Wd

set_option Elab.async false
set_option linter.all false
set_option maxRecDepth 100000
set_option maxHeartbeats 4000000
/-! what the law asks of the classes of errors -/
namespace Wd
open PySem PySem.Spec PyProof.Rows L2 Br
open PySem.W (findIn subIn mroIn keepIn hasDictIn clsIn takerIn specialIn takesIn readsIn findCls kitOne excInitIn excOver excIn exmOne selfFirst notFirst fnIn)
abbrev vTail9 : List Value := [.type "ValueError", .type "Exception", .type "BaseException", .type "object"]
structure PushF (K : PySem.W.Frag) (mg : Str → Option Value) (CB : Addr) : Prop where
  g : mg "PushError" = some (.ref CB)
  gg : specialIn K (.ref CB) "__getattribute__" = some (some (.builtin "type.__getattribute__"))
  rd : readsIn K CB (.type "type") = true
  vv : findCls K (.ref CB) (.type "type") "__init__" = some (.val (.builtin "ValueError.__init__"))
section
variable {P : Program} {w : World} {K : PySem.W.Frag} {mg : Str → Option Value} {base : Heap}
theorem scInitP : FnScope ["self", "index"] ["self", "index"] (defScope cParseError_init) := ⟨rfl, rfl, rfl, by decide +kernel, rfl, by decide +kernel, by decide +kernel⟩
theorem storeV : StoreFacts "ValueError" vTail9 "object.__setattr__" "object" := F.store_ValueError
theorem ok_initP {f C CB : Addr} {fd : FuncData} (F1 : Fun K "__init__" "ParseError.__init__" cParseError_init f fd) (E1 : Ek.EC K C vTail9 "ValueError.__new__") (nt : takerIn K C "index" = some none) (PF : PushF K mg CB) :
    FnOk P w K mg base CX0 1 f fd ["self", "index"] (Ek.spInitX C "index") := by
  refine F1.ok scInitP (fun vs H Q E h => ?_) (fun cdv A outer s H vs Q E hr h => ?_)
  · obtain ⟨a, y, H0, rfl, _⟩ := h
    rfl
  · obtain ⟨a, y, H0, rfl, rfl, h0, k⟩ := h
    refine ⟨_, pss_cons (ps_expr (Ek.pe_baseC (pl := _) (bmB := vTail9) (newId := "ValueError.__new__") (Ek.InitF.of F.excBase_ValueError.toExcCallFacts) (by decide +kernel) (by rfl) PF.g PF.gg PF.rd PF.vv (pa_cons (pv 0) (pa_cons pe_str pa_nil))))
      (pss_one (Ek.ps_put (bmB := vTail9) (newId := "ValueError.__new__") storeV (pv 0) (pv 1))), ?_⟩
    refine ⟨_, rfl, a, C, _, rfl, by show 1 ≤ 1000; decide, E1, upd_same, ?_⟩
    refine ⟨_, rfl, _, rfl, a, C, rfl, E1, nt, upd_same, fun d hd ne => ?_⟩
    obtain ⟨z1, z2⟩ := Ek.init_endX (f := "index") (y := y) h0 hd ne
    exact k _ z1 z2
end
def isB9 (x : Option Bool) (b : Bool) : Bool := match x with
  | some c => c == b
  | none => false
theorem isB9_eq {x : Option Bool} {b : Bool} (h : isB9 x b = true) : x = some b := by
  cases x with
  | none => cases h
  | some c => exact congrArg some (beq_iff_eq.mp h)
/-- ParseError at P, PushError at B -/
def b50E (K : PySem.W.Frag) (P B : Addr) : Bool :=
  isB9 (exmOne K (.ref P) (.ref P)) true && (isB9 (PySem.W.kitCls K (.ref P) (.ref B)) true && (!(Value.ref P == Value.ref B) && (excInitIn K P vTail9 "ValueError.__new__" && (excOver K P vTail9 && isB9 (subIn K (.ref P) (.type "BaseException")) true))))
end Wd

set_option Elab.async false
set_option pp.maxSteps 60
set_option pp.deepTerms false
set_option linter.all false
set_option maxRecDepth 100000
set_option maxHeartbeats 4000000
namespace Wd
open PySem L2 Br
open PySem.W (nsIn codeIn fnOf keepIn)
abbrev noT : List Addr → Hp → Addr → Prop := fun _ _ _ => False
theorem own_no {K : PySem.W.Frag} : Own K noT := ⟨fun _ h => h.elim, fun _ h => h.elim, fun h => h.elim, fun h => h.elim, fun h => h.elim, fun h => h.elim⟩
def keys25 : List Str := ["source", "never", "one", "after", "every", "told", "it", "only", "pick", "fold", "first", "changes", "pairs", "quiet", "spaced", "late", "again", "+", "&", "at", "until", "then", "else", "switch", "busy"]
theorem keys25_mem (z : Str) : z ∈ keys25 ↔ z ∈ words ∨ z = Str.ofString "+" ∨ z = Str.ofString "&" := by
  constructor
  · intro h
    have all : ∀ y ∈ keys25, y ∈ words ∨ y = Str.ofString "+" ∨ y = Str.ofString "&" := by decide +kernel
    exact all z h
  · rintro (h | rfl | rfl)
    · have all : ∀ y ∈ words, y ∈ keys25 := by decide +kernel
      exact all z h
    · decide +kernel
    · decide +kernel
theorem all_mk {l : PySem.W.OpenLaw} {w : World} {K : PySem.W.Frag} {h : Heap} {mg : Str → Option Value} {fa : Addr} (KX : K.In h) (G : h.Ns mainGlobals mg) (hfa : mg "law" = some (.ref fa))
    {uIsInteger uAreIntegers uIsLetter uIsName uIsEvent uIsRows uIntegerOf uIsWord uIsItem uHasStand uItemText uStandOf uItemOf uLatest uReadPaper uReadStand uReadTape uEventOf uReadRounds uStart uThrow uPick uLetters uWords uName uLayout uValue uEvents uTape uAtom uShape uDeep uNumber uStand uStands uPaper uText uLines uWordV uLItem uLStand uLEvent uDueL uDueR uDue uSpLine uSpoilt uRight uCase uLaw dA uP uB uMPi : Addr}
    {ocIsInteger kVIsInteger dcIsInteger pmIsInteger cdIsInteger ctIsInteger ocAreIntegers kVAreIntegers dcAreIntegers pmAreIntegers cdAreIntegers ctAreIntegers ocIsLetter kVIsLetter dcIsLetter pmIsLetter cdIsLetter ctIsLetter ocIsName kVIsName dcIsName pmIsName cdIsName ctIsName ocIsEvent kVIsEvent dcIsEvent pmIsEvent cdIsEvent ctIsEvent ocIsRows kVIsRows dcIsRows pmIsRows cdIsRows ctIsRows ocIntegerOf kVIntegerOf dcIntegerOf pmIntegerOf cdIntegerOf ctIntegerOf ocIsWord kVIsWord dcIsWord pmIsWord cdIsWord ctIsWord ocIsItem kVIsItem dcIsItem pmIsItem cdIsItem ctIsItem ocHasStand kVHasStand dcHasStand pmHasStand cdHasStand ctHasStand ocItemText kVItemText dcItemText pmItemText cdItemText ctItemText ocStandOf kVStandOf dcStandOf pmStandOf cdStandOf ctStandOf ocItemOf kVItemOf dcItemOf pmItemOf cdItemOf ctItemOf ocLatest kVLatest dcLatest pmLatest cdLatest ctLatest ocReadPaper kVReadPaper dcReadPaper pmReadPaper cdReadPaper ctReadPaper ocReadStand kVReadStand dcReadStand pmReadStand cdReadStand ctReadStand ocReadTape kVReadTape dcReadTape pmReadTape cdReadTape ctReadTape ocEventOf kVEventOf dcEventOf pmEventOf cdEventOf ctEventOf ocReadRounds kVReadRounds dcReadRounds pmReadRounds cdReadRounds ctReadRounds ocStart kVStart dcStart pmStart cdStart ctStart ocThrow kVThrow dcThrow pmThrow cdThrow ctThrow ocPick kVPick dcPick pmPick cdPick ctPick ocLetters kVLetters dcLetters pmLetters cdLetters ctLetters ocWords kVWords dcWords pmWords cdWords ctWords ocName kVName dcName pmName cdName ctName ocLayout kVLayout dcLayout pmLayout cdLayout ctLayout ocValue kVValue dcValue pmValue cdValue ctValue ocEvents kVEvents dcEvents pmEvents cdEvents ctEvents ocTape kVTape dcTape pmTape cdTape ctTape ocAtom kVAtom dcAtom pmAtom cdAtom ctAtom ocShape kVShape dcShape pmShape cdShape ctShape ocDeep kVDeep dcDeep pmDeep cdDeep ctDeep ocNumber kVNumber dcNumber pmNumber cdNumber ctNumber ocStand kVStand dcStand pmStand cdStand ctStand ocStands kVStands dcStands pmStands cdStands ctStands ocPaper kVPaper dcPaper pmPaper cdPaper ctPaper ocText kVText dcText pmText cdText ctText ocLines kVLines dcLines pmLines cdLines ctLines ocWordV kVWordV dcWordV pmWordV cdWordV ctWordV ocLItem kVLItem dcLItem pmLItem cdLItem ctLItem ocLStand kVLStand dcLStand pmLStand cdLStand ctLStand ocLEvent kVLEvent dcLEvent pmLEvent cdLEvent ctLEvent ocDueL kVDueL dcDueL pmDueL cdDueL ctDueL ocDueR kVDueR dcDueR pmDueR cdDueR ctDueR ocDue kVDue dcDue pmDue cdDue ctDue ocSpLine kVSpLine dcSpLine pmSpLine cdSpLine ctSpLine ocSpoilt kVSpoilt dcSpoilt pmSpoilt cdSpoilt ctSpoilt ocRight kVRight dcRight pmRight cdRight ctRight ocCase kVCase dcCase pmCase cdCase ctCase ocLaw kVLaw dcLaw pmLaw cdLaw ctLaw ocMPi kVMPi dcMPi pmMPi cdMPi ctMPi : Value} {odIsInteger anIsInteger odAreIntegers anAreIntegers odIsLetter anIsLetter odIsName anIsName odIsEvent anIsEvent odIsRows anIsRows odIntegerOf anIntegerOf odIsWord anIsWord odIsItem anIsItem odHasStand anHasStand odItemText anItemText odStandOf anStandOf odItemOf anItemOf odLatest anLatest odReadPaper anReadPaper odReadStand anReadStand odReadTape anReadTape odEventOf anEventOf odReadRounds anReadRounds odStart anStart odThrow anThrow odPick anPick odLetters anLetters odWords anWords odName anName odLayout anLayout odValue anValue odEvents anEvents odTape anTape odAtom anAtom odShape anShape odDeep anDeep odNumber anNumber odStand anStand odStands anStands odPaper anPaper odText anText odLines anLines odWordV anWordV odLItem anLItem odLStand anLStand odLEvent anLEvent odDueL anDueL odDueR anDueR odDue anDue odSpLine anSpLine odSpoilt anSpoilt odRight anRight odCase anCase odLaw anLaw odMPi anMPi : Option Addr} {slIsInteger slAreIntegers slIsLetter slIsName slIsEvent slIsRows slIntegerOf slIsWord slIsItem slHasStand slItemText slStandOf slItemOf slLatest slReadPaper slReadStand slReadTape slEventOf slReadRounds slStart slThrow slPick slLetters slWords slName slLayout slValue slEvents slTape slAtom slShape slDeep slNumber slStand slStands slPaper slText slLines slWordV slLItem slLStand slLEvent slDueL slDueR slDue slSpLine slSpoilt slRight slCase slLaw slMPi : Array (Option Value)}
    {vIE vMN vMC vMD vMG : Int} {vLS vEM vDG : Str} {tIE tMN tMC tMD tMG tLS tEM tDG : Tok}
    (aIsInteger : nsIn K mainGlobals "is_integer" = some (some (.ref uIsInteger)))
    (lIsInteger : K.lookup uIsInteger = some ⟨ocIsInteger, odIsInteger, .func (fnOf "is_integer" "is_integer" (defArgs sIsInteger) (defBody sIsInteger) (defScope sIsInteger) .none kVIsInteger dcIsInteger pmIsInteger anIsInteger cdIsInteger ctIsInteger), slIsInteger⟩)
    (qIsInteger : codeIn K cdIsInteger "is_integer" = true)
    (kIsInteger : keepIn K (.ref uIsInteger) = true)
    (aAreIntegers : nsIn K mainGlobals "are_integers" = some (some (.ref uAreIntegers)))
    (lAreIntegers : K.lookup uAreIntegers = some ⟨ocAreIntegers, odAreIntegers, .func (fnOf "are_integers" "are_integers" (defArgs sAreIntegers) (defBody sAreIntegers) (defScope sAreIntegers) .none kVAreIntegers dcAreIntegers pmAreIntegers anAreIntegers cdAreIntegers ctAreIntegers), slAreIntegers⟩)
    (qAreIntegers : codeIn K cdAreIntegers "are_integers" = true)
    (kAreIntegers : keepIn K (.ref uAreIntegers) = true)
    (aIsLetter : nsIn K mainGlobals "is_letter" = some (some (.ref uIsLetter)))
    (lIsLetter : K.lookup uIsLetter = some ⟨ocIsLetter, odIsLetter, .func (fnOf "is_letter" "is_letter" (defArgs sIsLetter) (defBody sIsLetter) (defScope sIsLetter) .none kVIsLetter dcIsLetter pmIsLetter anIsLetter cdIsLetter ctIsLetter), slIsLetter⟩)
    (qIsLetter : codeIn K cdIsLetter "is_letter" = true)
    (kIsLetter : keepIn K (.ref uIsLetter) = true)
    (aIsName : nsIn K mainGlobals "is_name" = some (some (.ref uIsName)))
    (lIsName : K.lookup uIsName = some ⟨ocIsName, odIsName, .func (fnOf "is_name" "is_name" (defArgs sIsName) (defBody sIsName) (defScope sIsName) .none kVIsName dcIsName pmIsName anIsName cdIsName ctIsName), slIsName⟩)
    (qIsName : codeIn K cdIsName "is_name" = true)
    (kIsName : keepIn K (.ref uIsName) = true)
    (aIsEvent : nsIn K mainGlobals "is_event" = some (some (.ref uIsEvent)))
    (lIsEvent : K.lookup uIsEvent = some ⟨ocIsEvent, odIsEvent, .func (fnOf "is_event" "is_event" (defArgs sIsEvent) (defBody sIsEvent) (defScope sIsEvent) .none kVIsEvent dcIsEvent pmIsEvent anIsEvent cdIsEvent ctIsEvent), slIsEvent⟩)
    (qIsEvent : codeIn K cdIsEvent "is_event" = true)
    (kIsEvent : keepIn K (.ref uIsEvent) = true)
    (aIsRows : nsIn K mainGlobals "is_rows" = some (some (.ref uIsRows)))
    (lIsRows : K.lookup uIsRows = some ⟨ocIsRows, odIsRows, .func (fnOf "is_rows" "is_rows" (defArgs sIsRows) (defBody sIsRows) (defScope sIsRows) .none kVIsRows dcIsRows pmIsRows anIsRows cdIsRows ctIsRows), slIsRows⟩)
    (qIsRows : codeIn K cdIsRows "is_rows" = true)
    (kIsRows : keepIn K (.ref uIsRows) = true)
    (aIntegerOf : nsIn K mainGlobals "integer_of" = some (some (.ref uIntegerOf)))
    (lIntegerOf : K.lookup uIntegerOf = some ⟨ocIntegerOf, odIntegerOf, .func (fnOf "integer_of" "integer_of" (defArgs sIntegerOf) (defBody sIntegerOf) (defScope sIntegerOf) .none kVIntegerOf dcIntegerOf pmIntegerOf anIntegerOf cdIntegerOf ctIntegerOf), slIntegerOf⟩)
    (qIntegerOf : codeIn K cdIntegerOf "integer_of" = true)
    (kIntegerOf : keepIn K (.ref uIntegerOf) = true)
    (aIsWord : nsIn K mainGlobals "is_word" = some (some (.ref uIsWord)))
    (lIsWord : K.lookup uIsWord = some ⟨ocIsWord, odIsWord, .func (fnOf "is_word" "is_word" (defArgs sIsWord) (defBody sIsWord) (defScope sIsWord) .none kVIsWord dcIsWord pmIsWord anIsWord cdIsWord ctIsWord), slIsWord⟩)
    (qIsWord : codeIn K cdIsWord "is_word" = true)
    (kIsWord : keepIn K (.ref uIsWord) = true)
    (aIsItem : nsIn K mainGlobals "is_item" = some (some (.ref uIsItem)))
    (lIsItem : K.lookup uIsItem = some ⟨ocIsItem, odIsItem, .func (fnOf "is_item" "is_item" (defArgs sIsItem) (defBody sIsItem) (defScope sIsItem) .none kVIsItem dcIsItem pmIsItem anIsItem cdIsItem ctIsItem), slIsItem⟩)
    (qIsItem : codeIn K cdIsItem "is_item" = true)
    (kIsItem : keepIn K (.ref uIsItem) = true)
    (aHasStand : nsIn K mainGlobals "has_stand_form" = some (some (.ref uHasStand)))
    (lHasStand : K.lookup uHasStand = some ⟨ocHasStand, odHasStand, .func (fnOf "has_stand_form" "has_stand_form" (defArgs sHasStandForm) (defBody sHasStandForm) (defScope sHasStandForm) .none kVHasStand dcHasStand pmHasStand anHasStand cdHasStand ctHasStand), slHasStand⟩)
    (qHasStand : codeIn K cdHasStand "has_stand_form" = true)
    (kHasStand : keepIn K (.ref uHasStand) = true)
    (aItemText : nsIn K mainGlobals "item_text" = some (some (.ref uItemText)))
    (lItemText : K.lookup uItemText = some ⟨ocItemText, odItemText, .func (fnOf "item_text" "item_text" (defArgs sItemText) (defBody sItemText) (defScope sItemText) .none kVItemText dcItemText pmItemText anItemText cdItemText ctItemText), slItemText⟩)
    (qItemText : codeIn K cdItemText "item_text" = true)
    (kItemText : keepIn K (.ref uItemText) = true)
    (aStandOf : nsIn K mainGlobals "stand_of" = some (some (.ref uStandOf)))
    (lStandOf : K.lookup uStandOf = some ⟨ocStandOf, odStandOf, .func (fnOf "stand_of" "stand_of" (defArgs sStandOf) (defBody sStandOf) (defScope sStandOf) .none kVStandOf dcStandOf pmStandOf anStandOf cdStandOf ctStandOf), slStandOf⟩)
    (qStandOf : codeIn K cdStandOf "stand_of" = true)
    (kStandOf : keepIn K (.ref uStandOf) = true)
    (aItemOf : nsIn K mainGlobals "item_of" = some (some (.ref uItemOf)))
    (lItemOf : K.lookup uItemOf = some ⟨ocItemOf, odItemOf, .func (fnOf "item_of" "item_of" (defArgs sItemOf) (defBody sItemOf) (defScope sItemOf) .none kVItemOf dcItemOf pmItemOf anItemOf cdItemOf ctItemOf), slItemOf⟩)
    (qItemOf : codeIn K cdItemOf "item_of" = true)
    (kItemOf : keepIn K (.ref uItemOf) = true)
    (aLatest : nsIn K mainGlobals "latest_time" = some (some (.ref uLatest)))
    (lLatest : K.lookup uLatest = some ⟨ocLatest, odLatest, .func (fnOf "latest_time" "latest_time" (defArgs sLatestTime) (defBody sLatestTime) (defScope sLatestTime) .none kVLatest dcLatest pmLatest anLatest cdLatest ctLatest), slLatest⟩)
    (qLatest : codeIn K cdLatest "latest_time" = true)
    (kLatest : keepIn K (.ref uLatest) = true)
    (aReadPaper : nsIn K mainGlobals "read_paper" = some (some (.ref uReadPaper)))
    (lReadPaper : K.lookup uReadPaper = some ⟨ocReadPaper, odReadPaper, .func (fnOf "read_paper" "read_paper" (defArgs sReadPaper) (defBody sReadPaper) (defScope sReadPaper) .none kVReadPaper dcReadPaper pmReadPaper anReadPaper cdReadPaper ctReadPaper), slReadPaper⟩)
    (qReadPaper : codeIn K cdReadPaper "read_paper" = true)
    (kReadPaper : keepIn K (.ref uReadPaper) = true)
    (aReadStand : nsIn K mainGlobals "read_stand" = some (some (.ref uReadStand)))
    (lReadStand : K.lookup uReadStand = some ⟨ocReadStand, odReadStand, .func (fnOf "read_stand" "read_stand" (defArgs sReadStand) (defBody sReadStand) (defScope sReadStand) .none kVReadStand dcReadStand pmReadStand anReadStand cdReadStand ctReadStand), slReadStand⟩)
    (qReadStand : codeIn K cdReadStand "read_stand" = true)
    (kReadStand : keepIn K (.ref uReadStand) = true)
    (aReadTape : nsIn K mainGlobals "read_tape" = some (some (.ref uReadTape)))
    (lReadTape : K.lookup uReadTape = some ⟨ocReadTape, odReadTape, .func (fnOf "read_tape" "read_tape" (defArgs sReadTape) (defBody sReadTape) (defScope sReadTape) .none kVReadTape dcReadTape pmReadTape anReadTape cdReadTape ctReadTape), slReadTape⟩)
    (qReadTape : codeIn K cdReadTape "read_tape" = true)
    (kReadTape : keepIn K (.ref uReadTape) = true)
    (aEventOf : nsIn K mainGlobals "event_of" = some (some (.ref uEventOf)))
    (lEventOf : K.lookup uEventOf = some ⟨ocEventOf, odEventOf, .func (fnOf "event_of" "event_of" (defArgs sEventOf) (defBody sEventOf) (defScope sEventOf) .none kVEventOf dcEventOf pmEventOf anEventOf cdEventOf ctEventOf), slEventOf⟩)
    (qEventOf : codeIn K cdEventOf "event_of" = true)
    (kEventOf : keepIn K (.ref uEventOf) = true)
    (aReadRounds : nsIn K mainGlobals "read_rounds" = some (some (.ref uReadRounds)))
    (lReadRounds : K.lookup uReadRounds = some ⟨ocReadRounds, odReadRounds, .func (fnOf "read_rounds" "read_rounds" (defArgs sReadRounds) (defBody sReadRounds) (defScope sReadRounds) .none kVReadRounds dcReadRounds pmReadRounds anReadRounds cdReadRounds ctReadRounds), slReadRounds⟩)
    (qReadRounds : codeIn K cdReadRounds "read_rounds" = true)
    (kReadRounds : keepIn K (.ref uReadRounds) = true)
    (aStart : nsIn K mainGlobals "_law_start" = some (some (.ref uStart)))
    (lStart : K.lookup uStart = some ⟨ocStart, odStart, .func (fnOf "_law_start" "_law_start" (defArgs sStart) (defBody sStart) (defScope sStart) .none kVStart dcStart pmStart anStart cdStart ctStart), slStart⟩)
    (qStart : codeIn K cdStart "_law_start" = true)
    (kStart : keepIn K (.ref uStart) = true)
    (aThrow : nsIn K mainGlobals "_law_throw" = some (some (.ref uThrow)))
    (lThrow : K.lookup uThrow = some ⟨ocThrow, odThrow, .func (fnOf "_law_throw" "_law_throw" (defArgs sThrow) (defBody sThrow) (defScope sThrow) .none kVThrow dcThrow pmThrow anThrow cdThrow ctThrow), slThrow⟩)
    (qThrow : codeIn K cdThrow "_law_throw" = true)
    (kThrow : keepIn K (.ref uThrow) = true)
    (aPick : nsIn K mainGlobals "_law_pick" = some (some (.ref uPick)))
    (lPick : K.lookup uPick = some ⟨ocPick, odPick, .func (fnOf "_law_pick" "_law_pick" (defArgs sPick) (defBody sPick) (defScope sPick) .none kVPick dcPick pmPick anPick cdPick ctPick), slPick⟩)
    (qPick : codeIn K cdPick "_law_pick" = true)
    (kPick : keepIn K (.ref uPick) = true)
    (aLetters : nsIn K mainGlobals "_law_letters" = some (some (.ref uLetters)))
    (lLetters : K.lookup uLetters = some ⟨ocLetters, odLetters, .func (fnOf "_law_letters" "_law_letters" (defArgs sLetters) (defBody sLetters) (defScope sLetters) .none kVLetters dcLetters pmLetters anLetters cdLetters ctLetters), slLetters⟩)
    (qLetters : codeIn K cdLetters "_law_letters" = true)
    (kLetters : keepIn K (.ref uLetters) = true)
    (aWords : nsIn K mainGlobals "_law_words" = some (some (.ref uWords)))
    (lWords : K.lookup uWords = some ⟨ocWords, odWords, .func (fnOf "_law_words" "_law_words" (defArgs sWords) (defBody sWords) (defScope sWords) .none kVWords dcWords pmWords anWords cdWords ctWords), slWords⟩)
    (qWords : codeIn K cdWords "_law_words" = true)
    (kWords : keepIn K (.ref uWords) = true)
    (aName : nsIn K mainGlobals "_law_name" = some (some (.ref uName)))
    (lName : K.lookup uName = some ⟨ocName, odName, .func (fnOf "_law_name" "_law_name" (defArgs sName) (defBody sName) (defScope sName) .none kVName dcName pmName anName cdName ctName), slName⟩)
    (qName : codeIn K cdName "_law_name" = true)
    (kName : keepIn K (.ref uName) = true)
    (aLayout : nsIn K mainGlobals "_law_layout" = some (some (.ref uLayout)))
    (lLayout : K.lookup uLayout = some ⟨ocLayout, odLayout, .func (fnOf "_law_layout" "_law_layout" (defArgs sLayout) (defBody sLayout) (defScope sLayout) .none kVLayout dcLayout pmLayout anLayout cdLayout ctLayout), slLayout⟩)
    (qLayout : codeIn K cdLayout "_law_layout" = true)
    (kLayout : keepIn K (.ref uLayout) = true)
    (aValue : nsIn K mainGlobals "_law_value" = some (some (.ref uValue)))
    (lValue : K.lookup uValue = some ⟨ocValue, odValue, .func (fnOf "_law_value" "_law_value" (defArgs sValue) (defBody sValue) (defScope sValue) .none kVValue dcValue pmValue anValue cdValue ctValue), slValue⟩)
    (qValue : codeIn K cdValue "_law_value" = true)
    (kValue : keepIn K (.ref uValue) = true)
    (aEvents : nsIn K mainGlobals "_law_events" = some (some (.ref uEvents)))
    (lEvents : K.lookup uEvents = some ⟨ocEvents, odEvents, .func (fnOf "_law_events" "_law_events" (defArgs sEvents) (defBody sEvents) (defScope sEvents) .none kVEvents dcEvents pmEvents anEvents cdEvents ctEvents), slEvents⟩)
    (qEvents : codeIn K cdEvents "_law_events" = true)
    (kEvents : keepIn K (.ref uEvents) = true)
    (aTape : nsIn K mainGlobals "_law_tape" = some (some (.ref uTape)))
    (lTape : K.lookup uTape = some ⟨ocTape, odTape, .func (fnOf "_law_tape" "_law_tape" (defArgs sTape) (defBody sTape) (defScope sTape) .none kVTape dcTape pmTape anTape cdTape ctTape), slTape⟩)
    (qTape : codeIn K cdTape "_law_tape" = true)
    (kTape : keepIn K (.ref uTape) = true)
    (aAtom : nsIn K mainGlobals "_law_atom" = some (some (.ref uAtom)))
    (lAtom : K.lookup uAtom = some ⟨ocAtom, odAtom, .func (fnOf "_law_atom" "_law_atom" (defArgs sAtom) (defBody sAtom) (defScope sAtom) .none kVAtom dcAtom pmAtom anAtom cdAtom ctAtom), slAtom⟩)
    (qAtom : codeIn K cdAtom "_law_atom" = true)
    (kAtom : keepIn K (.ref uAtom) = true)
    (aShape : nsIn K mainGlobals "_law_shape" = some (some (.ref uShape)))
    (lShape : K.lookup uShape = some ⟨ocShape, odShape, .func (fnOf "_law_shape" "_law_shape" (defArgs sShape) (defBody sShape) (defScope sShape) .none kVShape dcShape pmShape anShape cdShape ctShape), slShape⟩)
    (qShape : codeIn K cdShape "_law_shape" = true)
    (kShape : keepIn K (.ref uShape) = true)
    (aDeep : nsIn K mainGlobals "_law_deep" = some (some (.ref uDeep)))
    (lDeep : K.lookup uDeep = some ⟨ocDeep, odDeep, .func (fnOf "_law_deep" "_law_deep" (defArgs sDeep) (defBody sDeep) (defScope sDeep) .none kVDeep dcDeep pmDeep anDeep cdDeep ctDeep), slDeep⟩)
    (qDeep : codeIn K cdDeep "_law_deep" = true)
    (kDeep : keepIn K (.ref uDeep) = true)
    (aNumber : nsIn K mainGlobals "_law_number" = some (some (.ref uNumber)))
    (lNumber : K.lookup uNumber = some ⟨ocNumber, odNumber, .func (fnOf "_law_number" "_law_number" (defArgs sNumber) (defBody sNumber) (defScope sNumber) .none kVNumber dcNumber pmNumber anNumber cdNumber ctNumber), slNumber⟩)
    (qNumber : codeIn K cdNumber "_law_number" = true)
    (kNumber : keepIn K (.ref uNumber) = true)
    (aStand : nsIn K mainGlobals "_law_stand" = some (some (.ref uStand)))
    (lStand : K.lookup uStand = some ⟨ocStand, odStand, .func (fnOf "_law_stand" "_law_stand" (defArgs sStand) (defBody sStand) (defScope sStand) .none kVStand dcStand pmStand anStand cdStand ctStand), slStand⟩)
    (qStand : codeIn K cdStand "_law_stand" = true)
    (kStand : keepIn K (.ref uStand) = true)
    (aStands : nsIn K mainGlobals "_law_stands" = some (some (.ref uStands)))
    (lStands : K.lookup uStands = some ⟨ocStands, odStands, .func (fnOf "_law_stands" "_law_stands" (defArgs sStands) (defBody sStands) (defScope sStands) .none kVStands dcStands pmStands anStands cdStands ctStands), slStands⟩)
    (qStands : codeIn K cdStands "_law_stands" = true)
    (kStands : keepIn K (.ref uStands) = true)
    (aPaper : nsIn K mainGlobals "_law_paper" = some (some (.ref uPaper)))
    (lPaper : K.lookup uPaper = some ⟨ocPaper, odPaper, .func (fnOf "_law_paper" "_law_paper" (defArgs sPaper) (defBody sPaper) (defScope sPaper) .none kVPaper dcPaper pmPaper anPaper cdPaper ctPaper), slPaper⟩)
    (qPaper : codeIn K cdPaper "_law_paper" = true)
    (kPaper : keepIn K (.ref uPaper) = true)
    (aText : nsIn K mainGlobals "_law_text" = some (some (.ref uText)))
    (lText : K.lookup uText = some ⟨ocText, odText, .func (fnOf "_law_text" "_law_text" (defArgs sText) (defBody sText) (defScope sText) .none kVText dcText pmText anText cdText ctText), slText⟩)
    (qText : codeIn K cdText "_law_text" = true)
    (kText : keepIn K (.ref uText) = true)
    (aLines : nsIn K mainGlobals "_law_lines" = some (some (.ref uLines)))
    (lLines : K.lookup uLines = some ⟨ocLines, odLines, .func (fnOf "_law_lines" "_law_lines" (defArgs sLines) (defBody sLines) (defScope sLines) .none kVLines dcLines pmLines anLines cdLines ctLines), slLines⟩)
    (qLines : codeIn K cdLines "_law_lines" = true)
    (kLines : keepIn K (.ref uLines) = true)
    (aWordV : nsIn K mainGlobals "_law_word_value" = some (some (.ref uWordV)))
    (lWordV : K.lookup uWordV = some ⟨ocWordV, odWordV, .func (fnOf "_law_word_value" "_law_word_value" (defArgs sWordValue) (defBody sWordValue) (defScope sWordValue) .none kVWordV dcWordV pmWordV anWordV cdWordV ctWordV), slWordV⟩)
    (qWordV : codeIn K cdWordV "_law_word_value" = true)
    (kWordV : keepIn K (.ref uWordV) = true)
    (aLItem : nsIn K mainGlobals "_law_item" = some (some (.ref uLItem)))
    (lLItem : K.lookup uLItem = some ⟨ocLItem, odLItem, .func (fnOf "_law_item" "_law_item" (defArgs sItem) (defBody sItem) (defScope sItem) .none kVLItem dcLItem pmLItem anLItem cdLItem ctLItem), slLItem⟩)
    (qLItem : codeIn K cdLItem "_law_item" = true)
    (kLItem : keepIn K (.ref uLItem) = true)
    (aLStand : nsIn K mainGlobals "_law_line_stand" = some (some (.ref uLStand)))
    (lLStand : K.lookup uLStand = some ⟨ocLStand, odLStand, .func (fnOf "_law_line_stand" "_law_line_stand" (defArgs sLineStand) (defBody sLineStand) (defScope sLineStand) .none kVLStand dcLStand pmLStand anLStand cdLStand ctLStand), slLStand⟩)
    (qLStand : codeIn K cdLStand "_law_line_stand" = true)
    (kLStand : keepIn K (.ref uLStand) = true)
    (aLEvent : nsIn K mainGlobals "_law_line_event" = some (some (.ref uLEvent)))
    (lLEvent : K.lookup uLEvent = some ⟨ocLEvent, odLEvent, .func (fnOf "_law_line_event" "_law_line_event" (defArgs sLineEvent) (defBody sLineEvent) (defScope sLineEvent) .none kVLEvent dcLEvent pmLEvent anLEvent cdLEvent ctLEvent), slLEvent⟩)
    (qLEvent : codeIn K cdLEvent "_law_line_event" = true)
    (kLEvent : keepIn K (.ref uLEvent) = true)
    (aDueL : nsIn K mainGlobals "_law_due_list" = some (some (.ref uDueL)))
    (lDueL : K.lookup uDueL = some ⟨ocDueL, odDueL, .func (fnOf "_law_due_list" "_law_due_list" (defArgs sDueList) (defBody sDueList) (defScope sDueList) .none kVDueL dcDueL pmDueL anDueL cdDueL ctDueL), slDueL⟩)
    (qDueL : codeIn K cdDueL "_law_due_list" = true)
    (kDueL : keepIn K (.ref uDueL) = true)
    (aDueR : nsIn K mainGlobals "_law_due_rounds" = some (some (.ref uDueR)))
    (lDueR : K.lookup uDueR = some ⟨ocDueR, odDueR, .func (fnOf "_law_due_rounds" "_law_due_rounds" (defArgs sDueRounds) (defBody sDueRounds) (defScope sDueRounds) .none kVDueR dcDueR pmDueR anDueR cdDueR ctDueR), slDueR⟩)
    (qDueR : codeIn K cdDueR "_law_due_rounds" = true)
    (kDueR : keepIn K (.ref uDueR) = true)
    (aDue : nsIn K mainGlobals "_law_due" = some (some (.ref uDue)))
    (lDue : K.lookup uDue = some ⟨ocDue, odDue, .func (fnOf "_law_due" "_law_due" (defArgs sDue) (defBody sDue) (defScope sDue) .none kVDue dcDue pmDue anDue cdDue ctDue), slDue⟩)
    (qDue : codeIn K cdDue "_law_due" = true)
    (kDue : keepIn K (.ref uDue) = true)
    (aSpLine : nsIn K mainGlobals "_law_spoilt_line" = some (some (.ref uSpLine)))
    (lSpLine : K.lookup uSpLine = some ⟨ocSpLine, odSpLine, .func (fnOf "_law_spoilt_line" "_law_spoilt_line" (defArgs sSpoiltLine) (defBody sSpoiltLine) (defScope sSpoiltLine) .none kVSpLine dcSpLine pmSpLine anSpLine cdSpLine ctSpLine), slSpLine⟩)
    (qSpLine : codeIn K cdSpLine "_law_spoilt_line" = true)
    (kSpLine : keepIn K (.ref uSpLine) = true)
    (aSpoilt : nsIn K mainGlobals "_law_spoilt" = some (some (.ref uSpoilt)))
    (lSpoilt : K.lookup uSpoilt = some ⟨ocSpoilt, odSpoilt, .func (fnOf "_law_spoilt" "_law_spoilt" (defArgs sSpoilt) (defBody sSpoilt) (defScope sSpoilt) .none kVSpoilt dcSpoilt pmSpoilt anSpoilt cdSpoilt ctSpoilt), slSpoilt⟩)
    (qSpoilt : codeIn K cdSpoilt "_law_spoilt" = true)
    (kSpoilt : keepIn K (.ref uSpoilt) = true)
    (aRight : nsIn K mainGlobals "_law_right" = some (some (.ref uRight)))
    (lRight : K.lookup uRight = some ⟨ocRight, odRight, .func (fnOf "_law_right" "_law_right" (defArgs sRight) (defBody sRight) (defScope sRight) .none kVRight dcRight pmRight anRight cdRight ctRight), slRight⟩)
    (qRight : codeIn K cdRight "_law_right" = true)
    (kRight : keepIn K (.ref uRight) = true)
    (aCase : nsIn K mainGlobals "_law_case" = some (some (.ref uCase)))
    (lCase : K.lookup uCase = some ⟨ocCase, odCase, .func (fnOf "_law_case" "_law_case" (defArgs sCase) (defBody sCase) (defScope sCase) .none kVCase dcCase pmCase anCase cdCase ctCase), slCase⟩)
    (qCase : codeIn K cdCase "_law_case" = true)
    (kCase : keepIn K (.ref uCase) = true)
    (aLaw : nsIn K mainGlobals "law" = some (some (.ref uLaw)))
    (lLaw : K.lookup uLaw = some ⟨ocLaw, odLaw, .func (fnOf "law" "law" (defArgs sLaw) (defBody sLaw) (defScope sLaw) .none kVLaw dcLaw pmLaw anLaw cdLaw ctLaw), slLaw⟩)
    (qLaw : codeIn K cdLaw "law" = true)
    (kLaw : keepIn K (.ref uLaw) = true)
    (zlen : nsIn K mainGlobals "len" = some none)
    (zint : nsIn K mainGlobals "int" = some none)
    (zbool : nsIn K mainGlobals "bool" = some none)
    (zstr : nsIn K mainGlobals "str" = some none)
    (ztuple : nsIn K mainGlobals "tuple" = some none)
    (zdict : nsIn K mainGlobals "dict" = some none)
    (zall : nsIn K mainGlobals "all" = some none)
    (zrange : nsIn K mainGlobals "range" = some none)
    (zisinstance : nsIn K mainGlobals "isinstance" = some none)
    (zabs : nsIn K mainGlobals "abs" = some none)
    (zlist : nsIn K mainGlobals "list" = some none)
    (zsorted : nsIn K mainGlobals "sorted" = some none)
    (zmax : nsIn K mainGlobals "max" = some none)
    (zmin : nsIn K mainGlobals "min" = some none)
    (zrepr : nsIn K mainGlobals "repr" = some none)
    (zenumerate : nsIn K mainGlobals "enumerate" = some none)
    (cIE : nsIn K mainGlobals "INTEGER_END" = some (some (.int vIE tIE)))
    (eIE : vIE = ten60)
    (cMN : nsIn K mainGlobals "MAX_NAME" = some (some (.int vMN tMN)))
    (eMN : vMN = 8)
    (cMC : nsIn K mainGlobals "MAX_CLOCKS" = some (some (.int vMC tMC)))
    (eMC : vMC = 12)
    (cMD : nsIn K mainGlobals "MAX_DEPTH" = some (some (.int vMD tMD)))
    (eMD : vMD = 20)
    (cMG : nsIn K mainGlobals "MAX_DIGITS" = some (some (.int vMG tMG)))
    (eMG : vMG = 60)
    (cLS : nsIn K mainGlobals "LETTERS" = some (some (.str vLS tLS)))
    (eLS : vLS = Str.ofString "abcdefghijklmnopqrstuvwxyz")
    (cEM : nsIn K mainGlobals "EMPTY" = some (some (.str vEM tEM)))
    (eEM : vEM = Str.ofString "-")
    (cDG : nsIn K mainGlobals "DIGITS" = some (some (.str vDG tDG)))
    (eDG : vDG = Str.ofString "0123456789")
    (cA : nsIn K mainGlobals "ARGUMENTS" = some (some (.ref dA)))
    (eA : He.dicW K dA = some (He.keysIn w.params keys25))
    (aP : nsIn K mainGlobals "ParseError" = some (some (.ref uP)))
    (aB : nsIn K mainGlobals "PushError" = some (some (.ref uB)))
    (tMPi : PySem.W.findIn K (.ref uP) "__init__" = some (some (.ref uMPi)))
    (lMPi : K.lookup uMPi = some ⟨ocMPi, odMPi, .func (fnOf "__init__" "ParseError.__init__" (defArgs cParseError_init) (defBody cParseError_init) (defScope cParseError_init) .none kVMPi dcMPi pmMPi anMPi cdMPi ctMPi), slMPi⟩)
    (qMPi : codeIn K cdMPi "ParseError.__init__" = true)
    (kMPi : keepIn K (.ref uMPi) = true)
    (yMPi : PySem.W.typeIn K (.ref uMPi) = some (.type "function"))
    (x2 : b50E K uP uB = true)
    (kP : keepIn K (.ref uP) = true)
    (yP : PySem.W.typeIn K (.ref uP) = some (.type "type"))
    (w1 : PySem.W.hasDictIn K uP = true)
    (w2 : PySem.W.findIn K (.ref uP) "__setattr__" = some (some (.builtin "object.__setattr__")))
    (w3 : PySem.W.takerIn K uP "index" = some none)
    (w5 : PySem.W.findIn K (.ref uP) "__getattribute__" = some (some (.builtin "BaseException.__getattribute__")))
    (w6 : PySem.W.findIn K (.ref uP) "__getattr__" = some none)
    (w7 : PySem.W.findIn K (.ref uP) "index" = some none)
    (p1 : PySem.W.specialIn K (.ref uB) "__getattribute__" = some (some (.builtin "type.__getattribute__")))
    (p2 : PySem.W.readsIn K uB (.type "type") = true)
    (p3 : PySem.W.findCls K (.ref uB) (.type "type") "__init__" = some (.val (.builtin "ValueError.__init__"))) :
    ∃ fd : FuncData, (∀ (s : Shared) (v : Value), BindsTo s fd ⟨[v], []⟩ [("script", v)]) ∧ ∀ base : Heap, K.In base → base.Ns mainGlobals mg → GnOk l.prog w K mg base CX0 31 fa fd ["script"] (Wd.spLaw K) := by
  have e := hfa.symm.trans (PySem.W.mg_of KX G aLaw)
  cases e
  have FIsInteger := fun_mk (st := sIsInteger) lIsInteger qIsInteger kIsInteger
  have bIsInteger := FIsInteger.binds (ps := ["value"]) fun _ _ _ _ _ _ us hl => match us, hl with | [_], _ => rfl
  have FAreIntegers := fun_mk (st := sAreIntegers) lAreIntegers qAreIntegers kAreIntegers
  have bAreIntegers := FAreIntegers.binds (ps := ["value", "many"]) fun _ _ _ _ _ _ us hl => match us, hl with | [_, _], _ => rfl
  have FIsLetter := fun_mk (st := sIsLetter) lIsLetter qIsLetter kIsLetter
  have bIsLetter := FIsLetter.binds (ps := ["value"]) fun _ _ _ _ _ _ us hl => match us, hl with | [_], _ => rfl
  have FIsName := fun_mk (st := sIsName) lIsName qIsName kIsName
  have bIsName := FIsName.binds (ps := ["value"]) fun _ _ _ _ _ _ us hl => match us, hl with | [_], _ => rfl
  have FIsEvent := fun_mk (st := sIsEvent) lIsEvent qIsEvent kIsEvent
  have bIsEvent := FIsEvent.binds (ps := ["value"]) fun _ _ _ _ _ _ us hl => match us, hl with | [_], _ => rfl
  have FIsRows := fun_mk (st := sIsRows) lIsRows qIsRows kIsRows
  have bIsRows := FIsRows.binds (ps := ["value"]) fun _ _ _ _ _ _ us hl => match us, hl with | [_], _ => rfl
  have FIntegerOf := fun_mk (st := sIntegerOf) lIntegerOf qIntegerOf kIntegerOf
  have bIntegerOf := FIntegerOf.binds (ps := ["word"]) fun _ _ _ _ _ _ us hl => match us, hl with | [_], _ => rfl
  have FIsWord := fun_mk (st := sIsWord) lIsWord qIsWord kIsWord
  have bIsWord := FIsWord.binds (ps := ["value"]) fun _ _ _ _ _ _ us hl => match us, hl with | [_], _ => rfl
  have FIsItem := fun_mk (st := sIsItem) lIsItem qIsItem kIsItem
  have bIsItem := FIsItem.binds (ps := ["value", "depth"]) fun _ _ _ _ _ _ us hl => match us, hl with | [_, _], _ => rfl
  have FHasStand := fun_mk (st := sHasStandForm) lHasStand qHasStand kHasStand
  have bHasStand := FHasStand.binds (ps := ["value"]) fun _ _ _ _ _ _ us hl => match us, hl with | [_], _ => rfl
  have FItemText := fun_mk (st := sItemText) lItemText qItemText kItemText
  have bItemText := FItemText.binds (ps := ["value"]) fun _ _ _ _ _ _ us hl => match us, hl with | [_], _ => rfl
  have FStandOf := fun_mk (st := sStandOf) lStandOf qStandOf kStandOf
  have bStandOf := FStandOf.binds (ps := ["text"]) fun _ _ _ _ _ _ us hl => match us, hl with | [_], _ => rfl
  have FItemOf := fun_mk (st := sItemOf) lItemOf qItemOf kItemOf
  have bItemOf := FItemOf.binds (ps := ["words"]) fun _ _ _ _ _ _ us hl => match us, hl with | [_], _ => rfl
  have FLatest := fun_mk (st := sLatestTime) lLatest qLatest kLatest
  have bLatest := FLatest.binds (ps := ["events"]) fun _ _ _ _ _ _ us hl => match us, hl with | [_], _ => rfl
  have FReadPaper := fun_mk (st := sReadPaper) lReadPaper qReadPaper kReadPaper
  have bReadPaper := FReadPaper.binds (ps := ["text"]) fun _ _ _ _ _ _ us hl => match us, hl with | [_], _ => rfl
  have FReadStand := fun_mk (st := sReadStand) lReadStand qReadStand kReadStand
  have bReadStand := FReadStand.binds (ps := ["lines", "index"]) fun _ _ _ _ _ _ us hl => match us, hl with | [_, _], _ => rfl
  have FReadTape := fun_mk (st := sReadTape) lReadTape qReadTape kReadTape
  have bReadTape := FReadTape.binds (ps := ["lines"]) fun _ _ _ _ _ _ us hl => match us, hl with | [_], _ => rfl
  have FEventOf := fun_mk (st := sEventOf) lEventOf qEventOf kEventOf
  have bEventOf := FEventOf.binds (ps := ["words"]) fun _ _ _ _ _ _ us hl => match us, hl with | [_], _ => rfl
  have FReadRounds := fun_mk (st := sReadRounds) lReadRounds qReadRounds kReadRounds
  have bReadRounds := FReadRounds.binds (ps := ["lines", "many"]) fun _ _ _ _ _ _ us hl => match us, hl with | [_, _], _ => rfl
  have FStart := fun_mk (st := sStart) lStart qStart kStart
  have bStart := FStart.binds (ps := ["script", "at"]) fun _ _ _ _ _ _ us hl => match us, hl with | [_, _], _ => rfl
  have FThrow := fun_mk (st := sThrow) lThrow qThrow kThrow
  have bThrow := FThrow.binds (ps := ["bag", "total"]) fun _ _ _ _ _ _ us hl => match us, hl with | [_, _], _ => rfl
  have FPick := fun_mk (st := sPick) lPick qPick kPick
  have bPick := FPick.binds (ps := ["bag", "items"]) fun _ _ _ _ _ _ us hl => match us, hl with | [_, _], _ => rfl
  have FLetters := fun_mk (st := sLetters) lLetters qLetters kLetters
  have bLetters := FLetters.binds (ps := ["bag", "most"]) fun _ _ _ _ _ _ us hl => match us, hl with | [_, _], _ => rfl
  have FWords := fun_mk (st := sWords) lWords qWords kWords
  have bWords := FWords.binds (ps := []) fun _ _ _ _ _ _ us hl => match us, hl with | [], _ => rfl
  have FName := fun_mk (st := sName) lName qName kName
  have bName := FName.binds (ps := ["bag", "known"]) fun _ _ _ _ _ _ us hl => match us, hl with | [_, _], _ => rfl
  have FLayout := fun_mk (st := sLayout) lLayout qLayout kLayout
  have bLayout := FLayout.binds (ps := ["bag", "sources", "letters"]) fun _ _ _ _ _ _ us hl => match us, hl with | [_, _, _], _ => rfl
  have FValue := fun_mk (st := sValue) lValue qValue kValue
  have bValue := FValue.binds (ps := ["bag"]) fun _ _ _ _ _ _ us hl => match us, hl with | [_], _ => rfl
  have FEvents := fun_mk (st := sEvents) lEvents qEvents kEvents
  have bEvents := FEvents.binds (ps := ["bag", "layout", "most", "gap"]) fun _ _ _ _ _ _ us hl => match us, hl with | [_, _, _, _], _ => rfl
  have FTape := fun_mk (st := sTape) lTape qTape kTape
  have bTape := FTape.binds (ps := ["bag", "layout", "most", "gap"]) fun _ _ _ _ _ _ us hl => match us, hl with | [_, _, _, _], _ => rfl
  have FAtom := fun_mk (st := sAtom) lAtom qAtom kAtom
  have bAtom := FAtom.binds (ps := ["bag"]) fun _ _ _ _ _ _ us hl => match us, hl with | [_], _ => rfl
  have FShape := fun_mk (st := sShape) lShape qShape kShape
  have bShape := FShape.binds (ps := ["bag", "depth", "left"]) fun _ _ _ _ _ _ us hl => match us, hl with | [_, _, _], _ => rfl
  have FDeep := fun_mk (st := sDeep) lDeep qDeep kDeep
  have bDeep := FDeep.binds (ps := ["bag", "depth"]) fun _ _ _ _ _ _ us hl => match us, hl with | [_, _], _ => rfl
  have FNumber := fun_mk (st := sNumber) lNumber qNumber kNumber
  have bNumber := FNumber.binds (ps := ["bag"]) fun _ _ _ _ _ _ us hl => match us, hl with | [_], _ => rfl
  have FStand := fun_mk (st := sStand) lStand qStand kStand
  have bStand := FStand.binds (ps := ["bag"]) fun _ _ _ _ _ _ us hl => match us, hl with | [_], _ => rfl
  have FStands := fun_mk (st := sStands) lStands qStands kStands
  have bStands := FStands.binds (ps := ["bag", "most"]) fun _ _ _ _ _ _ us hl => match us, hl with | [_, _], _ => rfl
  have FPaper := fun_mk (st := sPaper) lPaper qPaper kPaper
  have bPaper := FPaper.binds (ps := ["bag"]) fun _ _ _ _ _ _ us hl => match us, hl with | [_], _ => rfl
  have FText := fun_mk (st := sText) lText qText kText
  have bText := FText.binds (ps := ["value"]) fun _ _ _ _ _ _ us hl => match us, hl with | [_], _ => rfl
  have FLines := fun_mk (st := sLines) lLines qLines kLines
  have bLines := FLines.binds (ps := ["paper"]) fun _ _ _ _ _ _ us hl => match us, hl with | [_], _ => rfl
  have FWordV := fun_mk (st := sWordValue) lWordV qWordV kWordV
  have bWordV := FWordV.binds (ps := ["word"]) fun _ _ _ _ _ _ us hl => match us, hl with | [_], _ => rfl
  have FLItem := fun_mk (st := sItem) lLItem qLItem kLItem
  have bLItem := FLItem.binds (ps := ["text", "at", "depth"]) fun _ _ _ _ _ _ us hl => match us, hl with | [_, _, _], _ => rfl
  have FLStand := fun_mk (st := sLineStand) lLStand qLStand kLStand
  have bLStand := FLStand.binds (ps := ["line"]) fun _ _ _ _ _ _ us hl => match us, hl with | [_], _ => rfl
  have FLEvent := fun_mk (st := sLineEvent) lLEvent qLEvent kLEvent
  have bLEvent := FLEvent.binds (ps := ["line", "now"]) fun _ _ _ _ _ _ us hl => match us, hl with | [_, _], _ => rfl
  have FDueL := fun_mk (st := sDueList) lDueL qDueL kDueL
  have bDueL := FDueL.binds (ps := ["lines"]) fun _ _ _ _ _ _ us hl => match us, hl with | [_], _ => rfl
  have FDueR := fun_mk (st := sDueRounds) lDueR qDueR kDueR
  have bDueR := FDueR.binds (ps := ["lines", "spot", "events", "late"]) fun _ _ _ _ _ _ us hl => match us, hl with | [_, _, _, _], _ => rfl
  have FDue := fun_mk (st := sDue) lDue qDue kDue
  have bDue := FDue.binds (ps := ["text"]) fun _ _ _ _ _ _ us hl => match us, hl with | [_], _ => rfl
  have FSpLine := fun_mk (st := sSpoiltLine) lSpLine qSpLine kSpLine
  have bSpLine := FSpLine.binds (ps := ["bag", "line"]) fun _ _ _ _ _ _ us hl => match us, hl with | [_, _], _ => rfl
  have FSpoilt := fun_mk (st := sSpoilt) lSpoilt qSpoilt kSpoilt
  have bSpoilt := FSpoilt.binds (ps := ["bag", "lines"]) fun _ _ _ _ _ _ us hl => match us, hl with | [_, _], _ => rfl
  have FRight := fun_mk (st := sRight) lRight qRight kRight
  have bRight := FRight.binds (ps := ["text"]) fun _ _ _ _ _ _ us hl => match us, hl with | [_], _ => rfl
  have FCase := fun_mk (st := sCase) lCase qCase kCase
  have bCase := FCase.binds (ps := ["bag"]) fun _ _ _ _ _ _ us hl => match us, hl with | [_], _ => rfl
  have FLaw := fun_mk (st := sLaw) lLaw qLaw kLaw
  have FMPi := fun_mk (st := cParseError_init) lMPi qMPi kMPi
  have bMPi := FMPi.binds (ps := ["self", "index"]) fun _ _ _ _ _ _ us hl => match us, hl with | [_, _], _ => rfl
  clear lIsInteger qIsInteger lAreIntegers qAreIntegers lIsLetter qIsLetter lIsName qIsName lIsEvent qIsEvent lIsRows qIsRows lIntegerOf qIntegerOf lIsWord qIsWord lIsItem qIsItem lHasStand qHasStand lItemText qItemText lStandOf qStandOf lItemOf qItemOf lLatest qLatest lReadPaper qReadPaper lReadStand qReadStand lReadTape qReadTape lEventOf qEventOf lReadRounds qReadRounds lStart qStart lThrow qThrow lPick qPick lLetters qLetters lWords qWords lName qName lLayout qLayout lValue qValue lEvents qEvents lTape qTape lAtom qAtom lShape qShape lDeep qDeep lNumber qNumber lStand qStand lStands qStands lPaper qPaper lText qText lLines qLines lWordV qWordV lLItem qLItem lLStand qLStand lLEvent qLEvent lDueL qDueL lDueR qDueR lDue qDue lSpLine qSpLine lSpoilt qSpoilt lRight qRight lCase qCase
  refine ⟨fnOf "law" "law" (defArgs sLaw) (defBody sLaw) (defScope sLaw) .none kVLaw dcLaw pmLaw anLaw cdLaw ctLaw, fun s v => .of_eq rfl, fun base _ _ => ?_⟩
  have X : WTxt mg uIsInteger uIsLetter := {
    len := (PySem.W.mg_none_of KX G zlen), isin := (PySem.W.mg_none_of KX G zisinstance), int := (PySem.W.mg_none_of KX G zint), bool := (PySem.W.mg_none_of KX G zbool), str := (PySem.W.mg_none_of KX G zstr), tup := (PySem.W.mg_none_of KX G ztuple), dict := (PySem.W.mg_none_of KX G zdict), all := (PySem.W.mg_none_of KX G zall), range := (PySem.W.mg_none_of KX G zrange),
    ie := ⟨_, (PySem.W.mg_of KX G cIE), tIE, by rw [eIE]⟩, ls := ⟨_, (PySem.W.mg_of KX G cLS), tLS, by rw [eLS]⟩, mn := ⟨_, (PySem.W.mg_of KX G cMN), tMN, by rw [eMN]⟩, fi := (PySem.W.mg_of KX G aIsInteger), fl := (PySem.W.mg_of KX G aIsLetter) }
  have MX : MTxt mg := { em := ⟨_, (PySem.W.mg_of KX G cEM), tEM, by rw [eEM]⟩, str := (PySem.W.mg_none_of KX G zstr) }
  have DX : DTxt mg := { md := ⟨_, (PySem.W.mg_of KX G cMG), tMG, by rw [eMG]⟩, dg := ⟨_, (PySem.W.mg_of KX G cDG), tDG, by rw [eDG]⟩ }
  have ZX : ZTxt50 mg uP := { len := (PySem.W.mg_none_of KX G zlen), range := (PySem.W.mg_none_of KX G zrange), max := (PySem.W.mg_none_of KX G zmax), min := (PySem.W.mg_none_of KX G zmin), gP := (PySem.W.mg_of KX G aP) }
  have GX : GTxt mg uThrow uPick := { len := (PySem.W.mg_none_of KX G zlen), int := (PySem.W.mg_none_of KX G zint), abs := (PySem.W.mg_none_of KX G zabs), max := (PySem.W.mg_none_of KX G zmax), thr := (PySem.W.mg_of KX G aThrow), pick := (PySem.W.mg_of KX G aPick), range := (PySem.W.mg_none_of KX G zrange), sorted := (PySem.W.mg_none_of KX G zsorted), list := (PySem.W.mg_none_of KX G zlist), tuple := (PySem.W.mg_none_of KX G ztuple) }
  obtain ⟨es, nA, ZA⟩ := atxt_of (K := K) (w := w) (mg := mg) (d := dA) ⟨_, (PySem.W.mg_of KX G cA), rfl⟩ eA keys25_mem
  unfold b50E at x2
  simp only [Bool.and_eq_true] at x2
  obtain ⟨m1, m2, m3, sP, oP, bP⟩ := x2
  have E1 : Ek.EC K uP vTail9 "ValueError.__new__" := ⟨sP, oP, w1, kP, w2⟩
  have XF : XfC K uP := ⟨w5, w6, isB9_eq bP, w1⟩
  have PF : PushF K mg uB := ⟨(PySem.W.mg_of KX G aB), p1, p2, p3⟩
  have GPi : FnOk l.prog w K mg base CX0 1 uMPi _ ["self", "index"] (Ek.spInitX uP "index") := ok_initP FMPi E1 w3 PF
  have EP : ErrP l.prog w K mg base uP := ⟨"ValueError", "BaseException", _, _, _, vTail9, ⟨(PySem.W.mg_of KX G aP), PySem.F.excBase_ValueError, ⟨by decide +kernel, by decide +kernel, by decide +kernel, by decide +kernel⟩, E1, isB9_eq bP, yP, ⟨uMPi, _, tMPi, yMPi, GPi, bMPi⟩⟩⟩
  have nPB : ¬ (Value.ref uP == Value.ref uB) = true := fun h => by
    rw [h] at m3
    cases m3
  have YX : YTxt mg uB uP := { rp := (PySem.W.mg_none_of KX G zrepr), gB := (PySem.W.mg_of KX G aB), gP := (PySem.W.mg_of KX G aP) }
  have GIsInteger : FnOk l.prog w K mg base CX0 1 uIsInteger _ ["value"] (spB intB) := spB_of (fun _ _ _ _ h _ => intB_iff h) (ok_is_integer own_no FIsInteger X)
  have AIsInteger : At l.prog w K mg base 1 "is_integer" uIsInteger _ ["value"] (spB intB) := ⟨(PySem.W.mg_of KX G aIsInteger), kIsInteger, bIsInteger, GIsInteger⟩
  have GIsLetter : FnOk l.prog w K mg base CX0 1 uIsLetter _ ["value"] (spB letterB) := spB_of (fun _ _ _ _ h _ => letterB_iff h) (ok_is_letter own_no FIsLetter X)
  have AIsLetter : At l.prog w K mg base 1 "is_letter" uIsLetter _ ["value"] (spB letterB) := ⟨(PySem.W.mg_of KX G aIsLetter), kIsLetter, bIsLetter, GIsLetter⟩
  have GIsEvent : FnOk l.prog w K mg base CX0 3 uIsEvent _ ["value"] (spB eventB) := spB_of (fun _ _ _ _ h _ => eventB_iff h) (ok_is_event own_no FIsEvent X ZA (PySem.W.mg_of KX G aIsName) FIsLetter bIsLetter FIsInteger bIsInteger FIsName bIsName)
  have AIsEvent : At l.prog w K mg base 3 "is_event" uIsEvent _ ["value"] (spB eventB) := ⟨(PySem.W.mg_of KX G aIsEvent), kIsEvent, bIsEvent, GIsEvent⟩
  have GAreIntegers : FnOk l.prog w K mg base CX0 2 uAreIntegers _ ["value", "many"] (spAreD) := ok_are FAreIntegers X AIsInteger
  have AAreIntegers : At l.prog w K mg base 2 "are_integers" uAreIntegers _ ["value", "many"] (spAreD) := ⟨(PySem.W.mg_of KX G aAreIntegers), kAreIntegers, bAreIntegers, GAreIntegers⟩
  have GIsRows : FnOk l.prog w K mg base CX0 3 uIsRows _ ["value"] (spB rowsB) := ok_is_rows FIsRows X ⟨_, (PySem.W.mg_of KX G cMC), tMC, by rw [eMC]⟩ AAreIntegers
  have AIsRows : At l.prog w K mg base 3 "is_rows" uIsRows _ ["value"] (spB rowsB) := ⟨(PySem.W.mg_of KX G aIsRows), kIsRows, bIsRows, GIsRows⟩
  have GIsWord : FnOk l.prog w K mg base CX0 2 uIsWord _ ["value"] (spB wordB) := ok_is_word FIsWord X AIsLetter
  have AIsWord : At l.prog w K mg base 2 "is_word" uIsWord _ ["value"] (spB wordB) := ⟨(PySem.W.mg_of KX G aIsWord), kIsWord, bIsWord, GIsWord⟩
  have GIsItem : FnOk l.prog w K mg base CX0 23 uIsItem _ ["value", "depth"] (spItem 20) := ok_is_item FIsItem X (PySem.W.mg_of KX G aIsItem) bIsItem AIsInteger AIsWord 20
  have AIsItem : At l.prog w K mg base 23 "is_item" uIsItem _ ["value", "depth"] (spItem 20) := ⟨(PySem.W.mg_of KX G aIsItem), kIsItem, bIsItem, GIsItem⟩
  have GHasStand : FnOk l.prog w K mg base CX0 24 uHasStand _ ["value"] (spB standB) := ok_has_stand FHasStand X ⟨_, (PySem.W.mg_of KX G cMD), tMD, by rw [eMD]⟩ AIsInteger AIsItem AIsRows
  have AHasStand : At l.prog w K mg base 24 "has_stand_form" uHasStand _ ["value"] (spB standB) := ⟨(PySem.W.mg_of KX G aHasStand), kHasStand, bHasStand, GHasStand⟩
  have GLatest : FnOk l.prog w K mg base CX0 1 uLatest _ ["events"] (spLat) := ok_latest FLatest X
  have ALatest : At l.prog w K mg base 1 "latest_time" uLatest _ ["events"] (spLat) := ⟨(PySem.W.mg_of KX G aLatest), kLatest, bLatest, GLatest⟩
  have GItemText : FnOk l.prog w K mg base CX0 22 uItemText _ ["value"] (spIText 21) := ok_item_text FItemText X MX (PySem.W.mg_of KX G aItemText) bItemText 21
  have AItemText : At l.prog w K mg base 22 "item_text" uItemText _ ["value"] (spIText 21) := ⟨(PySem.W.mg_of KX G aItemText), kItemText, bItemText, GItemText⟩
  have GIntegerOf : FnOk l.prog w K mg base CX0 1 uIntegerOf _ ["word"] (spIntOf) := ok_integer_of FIntegerOf X DX
  have AIntegerOf : At l.prog w K mg base 1 "integer_of" uIntegerOf _ ["word"] (spIntOf) := ⟨(PySem.W.mg_of KX G aIntegerOf), kIntegerOf, bIntegerOf, GIntegerOf⟩
  have GItemOf : FnOk l.prog w K mg base CX0 3 uItemOf _ ["words"] (spItemOf) := ok_item_of FItemOf X AIsWord AIntegerOf
  have AItemOf : At l.prog w K mg base 3 "item_of" uItemOf _ ["words"] (spItemOf) := ⟨(PySem.W.mg_of KX G aItemOf), kItemOf, bItemOf, GItemOf⟩
  have GStandOf : FnOk l.prog w K mg base CX0 25 uStandOf _ ["text"] (spStandOf) := ok_stand_of FStandOf AItemOf AHasStand AItemText
  have AStandOf : At l.prog w K mg base 25 "stand_of" uStandOf _ ["text"] (spStandOf) := ⟨(PySem.W.mg_of KX G aStandOf), kStandOf, bStandOf, GStandOf⟩
  have GReadStand : FnOk l.prog w K mg base (L2.CX l.prog w) 26 uReadStand _ ["lines", "index"] (spReadStandX uP) := ok_read_standX FReadStand EP AStandOf
  have AReadStand : AtX l.prog w K mg base 26 "read_stand" uReadStand _ ["lines", "index"] (spReadStandX uP) := ⟨(PySem.W.mg_of KX G aReadStand), kReadStand, bReadStand, GReadStand⟩
  have GEventOf : FnOk l.prog w K mg base CX0 4 uEventOf _ ["words"] (spEventOfX) := ok_event_ofX FEventOf X AIntegerOf AIsEvent
  have AEventOf : At l.prog w K mg base 4 "event_of" uEventOf _ ["words"] (spEventOfX) := ⟨(PySem.W.mg_of KX G aEventOf), kEventOf, bEventOf, GEventOf⟩
  have GReadTape : FnOk l.prog w K mg base (L2.CX l.prog w) 5 uReadTape _ ["lines"] (spReadTapeX uP) := ok_read_tapeX FReadTape EP X AIntegerOf ALatest AEventOf
  have AReadTape : AtX l.prog w K mg base 5 "read_tape" uReadTape _ ["lines"] (spReadTapeX uP) := ⟨(PySem.W.mg_of KX G aReadTape), kReadTape, bReadTape, GReadTape⟩
  have GReadRounds : FnOk l.prog w K mg base (L2.CX l.prog w) 27 uReadRounds _ ["lines", "many"] (spRoundsX uP) := ok_read_roundsX FReadRounds EP X AReadStand
  have AReadRounds : AtX l.prog w K mg base 27 "read_rounds" uReadRounds _ ["lines", "many"] (spRoundsX uP) := ⟨(PySem.W.mg_of KX G aReadRounds), kReadRounds, bReadRounds, GReadRounds⟩
  have GReadPaper : FnOk l.prog w K mg base (L2.CX l.prog w) 28 uReadPaper _ ["text"] (spReadPaperX uP) := ok_read_paperX FReadPaper EP X AReadStand AReadTape AReadRounds
  have AReadPaper : AtX l.prog w K mg base 28 "read_paper" uReadPaper _ ["text"] (spReadPaperX uP) := ⟨(PySem.W.mg_of KX G aReadPaper), kReadPaper, bReadPaper, GReadPaper⟩
  have GStart : FnOk l.prog w K mg base CX0 1 uStart _ ["script", "at"] (spStart K) := ok_start FStart GX.toTxtA
  have AStart : At l.prog w K mg base 1 "_law_start" uStart _ ["script", "at"] (spStart K) := ⟨(PySem.W.mg_of KX G aStart), kStart, bStart, GStart⟩
  have GThrow : FnOk l.prog w K mg base CX0 1 uThrow _ ["bag", "total"] (spThrow) := ok_throw FThrow GX.toTxtA
  have AThrow : At l.prog w K mg base 1 "_law_throw" uThrow _ ["bag", "total"] (spThrow) := ⟨(PySem.W.mg_of KX G aThrow), kThrow, bThrow, GThrow⟩
  have GNumber : FnOk l.prog w K mg base CX0 3 uNumber _ ["bag"] (spValue) := ok_number FNumber GX FThrow bThrow FPick bPick
  have ANumber : At l.prog w K mg base 3 "_law_number" uNumber _ ["bag"] (spValue) := ⟨(PySem.W.mg_of KX G aNumber), kNumber, bNumber, GNumber⟩
  have GLayout : FnOk l.prog w K mg base CX0 4 uLayout _ ["bag", "sources", "letters"] (spLayout) := ok_layout FLayout GX (PySem.W.mg_of KX G aWords) (PySem.W.mg_of KX G aName) (PySem.W.mg_of KX G aLetters) FThrow bThrow FPick bPick FWords bWords FName bName FLetters bLetters
  have ALayout : At l.prog w K mg base 4 "_law_layout" uLayout _ ["bag", "sources", "letters"] (spLayout) := ⟨(PySem.W.mg_of KX G aLayout), kLayout, bLayout, GLayout⟩
  have GEvents : FnOk l.prog w K mg base CX0 3 uEvents _ ["bag", "layout", "most", "gap"] (spEvts) := ok_events FEvents GX (PySem.W.mg_of KX G aValue) FThrow bThrow FPick bPick FValue bValue
  have AEvents : At l.prog w K mg base 3 "_law_events" uEvents _ ["bag", "layout", "most", "gap"] (spEvts) := ⟨(PySem.W.mg_of KX G aEvents), kEvents, bEvents, GEvents⟩
  have GTape : FnOk l.prog w K mg base CX0 4 uTape _ ["bag", "layout", "most", "gap"] (spLTape) := ok_ltape FTape GX (PySem.W.mg_of KX G aEvents) FThrow bThrow kEvents bEvents GEvents
  have ATape : At l.prog w K mg base 4 "_law_tape" uTape _ ["bag", "layout", "most", "gap"] (spLTape) := ⟨(PySem.W.mg_of KX G aTape), kTape, bTape, GTape⟩
  have GAtom : FnOk l.prog w K mg base CX0 3 uAtom _ ["bag"] (spAtom) := ok_atom FAtom GX FThrow bThrow FPick bPick
  have AAtom : At l.prog w K mg base 3 "_law_atom" uAtom _ ["bag"] (spAtom) := ⟨(PySem.W.mg_of KX G aAtom), kAtom, bAtom, GAtom⟩
  have GShape : FnOk l.prog w K mg base CX0 11 uShape _ ["bag", "depth", "left"] (spShape 7) := ok_shape FShape GX (PySem.W.mg_of KX G aShape) bShape FThrow bThrow AAtom 7
  have AShape : At l.prog w K mg base 11 "_law_shape" uShape _ ["bag", "depth", "left"] (spShape 7) := ⟨(PySem.W.mg_of KX G aShape), kShape, bShape, GShape⟩
  have GDeep : FnOk l.prog w K mg base CX0 4 uDeep _ ["bag", "depth"] (spDeep) := ok_deep FDeep GX FThrow bThrow FPick bPick AAtom
  have ADeep : At l.prog w K mg base 4 "_law_deep" uDeep _ ["bag", "depth"] (spDeep) := ⟨(PySem.W.mg_of KX G aDeep), kDeep, bDeep, GDeep⟩
  have GStand : FnOk l.prog w K mg base CX0 12 uStand _ ["bag"] (spStand) := ok_stand FStand GX FThrow bThrow FPick bPick ANumber AShape ADeep
  have AStand : At l.prog w K mg base 12 "_law_stand" uStand _ ["bag"] (spStand) := ⟨(PySem.W.mg_of KX G aStand), kStand, bStand, GStand⟩
  have GStands : FnOk l.prog w K mg base CX0 13 uStands _ ["bag", "most"] (spStands) := ok_stands FStands GX FThrow bThrow AStand
  have AStands : At l.prog w K mg base 13 "_law_stands" uStands _ ["bag", "most"] (spStands) := ⟨(PySem.W.mg_of KX G aStands), kStands, bStands, GStands⟩
  have GPaper : FnOk l.prog w K mg base CX0 14 uPaper _ ["bag"] (spPaper) := ok_paper FPaper GX FThrow bThrow FPick bPick AStands ATape ALayout
  have APaper : At l.prog w K mg base 14 "_law_paper" uPaper _ ["bag"] (spPaper) := ⟨(PySem.W.mg_of KX G aPaper), kPaper, bPaper, GPaper⟩
  have GText : FnOk l.prog w K mg base CX0 22 uText _ ["value"] (spIText 21) := ok_ltext FText X (PySem.W.mg_of KX G aText) bText 21
  have AText : At l.prog w K mg base 22 "_law_text" uText _ ["value"] (spIText 21) := ⟨(PySem.W.mg_of KX G aText), kText, bText, GText⟩
  have GLines : FnOk l.prog w K mg base CX0 23 uLines _ ["paper"] (spLines) := ok_llines FLines X AText
  have ALines : At l.prog w K mg base 23 "_law_lines" uLines _ ["paper"] (spLines) := ⟨(PySem.W.mg_of KX G aLines), kLines, bLines, GLines⟩
  have GWordV : FnOk l.prog w K mg base CX0 1 uWordV _ ["word"] (spWordV) := ok_word_value FWordV X
  have AWordV : At l.prog w K mg base 1 "_law_word_value" uWordV _ ["word"] (spWordV) := ⟨(PySem.W.mg_of KX G aWordV), kWordV, bWordV, GWordV⟩
  have GLItem : FnOk l.prog w K mg base CX0 23 uLItem _ ["text", "at", "depth"] (spLItem 21) := ok_litem FLItem X (PySem.W.mg_of KX G aLItem) bLItem AWordV 21
  have ALItem : At l.prog w K mg base 23 "_law_item" uLItem _ ["text", "at", "depth"] (spLItem 21) := ⟨(PySem.W.mg_of KX G aLItem), kLItem, bLItem, GLItem⟩
  have GLStand : FnOk l.prog w K mg base CX0 24 uLStand _ ["line"] (spLStand) := ok_line_stand FLStand X ALItem
  have ALStand : At l.prog w K mg base 24 "_law_line_stand" uLStand _ ["line"] (spLStand) := ⟨(PySem.W.mg_of KX G aLStand), kLStand, bLStand, GLStand⟩
  have GLEvent : FnOk l.prog w K mg base CX0 2 uLEvent _ ["line", "now"] (spLEvent) := ok_line_event FLEvent X (PySem.W.mg_of KX G aWords) FWords bWords AWordV
  have ALEvent : At l.prog w K mg base 2 "_law_line_event" uLEvent _ ["line", "now"] (spLEvent) := ⟨(PySem.W.mg_of KX G aLEvent), kLEvent, bLEvent, GLEvent⟩
  have GDueL : FnOk l.prog w K mg base CX0 25 uDueL _ ["lines"] (spDueL) := ok_due_list FDueL X (PySem.W.mg_none_of KX G zenumerate) ALStand
  have ADueL : At l.prog w K mg base 25 "_law_due_list" uDueL _ ["lines"] (spDueL) := ⟨(PySem.W.mg_of KX G aDueL), kDueL, bDueL, GDueL⟩
  have GDueR : FnOk l.prog w K mg base CX0 25 uDueR _ ["lines", "spot", "events", "late"] (spDueR) := ok_due_rounds FDueR X ALStand
  have ADueR : At l.prog w K mg base 25 "_law_due_rounds" uDueR _ ["lines", "spot", "events", "late"] (spDueR) := ⟨(PySem.W.mg_of KX G aDueR), kDueR, bDueR, GDueR⟩
  have GDue : FnOk l.prog w K mg base CX0 26 uDue _ ["text"] (spDue) := ok_due FDue X ALEvent AWordV ADueL ADueR
  have ADue : At l.prog w K mg base 26 "_law_due" uDue _ ["text"] (spDue) := ⟨(PySem.W.mg_of KX G aDue), kDue, bDue, GDue⟩
  have GSpLine : FnOk l.prog w K mg base CX0 3 uSpLine _ ["bag", "line"] (spSpLine) := ok_spoilt_line FSpLine X GX FThrow bThrow FPick bPick
  have ASpLine : At l.prog w K mg base 3 "_law_spoilt_line" uSpLine _ ["bag", "line"] (spSpLine) := ⟨(PySem.W.mg_of KX G aSpLine), kSpLine, bSpLine, GSpLine⟩
  have GSpoilt : FnOk l.prog w K mg base CX0 4 uSpoilt _ ["bag", "lines"] (spSpoilt) := ok_spoilt FSpoilt X GX FThrow bThrow FPick bPick ASpLine
  have ASpoilt : At l.prog w K mg base 4 "_law_spoilt" uSpoilt _ ["bag", "lines"] (spSpoilt) := ⟨(PySem.W.mg_of KX G aSpoilt), kSpoilt, bSpoilt, GSpoilt⟩
  have GRight : GnOk l.prog w K mg base CX0 29 uRight _ ["text"] (spRight) := ok_right FRight X YX XF w7 (isB9_eq m1) (isB9_eq m2) nPB ADue AReadPaper
  have ARight : GAt l.prog w K mg base 29 "_law_right" uRight _ ["text"] (spRight) := ⟨(PySem.W.mg_of KX G aRight), kRight, bRight, GRight⟩
  have GCase : GnOk l.prog w K mg base CX0 30 uCase _ ["bag"] (spCase) := ok_case FCase X GX FThrow bThrow FPick bPick APaper ALines ARight ASpoilt
  have ACase : GAt l.prog w K mg base 30 "_law_case" uCase _ ["bag"] (spCase) := ⟨(PySem.W.mg_of KX G aCase), kCase, bCase, GCase⟩
  exact Wd.ok_law FLaw ZX XF w7 (isB9_eq m1) AStart AReadPaper ARight ACase
theorem walk {l : PySem.W.OpenLaw} {q : Program} {loose : List Str} {XP : (Str → Option Value) → Heap → Prop} {YP : World → Heap → Prop} {d : DefRec} {K : Params → PySem.W.Frag} (hn : l.most = some 63) (hdf : d.params.defaults = [])
    (hY : ∀ (w : World) (h : Heap), YP w h → (K w.params).In h)
    (F : ∀ (w : World) (mg : Str → Option Value) (fa : Addr) (h : Heap), (K w.params).In h → h.Ns mainGlobals mg → mg d.name = some (.ref fa) →
      ∃ fd : FuncData, (∀ (s : Shared) (u : Value), BindsTo s fd ⟨[u], []⟩ [("script", u)]) ∧ ∀ base : Heap, (K w.params).In base → base.Ns mainGlobals mg → GnOk l.prog w (K w.params) mg base CX0 31 fa fd ["script"] (Wd.spLaw (K w.params))) :
    PySem.W.WalkO q loose XP YP l.row.toRowW d [] (fun f vs => PySem.call f vs) :=
  Br.walk_ofG (n := 63) (k := 31) (x := "script") (sp := Wd.spLaw) hn (by decide) hdf ⟨rfl, by decide, by decide⟩ hY F fun _ _ a ns hl _ hS => ⟨a, ns, rfl, hS, hl, fun _ => rfl⟩
end Wd

set_option Elab.async false
set_option linter.all false
set_option pp.maxSteps 300
set_option pp.deepTerms false
open PySem PySem.W PyProof.Rows in
set_option maxRecDepth 100000 in
set_option maxHeartbeats 0 in
theorem PySem.Challenge.cw_pushalike_k50_papers_read_holds : PySem.Challenge.rw_pushalike_k50_papers_read.Holds := by
  w_on; o_law; k_head; (case hw => w_witness2)
  k_fill
  refine Wd.walk (l := PySem.Challenge.rw_pushalike_k50_papers_read) rfl rfl (fun w h Y => PySem.W.kIn_of Y) ?F
  case F =>
    intro w mg fa h KX G hmg
    refine' Wd.all_mk KX G hmg ?aIsInteger ?lIsInteger ?qIsInteger ?kIsInteger ?aAreIntegers ?lAreIntegers ?qAreIntegers ?kAreIntegers ?aIsLetter ?lIsLetter ?qIsLetter ?kIsLetter ?aIsName ?lIsName ?qIsName ?kIsName ?aIsEvent ?lIsEvent ?qIsEvent ?kIsEvent ?aIsRows ?lIsRows ?qIsRows ?kIsRows ?aIntegerOf ?lIntegerOf ?qIntegerOf ?kIntegerOf ?aIsWord ?lIsWord ?qIsWord ?kIsWord ?aIsItem ?lIsItem ?qIsItem ?kIsItem ?aHasStand ?lHasStand ?qHasStand ?kHasStand ?aItemText ?lItemText ?qItemText ?kItemText ?aStandOf ?lStandOf ?qStandOf ?kStandOf ?aItemOf ?lItemOf ?qItemOf ?kItemOf ?aLatest ?lLatest ?qLatest ?kLatest ?aReadPaper ?lReadPaper ?qReadPaper ?kReadPaper ?aReadStand ?lReadStand ?qReadStand ?kReadStand ?aReadTape ?lReadTape ?qReadTape ?kReadTape ?aEventOf ?lEventOf ?qEventOf ?kEventOf ?aReadRounds ?lReadRounds ?qReadRounds ?kReadRounds ?aStart ?lStart ?qStart ?kStart ?aThrow ?lThrow ?qThrow ?kThrow ?aPick ?lPick ?qPick ?kPick ?aLetters ?lLetters ?qLetters ?kLetters ?aWords ?lWords ?qWords ?kWords ?aName ?lName ?qName ?kName ?aLayout ?lLayout ?qLayout ?kLayout ?aValue ?lValue ?qValue ?kValue ?aEvents ?lEvents ?qEvents ?kEvents ?aTape ?lTape ?qTape ?kTape ?aAtom ?lAtom ?qAtom ?kAtom ?aShape ?lShape ?qShape ?kShape ?aDeep ?lDeep ?qDeep ?kDeep ?aNumber ?lNumber ?qNumber ?kNumber ?aStand ?lStand ?qStand ?kStand ?aStands ?lStands ?qStands ?kStands ?aPaper ?lPaper ?qPaper ?kPaper ?aText ?lText ?qText ?kText ?aLines ?lLines ?qLines ?kLines ?aWordV ?lWordV ?qWordV ?kWordV ?aLItem ?lLItem ?qLItem ?kLItem ?aLStand ?lLStand ?qLStand ?kLStand ?aLEvent ?lLEvent ?qLEvent ?kLEvent ?aDueL ?lDueL ?qDueL ?kDueL ?aDueR ?lDueR ?qDueR ?kDueR ?aDue ?lDue ?qDue ?kDue ?aSpLine ?lSpLine ?qSpLine ?kSpLine ?aSpoilt ?lSpoilt ?qSpoilt ?kSpoilt ?aRight ?lRight ?qRight ?kRight ?aCase ?lCase ?qCase ?kCase ?aLaw ?lLaw ?qLaw ?kLaw ?zlen ?zint ?zbool ?zstr ?ztuple ?zdict ?zall ?zrange ?zisinstance ?zabs ?zlist ?zsorted ?zmax ?zmin ?zrepr ?zenumerate ?cIE ?eIE ?cMN ?eMN ?cMC ?eMC ?cMD ?eMD ?cMG ?eMG ?cLS ?eLS ?cEM ?eEM ?cDG ?eDG ?cA ?eA ?aP ?aB ?tMPi ?lMPi ?qMPi ?kMPi ?yMPi ?x2 ?kP ?yP ?w1 ?w2 ?w3 ?w5 ?w6 ?w7 ?p1 ?p2 ?p3
    (case aIsInteger => k_is)
    (case lIsInteger => k_is)
    (case qIsInteger => k_is)
    (case kIsInteger => k_is)
    (case aAreIntegers => k_is)
    (case lAreIntegers => k_is)
    (case qAreIntegers => k_is)
    (case kAreIntegers => k_is)
    (case aIsLetter => k_is)
    (case lIsLetter => k_is)
    (case qIsLetter => k_is)
    (case kIsLetter => k_is)
    (case aIsName => k_is)
    (case lIsName => k_is)
    (case qIsName => k_is)
    (case kIsName => k_is)
    (case aIsEvent => k_is)
    (case lIsEvent => k_is)
    (case qIsEvent => k_is)
    (case kIsEvent => k_is)
    (case aIsRows => k_is)
    (case lIsRows => k_is)
    (case qIsRows => k_is)
    (case kIsRows => k_is)
    (case aIntegerOf => k_is)
    (case lIntegerOf => k_is)
    (case qIntegerOf => k_is)
    (case kIntegerOf => k_is)
    (case aIsWord => k_is)
    (case lIsWord => k_is)
    (case qIsWord => k_is)
    (case kIsWord => k_is)
    (case aIsItem => k_is)
    (case lIsItem => k_is)
    (case qIsItem => k_is)
    (case kIsItem => k_is)
    (case aHasStand => k_is)
    (case lHasStand => k_is)
    (case qHasStand => k_is)
    (case kHasStand => k_is)
    (case aItemText => k_is)
    (case lItemText => k_is)
    (case qItemText => k_is)
    (case kItemText => k_is)
    (case aStandOf => k_is)
    (case lStandOf => k_is)
    (case qStandOf => k_is)
    (case kStandOf => k_is)
    (case aItemOf => k_is)
    (case lItemOf => k_is)
    (case qItemOf => k_is)
    (case kItemOf => k_is)
    (case aLatest => k_is)
    (case lLatest => k_is)
    (case qLatest => k_is)
    (case kLatest => k_is)
    (case aReadPaper => k_is)
    (case lReadPaper => k_is)
    (case qReadPaper => k_is)
    (case kReadPaper => k_is)
    (case aReadStand => k_is)
    (case lReadStand => k_is)
    (case qReadStand => k_is)
    (case kReadStand => k_is)
    (case aReadTape => k_is)
    (case lReadTape => k_is)
    (case qReadTape => k_is)
    (case kReadTape => k_is)
    (case aEventOf => k_is)
    (case lEventOf => k_is)
    (case qEventOf => k_is)
    (case kEventOf => k_is)
    (case aReadRounds => k_is)
    (case lReadRounds => k_is)
    (case qReadRounds => k_is)
    (case kReadRounds => k_is)
    (case aStart => k_is)
    (case lStart => k_is)
    (case qStart => k_is)
    (case kStart => k_is)
    (case aThrow => k_is)
    (case lThrow => k_is)
    (case qThrow => k_is)
    (case kThrow => k_is)
    (case aPick => k_is)
    (case lPick => k_is)
    (case qPick => k_is)
    (case kPick => k_is)
    (case aLetters => k_is)
    (case lLetters => k_is)
    (case qLetters => k_is)
    (case kLetters => k_is)
    (case aWords => k_is)
    (case lWords => k_is)
    (case qWords => k_is)
    (case kWords => k_is)
    (case aName => k_is)
    (case lName => k_is)
    (case qName => k_is)
    (case kName => k_is)
    (case aLayout => k_is)
    (case lLayout => k_is)
    (case qLayout => k_is)
    (case kLayout => k_is)
    (case aValue => k_is)
    (case lValue => k_is)
    (case qValue => k_is)
    (case kValue => k_is)
    (case aEvents => k_is)
    (case lEvents => k_is)
    (case qEvents => k_is)
    (case kEvents => k_is)
    (case aTape => k_is)
    (case lTape => k_is)
    (case qTape => k_is)
    (case kTape => k_is)
    (case aAtom => k_is)
    (case lAtom => k_is)
    (case qAtom => k_is)
    (case kAtom => k_is)
    (case aShape => k_is)
    (case lShape => k_is)
    (case qShape => k_is)
    (case kShape => k_is)
    (case aDeep => k_is)
    (case lDeep => k_is)
    (case qDeep => k_is)
    (case kDeep => k_is)
    (case aNumber => k_is)
    (case lNumber => k_is)
    (case qNumber => k_is)
    (case kNumber => k_is)
    (case aStand => k_is)
    (case lStand => k_is)
    (case qStand => k_is)
    (case kStand => k_is)
    (case aStands => k_is)
    (case lStands => k_is)
    (case qStands => k_is)
    (case kStands => k_is)
    (case aPaper => k_is)
    (case lPaper => k_is)
    (case qPaper => k_is)
    (case kPaper => k_is)
    (case aText => k_is)
    (case lText => k_is)
    (case qText => k_is)
    (case kText => k_is)
    (case aLines => k_is)
    (case lLines => k_is)
    (case qLines => k_is)
    (case kLines => k_is)
    (case aWordV => k_is)
    (case lWordV => k_is)
    (case qWordV => k_is)
    (case kWordV => k_is)
    (case aLItem => k_is)
    (case lLItem => k_is)
    (case qLItem => k_is)
    (case kLItem => k_is)
    (case aLStand => k_is)
    (case lLStand => k_is)
    (case qLStand => k_is)
    (case kLStand => k_is)
    (case aLEvent => k_is)
    (case lLEvent => k_is)
    (case qLEvent => k_is)
    (case kLEvent => k_is)
    (case aDueL => k_is)
    (case lDueL => k_is)
    (case qDueL => k_is)
    (case kDueL => k_is)
    (case aDueR => k_is)
    (case lDueR => k_is)
    (case qDueR => k_is)
    (case kDueR => k_is)
    (case aDue => k_is)
    (case lDue => k_is)
    (case qDue => k_is)
    (case kDue => k_is)
    (case aSpLine => k_is)
    (case lSpLine => k_is)
    (case qSpLine => k_is)
    (case kSpLine => k_is)
    (case aSpoilt => k_is)
    (case lSpoilt => k_is)
    (case qSpoilt => k_is)
    (case kSpoilt => k_is)
    (case aRight => k_is)
    (case lRight => k_is)
    (case qRight => k_is)
    (case kRight => k_is)
    (case aCase => k_is)
    (case lCase => k_is)
    (case qCase => k_is)
    (case kCase => k_is)
    (case aLaw => k_is)
    (case lLaw => k_is)
    (case qLaw => k_is)
    (case kLaw => k_is)
    (case zlen => k_is)
    (case zint => k_is)
    (case zbool => k_is)
    (case zstr => k_is)
    (case ztuple => k_is)
    (case zdict => k_is)
    (case zall => k_is)
    (case zrange => k_is)
    (case zisinstance => k_is)
    (case zabs => k_is)
    (case zlist => k_is)
    (case zsorted => k_is)
    (case zmax => k_is)
    (case zmin => k_is)
    (case zrepr => k_is)
    (case zenumerate => k_is)
    (case cIE => k_is)
    (case eIE => first | rfl | decide +kernel)
    (case cMN => k_is)
    (case eMN => first | rfl | decide +kernel)
    (case cMC => k_is)
    (case eMC => first | rfl | decide +kernel)
    (case cMD => k_is)
    (case eMD => first | rfl | decide +kernel)
    (case cMG => k_is)
    (case eMG => first | rfl | decide +kernel)
    (case cLS => k_is)
    (case eLS => first | rfl | decide +kernel)
    (case cEM => k_is)
    (case eEM => first | rfl | decide +kernel)
    (case cDG => k_is)
    (case eDG => first | rfl | decide +kernel)
    (case cA => k_is)
    (case eA => first | rfl | kernel_rfl | k_is)
    (case aP => k_is)
    (case aB => k_is)
    (case tMPi => k_is)
    (case lMPi => k_is)
    (case qMPi => k_is)
    (case kMPi => k_is)
    (case yMPi => k_is)
    (case x2 => kernel_rfl)
    (case kP => k_is)
    (case yP => k_is)
    (case w1 => k_is)
    (case w2 => k_is)
    (case w3 => first | k_is | kernel_rfl)
    (case w5 => k_is)
    (case w6 => k_is)
    (case w7 => k_is)
    (case p1 => first | k_is | kernel_rfl)
    (case p2 => first | k_is | kernel_rfl)
    (case p3 => first | k_is | kernel_rfl)
