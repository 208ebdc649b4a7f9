import PyProof.Rows.All
import Wide.All
import OpenK.AllK
import HandS.Words
import Wide.FinOn
import HandS.ForMost
import HandS.Wide
import HandS.Walk
import HandS.IsInst
import HandS.WordsDict
import HandS.Sort
import HandS.Set
import HandS.SetFor
import HandS.Strs
import HandS.ExcInit
import HandS.Exc
import KE.KExcInit
import HandS.ExcValue
import KE.KExcIs
import KE.KOpsOwn
import HandS.ForExc
import HandS.ExcField
import HandS.More
import HandS.Conv
import HandS.HeadHook3
import HandS.OwnEq
import HandS.Defaults
import HandS.TryOnly
import HandS.ExcOwn
import HandS.MakeKw
import HandS.MakeKwOnly
import HandS.Property
import PySem.Challenge.RW_pushalike_k03_whole_tapes_joined
set_option Elab.async false
namespace Wd
open PySem L2
def topS (i : Nat) : Stmt := PySem.Challenge.pw_pushalike_k03_whole_tapes_joined.main.body.getD i (.Pass ⟨0, 0, 0, 0⟩)
abbrev sIsInteger : Stmt := topS 6
abbrev sIsBetween : Stmt := topS 7
abbrev sIsLetter : Stmt := topS 8
abbrev sIsName : Stmt := topS 9
abbrev sIsEvent : Stmt := topS 10
abbrev sIsRowOfEvents : Stmt := topS 19
abbrev sIsValueTable : Stmt := topS 20
abbrev sStart : Stmt := topS 22
abbrev sThrow : Stmt := topS 23
abbrev sPick : Stmt := topS 24
abbrev sLetters : Stmt := topS 25
abbrev sWords : Stmt := topS 26
abbrev sName : Stmt := topS 27
abbrev sLayout : Stmt := topS 28
abbrev sValue : Stmt := topS 29
abbrev sEvents : Stmt := topS 30
abbrev sTape : Stmt := topS 31
abbrev sSame : Stmt := topS 32
abbrev sLInt : Stmt := topS 33
abbrev sLater : Stmt := topS 34
abbrev sJoined : Stmt := topS 35
abbrev sIsTape : Stmt := topS 36
abbrev sDeed : Stmt := topS 37
abbrev sDue : Stmt := topS 38
abbrev sFits : Stmt := topS 39
abbrev sWays : Stmt := topS 40
abbrev sDoubled : Stmt := topS 41
abbrev sLaw : Stmt := topS 42
abbrev cUnknownIndex_init : Stmt := inClass (topS 15) 0
abbrev cInvalidNumber_init : Stmt := inClass (topS 16) 0
abbrev cTape_init : Stmt := inClass (topS 18) 0
abbrev cTape_events : Stmt := inClass (topS 18) 1
abbrev cTape_last : Stmt := inClass (topS 18) 2
abbrev cTape_len : Stmt := inClass (topS 18) 3
abbrev cTape_getitem : Stmt := inClass (topS 18) 4
abbrev cTape_iter : Stmt := inClass (topS 18) 5
abbrev cTape_eq : Stmt := inClass (topS 18) 6
abbrev cTape_str : Stmt := inClass (topS 18) 7
abbrev cTape_add : Stmt := inClass (topS 18) 8
abbrev cTape_rshift : Stmt := inClass (topS 18) 9
abbrev cTape_stamps : Stmt := inClass (topS 18) 10
abbrev cTape_upto : Stmt := inClass (topS 18) 11
abbrev cTape_changed : Stmt := inClass (topS 18) 12
abbrev cTape_fits : Stmt := inClass (topS 18) 13
end Wd

set_option Elab.async false
set_option linter.all false
set_option maxRecDepth 100000
set_option maxHeartbeats 4000000
namespace Wd
open PySem L2
/-- all but the objects in B is as it was -/
def Ob (B : List Addr) (H H' : Hp) : Prop := ∀ b o, b ∉ B → H b = some o → H' b = some o
theorem Ob.refl (B : List Addr) (H : Hp) : Ob B H H := fun _ _ _ h => h
theorem Ob.trans {B : List Addr} {H H1 H2 : Hp} (a : Ob B H H1) (b : Ob B H1 H2) : Ob B H H2 := fun c o n h => b c o n (a c o n h)
theorem Ob.same {B : List Addr} {H H1 H2 : Hp} (a : Ob B H H1) (b : Same H1 H2) : Ob B H H2 := fun c o n h => b c o (a c o n h)
theorem Ob.of {B : List Addr} {H H' : Hp} (a : Same H H') : Ob B H H' := fun b o _ h => a b o h
/-- values of a kind of their own: no data -/
structure Own (K : PySem.W.Frag) (T : List Addr → Hp → Addr → Prop) : Prop where
  mono : ∀ {B H H' a}, Ob B H H' → T B H a → T B H' a
  more : ∀ {B H a d}, (∃ kvs, H d = some (.dK kvs)) → T B H a → T (d :: B) H a
  tup : ∀ {B H a xs}, T B H a → H a ≠ some (.tup xs)
  lst : ∀ {B H a xs}, T B H a → H a ≠ some (.lst xs)
  dK : ∀ {B H a xs}, T B H a → H a ≠ some (.dK xs)
  ty : ∀ {B H a}, T B H a → ∃ t, TyX K H (.ref a) t ∧ ∀ n ∈ ["int", "bool", "str", "tuple", "list", "dict"], PySem.W.kitOne K t (.type n) = some false
/-- data over a heap: sizes of at most m, nested less than n deep; nothing of it is an object in B -/
inductive Dat (T : List Addr → Hp → Addr → Prop) (B : List Addr) (H : Hp) (m : Nat) : Nat → V → Prop where
  | non {n} : Dat T B H m (n + 1) .non
  | bl {n} (b : Bool) : Dat T B H m (n + 1) (.bl b)
  | int {n} (i : Int) : Dat T B H m (n + 1) (.int i)
  | str {n} (s : Str) (h : s.length ≤ m) (o : PyData.strOk s = true) : Dat T B H m (n + 1) (.str s)
  | own {n} {a : Addr} (t : T B H a) : Dat T B H m (n + 1) (.ref a)
  | tup {n} {a : Addr} {xs : List V} (ne : a ∉ B) (e : H a = some (.tup xs)) (l : xs.length ≤ m) (p : ∀ x ∈ xs, Dat T B H m n x) : Dat T B H m (n + 1) (.ref a)
  | lst {n} {a : Addr} {xs : List V} (ne : a ∉ B) (e : H a = some (.lst xs)) (l : xs.length ≤ m) (p : ∀ x ∈ xs, Dat T B H m n x) : Dat T B H m (n + 1) (.ref a)
  | dic {n} {a : Addr} {kvs : List (Key × V)} (ne : a ∉ B) (e : H a = some (.dK kvs)) (l : 20 * kvs.length ≤ m) (nd : (kvs.map (·.1)).Nodup)
      (k : ∀ p ∈ kvs, ∃ s : Str, p.1 = Sum.inr s ∧ s.length ≤ m ∧ PyData.strOk s = true) (p : ∀ p ∈ kvs, Dat T B H m n p.2) : Dat T B H m (n + 1) (.ref a)
section
variable {K : PySem.W.Frag} {T : List Addr → Hp → Addr → Prop} {B : List Addr} {H H' : Hp} {m m' n n' : Nat} {v : V}
theorem Dat.mono (O : Own K T) (sb : Ob B H H') (d : Dat T B H m n v) : Dat T B H' m n v := by
  induction d with
  | non => exact .non
  | bl b => exact .bl b
  | int i => exact .int i
  | str s h o => exact .str s h o
  | own t => exact .own (O.mono sb t)
  | tup ne e l p ih => exact .tup ne (sb _ _ ne e) l ih
  | lst ne e l p ih => exact .lst ne (sb _ _ ne e) l ih
  | dic ne e l nd k p ih => exact .dic ne (sb _ _ ne e) l nd k ih
theorem Dat.up (hm : m ≤ m') (d : Dat T B H m n v) : ∀ {n'}, n ≤ n' → Dat T B H m' n' v := by
  induction d with
  | non => intro n' h; obtain ⟨q, rfl⟩ := Nat.exists_eq_succ_of_ne_zero (n := n') (by omega); exact .non
  | bl b => intro n' h; obtain ⟨q, rfl⟩ := Nat.exists_eq_succ_of_ne_zero (n := n') (by omega); exact .bl b
  | int i => intro n' h; obtain ⟨q, rfl⟩ := Nat.exists_eq_succ_of_ne_zero (n := n') (by omega); exact .int i
  | str s z o => intro n' h; obtain ⟨q, rfl⟩ := Nat.exists_eq_succ_of_ne_zero (n := n') (by omega); exact .str s (by omega) o
  | own t => intro n' h; obtain ⟨q, rfl⟩ := Nat.exists_eq_succ_of_ne_zero (n := n') (by omega); exact .own t
  | tup ne e l p ih => intro n' h; obtain ⟨q, rfl⟩ := Nat.exists_eq_succ_of_ne_zero (n := n') (by omega); exact .tup ne e (by omega) fun x hx => ih x hx (by omega)
  | lst ne e l p ih => intro n' h; obtain ⟨q, rfl⟩ := Nat.exists_eq_succ_of_ne_zero (n := n') (by omega); exact .lst ne e (by omega) fun x hx => ih x hx (by omega)
  | dic ne e l nd k p ih =>
    intro n' h; obtain ⟨q, rfl⟩ := Nat.exists_eq_succ_of_ne_zero (n := n') (by omega)
    exact .dic ne e (by omega) nd (fun p hp => let ⟨s, h1, h2, h3⟩ := k p hp; ⟨s, h1, by omega, h3⟩) fun x hx => ih x hx (by omega)
theorem Dat.okS {s : Str} (d : Dat T B H m n (.str s)) : PyData.strOk s = true := by
  cases d with
  | str _ _ o => exact o
theorem ok_sign {z : Str} (h : PyData.strOk z = true) {i c : Nat} (e : z.cps[i]? = some c) : PyData.strOk ⟨#[c]⟩ = true := by
  unfold PyData.strOk at h ⊢
  rw [Array.all_eq_true'] at h
  have := h c (Array.mem_of_getElem? e)
  simpa using this
/-- what does not reach the dict at d -/
theorem Dat.past (O : Own K T) {d : Addr} (hd : ∃ kvs, H d = some (.dK kvs)) (x : Dat T B H m n v) : ¬ Dat T B H m n (.ref d) → Dat T (d :: B) H m n v := by
  induction x with
  | non => exact fun _ => .non
  | bl b => exact fun _ => .bl b
  | int i => exact fun _ => .int i
  | str s h o => exact fun _ => .str s h o
  | own t => exact fun _ => .own (O.more hd t)
  | @tup k a xs ne e l p ih =>
    intro no
    have nd : a ≠ d := fun z => no (z ▸ .tup ne e l p)
    exact .tup (by simp [nd, ne]) e l fun x hx => ih x hx fun q => no (q.up (Nat.le_refl _) (Nat.le_succ _))
  | @lst k a xs ne e l p ih =>
    intro no
    have nd : a ≠ d := fun z => no (z ▸ .lst ne e l p)
    exact .lst (by simp [nd, ne]) e l fun x hx => ih x hx fun q => no (q.up (Nat.le_refl _) (Nat.le_succ _))
  | @dic k a xs ne e l nd ks p ih =>
    intro no
    have nn : a ≠ d := fun z => no (z ▸ .dic ne e l nd ks p)
    exact .dic (by simp [nn, ne]) e l nd ks fun x hx => ih x hx fun q => no (q.up (Nat.le_refl _) (Nat.le_succ _))
/-- the values of a dict do not reach it -/
theorem Dat.kids (O : Own K T) {d : Addr} {kvs : List (Key × V)} (hd : H d = some (.dK kvs)) : ∀ n, Dat T B H m (n + 1) (.ref d) → ∀ p ∈ kvs, Dat T (d :: B) H m n p.2
  | n, x => by
    by_cases h : Dat T B H m n (.ref d)
    · cases n with
      | zero => cases h
      | succ k => exact fun p hp => (Dat.kids O hd k h p hp).up (Nat.le_refl _) (Nat.le_succ _)
    · intro p hp
      cases x with
      | own t => exact absurd hd (O.dK t)
      | tup ne e l q => rw [hd] at e; cases e
      | lst ne e l q => rw [hd] at e; cases e
      | dic ne e l nd ks q =>
        rw [hd] at e
        cases e
        exact (q p hp).past O ⟨_, hd⟩ h
/-- isinstance(v, N) is answered with c -/
def Isi (K : PySem.W.Frag) (H : Hp) (v : V) (N : String) (c : Bool) : Prop := ∃ t, TyX K H v t ∧ PySem.W.kitOne K t (.type N) = some c
theorem isi_ty {a b : String} {r : Bool} (x : TyX K H v (.type a)) (h : kitB a b = some r) : Isi K H v b r := ⟨_, x, kit_ty h⟩
theorem Own.isi (O : Own K T) {a : Addr} (t : T B H a) {N : String} (h : N ∈ ["int", "bool", "str", "tuple", "list", "dict"]) : Isi K H (.ref a) N false :=
  let ⟨u, x, k⟩ := O.ty t; ⟨u, x, k N h⟩
theorem Dat.isTup (O : Own K T) (sb : Ob B H H') (d : Dat T B H m n v) :
    (∃ a xs k, v = .ref a ∧ a ∉ B ∧ H a = some (.tup xs) ∧ H' a = some (.tup xs) ∧ xs.length ≤ m ∧ (∀ x ∈ xs, Dat T B H m k x) ∧ Isi K H' v "tuple" true) ∨
      ((∀ a xs, v = .ref a → H a ≠ some (.tup xs)) ∧ Isi K H' v "tuple" false) := by
  cases d with
  | non => exact .inr ⟨fun a xs h => (nomatch h), isi_ty (.base .non) (by decide)⟩
  | bl b => exact .inr ⟨fun a xs h => (nomatch h), isi_ty (.base (.bl b)) (by decide)⟩
  | int b => exact .inr ⟨fun a xs h => (nomatch h), isi_ty (.base (.int b)) (by decide)⟩
  | str b => exact .inr ⟨fun a xs h => (nomatch h), isi_ty (.base (.str b)) (by decide)⟩
  | own t => exact .inr ⟨fun a xs h => by cases h; exact O.tup t, O.isi (O.mono sb t) (by decide)⟩
  | tup ne e l p => exact .inl ⟨_, _, _, rfl, ne, e, sb _ _ ne e, l, p, isi_ty (.base (.tup (sb _ _ ne e))) (by decide)⟩
  | lst ne e l p => exact .inr ⟨fun a xs h q => (by cases h; rw [e] at q; cases q), isi_ty (.base (.lst (sb _ _ ne e))) (by decide)⟩
  | dic ne e l nd k p => exact .inr ⟨fun a xs h q => (by cases h; rw [e] at q; cases q), isi_ty (.base (.dK (sb _ _ ne e))) (by decide)⟩
theorem Dat.isLst (O : Own K T) (sb : Ob B H H') (d : Dat T B H m n v) :
    (∃ a xs k, v = .ref a ∧ a ∉ B ∧ n = k + 1 ∧ H a = some (.lst xs) ∧ H' a = some (.lst xs) ∧ xs.length ≤ m ∧ (∀ x ∈ xs, Dat T B H m k x) ∧ Isi K H' v "list" true) ∨
      ((∀ a xs, v = .ref a → H a ≠ some (.lst xs)) ∧ Isi K H' v "list" false) := by
  cases d with
  | non => exact .inr ⟨fun a xs h => (nomatch h), isi_ty (.base .non) (by decide)⟩
  | bl b => exact .inr ⟨fun a xs h => (nomatch h), isi_ty (.base (.bl b)) (by decide)⟩
  | int b => exact .inr ⟨fun a xs h => (nomatch h), isi_ty (.base (.int b)) (by decide)⟩
  | str b => exact .inr ⟨fun a xs h => (nomatch h), isi_ty (.base (.str b)) (by decide)⟩
  | own t => exact .inr ⟨fun a xs h => by cases h; exact O.lst t, O.isi (O.mono sb t) (by decide)⟩
  | lst ne e l p => exact .inl ⟨_, _, _, rfl, ne, rfl, e, sb _ _ ne e, l, p, isi_ty (.base (.lst (sb _ _ ne e))) (by decide)⟩
  | tup ne e l p => exact .inr ⟨fun a xs h q => (by cases h; rw [e] at q; cases q), isi_ty (.base (.tup (sb _ _ ne e))) (by decide)⟩
  | dic ne e l nd k p => exact .inr ⟨fun a xs h q => (by cases h; rw [e] at q; cases q), isi_ty (.base (.dK (sb _ _ ne e))) (by decide)⟩
theorem Dat.isDic (O : Own K T) (sb : Ob B H H') (d : Dat T B H m n v) :
    (∃ a kvs k, v = .ref a ∧ a ∉ B ∧ n = k + 1 ∧ H a = some (.dK kvs) ∧ H' a = some (.dK kvs) ∧ 20 * kvs.length ≤ m ∧ (kvs.map (·.1)).Nodup ∧ (∀ p ∈ kvs, ∃ s : Str, p.1 = Sum.inr s ∧ s.length ≤ m ∧ PyData.strOk s = true) ∧ (∀ p ∈ kvs, Dat T B H m k p.2) ∧ Isi K H' v "dict" true) ∨
      ((∀ a xs, v = .ref a → H a ≠ some (.dK xs)) ∧ Isi K H' v "dict" false) := by
  cases d with
  | non => exact .inr ⟨fun a xs h => (nomatch h), isi_ty (.base .non) (by decide)⟩
  | bl b => exact .inr ⟨fun a xs h => (nomatch h), isi_ty (.base (.bl b)) (by decide)⟩
  | int b => exact .inr ⟨fun a xs h => (nomatch h), isi_ty (.base (.int b)) (by decide)⟩
  | str b => exact .inr ⟨fun a xs h => (nomatch h), isi_ty (.base (.str b)) (by decide)⟩
  | own t => exact .inr ⟨fun a xs h => by cases h; exact O.dK t, O.isi (O.mono sb t) (by decide)⟩
  | lst ne e l p => exact .inr ⟨fun a xs h q => (by cases h; rw [e] at q; cases q), isi_ty (.base (.lst (sb _ _ ne e))) (by decide)⟩
  | tup ne e l p => exact .inr ⟨fun a xs h q => (by cases h; rw [e] at q; cases q), isi_ty (.base (.tup (sb _ _ ne e))) (by decide)⟩
  | dic ne e l nd k p => exact .inl ⟨_, _, _, rfl, ne, rfl, e, sb _ _ ne e, l, nd, k, p, isi_ty (.base (.dK (sb _ _ ne e))) (by decide)⟩
theorem Dat.isStr (O : Own K T) (sb : Ob B H H') (d : Dat T B H m n v) :
    (∃ s, v = .str s ∧ s.length ≤ m ∧ Isi K H' v "str" true) ∨ ((∀ s, v ≠ .str s) ∧ Isi K H' v "str" false) := by
  cases d with
  | non => exact .inr ⟨fun a h => (nomatch h), isi_ty (.base .non) (by decide)⟩
  | bl b => exact .inr ⟨fun a h => (nomatch h), isi_ty (.base (.bl b)) (by decide)⟩
  | int b => exact .inr ⟨fun a h => (nomatch h), isi_ty (.base (.int b)) (by decide)⟩
  | str b h => exact .inl ⟨_, rfl, h, isi_ty (.base (.str b)) (by decide)⟩
  | own t => exact .inr ⟨fun a h => (nomatch h), O.isi (O.mono sb t) (by decide)⟩
  | lst ne e l p => exact .inr ⟨fun a h => (nomatch h), isi_ty (.base (.lst (sb _ _ ne e))) (by decide)⟩
  | tup ne e l p => exact .inr ⟨fun a h => (nomatch h), isi_ty (.base (.tup (sb _ _ ne e))) (by decide)⟩
  | dic ne e l nd k p => exact .inr ⟨fun a h => (nomatch h), isi_ty (.base (.dK (sb _ _ ne e))) (by decide)⟩
theorem Dat.isInt (O : Own K T) (sb : Ob B H H') (d : Dat T B H m n v) :
    (∃ i, v = .int i ∧ Isi K H' v "int" true ∧ Isi K H' v "bool" false) ∨ ((∀ i, v ≠ .int i) ∧ ((Isi K H' v "int" true ∧ Isi K H' v "bool" true) ∨ Isi K H' v "int" false)) := by
  cases d with
  | non => exact .inr ⟨fun a h => (nomatch h), .inr (isi_ty (.base .non) (by decide))⟩
  | bl b => exact .inr ⟨fun a h => (nomatch h), .inl ⟨isi_ty (.base (.bl b)) (by decide), isi_ty (.base (.bl b)) (by decide)⟩⟩
  | int b => exact .inl ⟨_, rfl, isi_ty (.base (.int b)) (by decide), isi_ty (.base (.int b)) (by decide)⟩
  | str b => exact .inr ⟨fun a h => (nomatch h), .inr (isi_ty (.base (.str b)) (by decide))⟩
  | own t => exact .inr ⟨fun a h => (nomatch h), .inr (O.isi (O.mono sb t) (by decide))⟩
  | lst ne e l p => exact .inr ⟨fun a h => (nomatch h), .inr (isi_ty (.base (.lst (sb _ _ ne e))) (by decide))⟩
  | tup ne e l p => exact .inr ⟨fun a h => (nomatch h), .inr (isi_ty (.base (.tup (sb _ _ ne e))) (by decide))⟩
  | dic ne e l nd k p => exact .inr ⟨fun a h => (nomatch h), .inr (isi_ty (.base (.dK (sb _ _ ne e))) (by decide))⟩
/-- isinstance(x, N), answered -/
def rIsN (K : PySem.W.Frag) : List V → Hp → VK → Prop := fun xs H Q => ∃ (x : V) (N : String) (c : Bool), xs = [x, .ty N] ∧ Isi K H x N c ∧ Q (.bl c) H
theorem call_isN {X : Cx} : CallR X (.builtin "isinstance") (rIsN X.K) := fun pins s σ H vs us Q I r h => by
  obtain ⟨x, N, c, e, ⟨t, ht, k⟩, q⟩ := h
  exact call_isi pins s σ H vs us Q I r ⟨x, _, t, _, c, e, .ty N, ht, k, q⟩
end
/-! ### what the words mean -/
abbrev ten60 : Int := 10 ^ 60
def IsInt (v : V) : Prop := ∃ i, v = .int i ∧ -ten60 < i ∧ i < ten60
def low (c : Nat) : Prop := 97 ≤ c ∧ c ≤ 122
def IsLet (v : V) : Prop := ∃ c : Nat, v = .str ⟨#[c]⟩ ∧ low c
def words : List Str := ["after", "again", "at", "busy", "changes", "else", "every", "first", "fold", "it", "late", "never", "one",
  "only", "pairs", "pick", "quiet", "source", "spaced", "switch", "then", "told", "until"].map Str.ofString
def NameS (s : Str) : Prop := 1 ≤ s.length ∧ s.length ≤ 8 ∧ (∀ c ∈ s.cps.toList, low c) ∧ s ∉ words
def IsName (v : V) : Prop := ∃ s, v = .str s ∧ NameS s
def letV (cs : List Nat) : List V := cs.map fun c => V.str ⟨#[c]⟩
def Letters (cs : List Nat) : Prop := cs ≠ [] ∧ (∀ c ∈ cs, low c) ∧ cs.Pairwise (· < ·)
def IsLetters (H : Hp) (v : V) : Prop := ∃ a cs, v = .ref a ∧ H a = some (.tup (letV cs)) ∧ Letters cs
def IsSrcL (H : Hp) (v : V) : Prop := ∃ a cs, v = .ref a ∧ H a = some (.tup (letV cs)) ∧ Letters cs ∧ cs.length ≤ 4
def IsLayout (H : Hp) (v : V) : Prop := ∃ a kvs, v = .ref a ∧ H a = some (.dK kvs) ∧ 1 ≤ kvs.length ∧ kvs.length ≤ 4 ∧ ∀ p ∈ kvs, IsName (kV p.1) ∧ IsSrcL H p.2
def IsEvent (H : Hp) (v : V) : Prop := ∃ a t u l w, v = .ref a ∧ H a = some (.tup [t, u, l, w]) ∧ (∃ i, t = .int i ∧ 0 ≤ i ∧ i < ten60) ∧ IsName u ∧ IsLet l ∧ IsInt w
def IsVals (H : Hp) (v : V) : Prop := ∃ a xs, v = .ref a ∧ H a = some (.tup xs) ∧ xs.length ≤ 4 ∧ ∀ x ∈ xs, IsInt x
def IsOutput (H : Hp) (v : V) : Prop := ∃ a l w, v = .ref a ∧ H a = some (.tup [l, w]) ∧ IsLet l ∧ IsVals H w
def vEnd : V := .str (Str.ofString "end")
def IsList (H : Hp) (v : V) : Prop := ∃ a xs, v = .ref a ∧ H a = some (.tup xs) ∧ ∃ ys, (xs = ys ∨ xs = ys ++ [vEnd]) ∧ ∀ y ∈ ys, IsOutput H y
/-- the promise of a function is_..: it says whether P holds -/
def spIs (T : List Addr → Hp → Addr → Prop) (P : Hp → V → Prop) : Sp := fun vs H Q _ => ∃ (v : V) (B : List Addr) (H0 : Hp) (m n : Nat), vs = [v] ∧ Ob B H0 H ∧ m ≤ 1000 ∧ Dat T B H0 m n v ∧ ∀ H' b, Same H H' → (b = true ↔ P H0 v) → Q (.bl b) H'
end Wd

set_option Elab.async false
set_option linter.all false
set_option maxRecDepth 100000
set_option maxHeartbeats 4000000
namespace Wd
open PySem L2
theorem nay {p : Prop} (h : ¬ p) : (false = true ↔ p) := ⟨fun q => Bool.noConfusion q, fun q => (h q).elim⟩
theorem yea {p : Prop} (h : p) : (true = true ↔ p) := ⟨fun _ => h, fun _ => rfl⟩
theorem pe_gcon {X : Cx} {x : Str} {v : V} {pos : Pos} (hg : Gl X x) (h : ∃ u, X.mg x = some u ∧ RelV v u) (hd : (x == ("__debug__" : Str)) = false := by decide) : PE X (.Name x pos) (tC v) := by
  obtain ⟨u, hm, r⟩ := h
  exact pe_glob hg hm r hd
/-- isinstance(e, N) -/
def tIsi (K : PySem.W.Frag) (N : String) (te : TE) : TE := fun σ H Q => te σ H fun x H1 => ∃ c, Isi K H1 x N c ∧ Q (.bl c) H1
theorem pe_isi {X : Cx} {e : Expr} {te : TE} {N : String} {x : Str} {p q pos : Pos} (he : PE X e te) (hi : X.mg "isinstance" = none) (hm : X.mg x = none) (gi : Gl X "isinstance" := by rfl) (gx : Gl X x := by rfl)
    (hv : bootBuiltins x = some (.type N) := by decide +kernel) (hn : x ≠ "__name__" := by decide) (hd : (x == ("__debug__" : Str)) = false := by decide)
    (h1 : starEach [e, .Name x q] X.env = (false, eval e X.env) :: starEach [.Name x q] X.env := by rfl) (h2 : (backTo pos (starEach [.Name x q] X.env)).any (·.1) = false := by rfl) :
    PE X (.Call (.Name "isinstance" p) [e, .Name x q] [] pos) (tIsi X.K N te) := by
  have A := pa_cons (X := X) he (pa_cons (pe_bltn (v := .ty N) gx hm hv rfl hn hd) pa_nil (by rfl)) h1
  refine ⟨fun pins s σ H Q I h => ?_⟩
  refine wpAny_Call_Name_kw (ld_blt I gi hi (show bootBuiltins "isinstance" = some (.builtin "isinstance") by decide +kernel) ?_ (by decide) (by decide))
  refine PyProof.Rows.callWith_builtin1 (thn (A.run pos pins s σ H (fun vs H1 => match vs with
    | [x, .ty M] => ∃ c, Isi X.K H1 x M c ∧ Q (.bl c) H1
    | _ => False) I h) fun us s1 ⟨vs, H1, I1, r1, q1⟩ => ?_) h1 h2
  dsimp only at q1
  split at q1
  · obtain ⟨c, hc, q⟩ := q1
    exact call_isN pins s1 σ H1 _ us Q I1 r1 ⟨_, _, c, rfl, hc, q⟩
  · exact q1.elim
/-- all([..]): the bools of a walk -/
theorem lc_bools {J : It} {n : Nat} {G : Hp → Prop} {Y : Nat → Hp → V → Hp → Prop} (w : Walk J n G Y) (Pi : Nat → Prop) {g : TG} {te : TE} {vs : List Nat} {σ : St} {H1 : Hp} {D : Addr} {Qd : Hp → Prop} (hD : H1 D = none) (hn : n ≤ 1000)
    (hG : ∀ H, Same H1 H → G H)
    (hs : ∀ i x H H' (k : V → Hp → Prop), i < n → Same H1 H → Y i H x H' → (∀ b H4, Same H H4 → (b = true ↔ Pi i) → k (.bl b) H4) → g x (wipe σ vs) H' fun σ2 H2 => wipe σ2 vs = wipe σ vs ∧ te σ2 H2 k)
    (hd : ∀ H (bs : List Bool), Same H1 H → H D = some (.lst (bs.map V.bl)) → (bs.all id = true ↔ ∀ i, i < n → Pi i) → Qd H) :
    ∃ W : Nat → Nat → Hp → Prop, (∃ m, W 0 m (upd H1 D (.lst []))) ∧ ∀ i m H, W i m H →
      (J.stop i H ∧ Qd H) ∨ (J.go i H ∧ ∃ Nx : Hp → Prop, (∀ H', Nx H' → ∃ m', m' < m ∧ W (i + 1) m' H') ∧ ∀ x H', J.yld i H x H' → g x (wipe σ vs) H' fun σ2 H2 => wipe σ2 vs = wipe σ vs ∧ tYes σ2 H2 fun b H3 =>
        if b = true then te σ2 H3 fun y H4 => ∃ acc, H4 D = some (.lst acc) ∧ acc.length < sizeLine ∧ Nx (upd H4 D (.lst (acc ++ [y]))) else Nx H3) := by
  refine lc_it w (fun i H => Same H1 H ∧ ∃ bs : List Bool, bs.length = i ∧ (bs.all id = true ↔ ∀ j, j < i → Pi j) ∧ H D = some (.lst (bs.map V.bl))) ⟨fun b o e => by rw [upd_ne (ne_of_none e hD)]; exact e, [], rfl, by simp, upd_same⟩
    (fun i H _ ⟨s, _⟩ => hG H s) ?_ (fun H ⟨s, bs, l, e, d⟩ => hd H bs s d e)
  rintro i x H H' hi ⟨s, bs, l, e, d⟩ y
  have z := hs i x H H' (fun y H4 => ∃ acc, H4 D = some (.lst acc) ∧ acc.length < sizeLine ∧ (Same H1 (upd H4 D (.lst (acc ++ [y]))) ∧ ∃ bs : List Bool, bs.length = i + 1 ∧ (bs.all id = true ↔ ∀ j, j < i + 1 → Pi j) ∧ (upd H4 D (.lst (acc ++ [y]))) D = some (.lst (bs.map V.bl)))) hi s y ?_
  · exact z
  · intro b H4 s4 hb
    refine ⟨_, s4 _ _ d, ?_, fun c o q => ?_, bs ++ [b], by simp [l], ?_, ?_⟩
    · rw [List.length_map, l]
      exact small1000 (by omega)
    · rw [upd_ne (ne_of_none q hD)]
      exact s4 _ _ (s _ _ q)
    · rw [List.all_append, Bool.and_eq_true, e]
      simp only [List.all_cons, List.all_nil, Bool.and_true, id_eq, hb]
      constructor
      · rintro ⟨h1, h2⟩ j hj
        by_cases q : j = i
        · exact q ▸ h2
        · exact h1 j (by omega)
      · exact fun h => ⟨fun j hj => h j (by omega), h i (by omega)⟩
    · rw [upd_same, List.map_append]
      rfl
end Wd

set_option Elab.async false
set_option linter.all false
set_option maxRecDepth 100000
set_option maxHeartbeats 4000000
/-! Sets of texts, with the list of their members: made of a list or a tuple, added to, sorted. -/
namespace TS
open PySem PySem.Spec PyProof.Rows L2
/-- one entry holds the text k -/
def Holds (w : World) (e : Int × Value) (k : Str) : Prop := ∃ tk, e.2 = Value.str k tk ∧ e.1 = hashStr w k
/-- at a stands a set of just the texts ks (no order is told) -/
def SetT (w : World) (h : Heap) (a : Addr) (ks : List Str) : Prop :=
  ∃ o es ep t ms, h.get? a = some o ∧ o.ExactSet ∧ o.data = .set es ep t ∧ Paired (Holds w) es.toList ms ∧ ms.Nodup ∧ ms.Perm ks ∧ es.size < scanBound ∧
    t.fits es.size = true ∧ Ris t.place.toList ∧ (w.params.followText "set-order" = true ∨ t.led = true)
theorem paired_perm {α β : Type} {F : α → β → Prop} {l l' : List α} (p : l'.Perm l) : ∀ {m : List β}, Paired F l m → ∃ m', m'.Perm m ∧ Paired F l' m' := by
  induction p with
  | nil =>
    intro m h
    exact ⟨m, List.Perm.refl _, h⟩
  | cons x _ ih =>
    intro m h
    cases h with
    | cons r t =>
      obtain ⟨m', q, z⟩ := ih t
      exact ⟨_ :: m', q.cons _, .cons r z⟩
  | swap x y l =>
    intro m h
    cases h with
    | cons r t =>
      cases t with
      | cons r2 t2 => exact ⟨_, List.Perm.swap _ _ _, .cons r2 (.cons r t2)⟩
  | trans _ _ ih1 ih2 =>
    intro m h
    obtain ⟨m1, q1, z1⟩ := ih2 h
    obtain ⟨m2, q2, z2⟩ := ih1 z1
    exact ⟨m2, q2.trans q1, z2⟩
section
variable {P : Program} {w : World}
theorem is_iff {e : Int × Value} {m : Str} (h : Holds w e m) (k : Str) : (strKind P w).is k e.2 = true ↔ m = k := by
  obtain ⟨tk, h1, _⟩ := h
  rw [h1]
  show ((m == k) = true) ↔ m = k
  exact beq_iff_eq
theorem elems : ∀ {l : List (Int × Value)} {ms : List Str}, Paired (Holds w) l ms → ElemsOf (strKind P w) l
  | _, _, .nil => fun e he => by cases he
  | _, _, .cons r t => fun e he => by
    rcases List.mem_cons.mp he with z | z
    · subst z
      obtain ⟨tk, h1, h2⟩ := r
      exact ⟨⟨_, by rw [h1]; exact beq_iff_eq.mpr rfl, h2⟩, by rw [h1] <;> rfl⟩
    · exact elems t e z
theorem mem_of : ∀ {l : List (Int × Value)} {ms : List Str}, Paired (Holds w) l ms → ∀ k, k ∈ ms ↔ ∃ e ∈ l, (strKind P w).is k e.2 = true
  | _, _, .nil, k => by simp
  | _, _, .cons r t, k => by
    rw [List.mem_cons, mem_of t k]
    constructor
    · rintro (z | ⟨e, he, q⟩)
      · exact ⟨_, List.mem_cons_self, (is_iff r k).2 z.symm⟩
      · exact ⟨e, List.mem_cons_of_mem _ he, q⟩
    · rintro ⟨e, he, q⟩
      rcases List.mem_cons.mp he with z | z
      · subst z
        exact .inl ((is_iff r k).1 q).symm
      · exact .inr ⟨e, z, q⟩
theorem strs_of : ∀ {l : List (Int × Value)} {ms : List Str}, Paired (Holds w) l ms → StrsAre (l.map (·.2)) ms
  | _, _, .nil => .nil
  | _, _, .cons (a := e) r t => by
    obtain ⟨tk, h1, _⟩ := r
    show StrsAre (e.2 :: _) _
    rw [h1]
    exact .cons _ _ (strs_of t)
theorem strs_perm {vs ws : List Value} (p : ws.Perm vs) : ∀ {ss : List Str}, StrsAre vs ss → ∃ ss', ss'.Perm ss ∧ StrsAre ws ss' := by
  induction p with
  | nil =>
    intro ss h
    exact ⟨ss, List.Perm.refl _, h⟩
  | cons x _ ih =>
    intro ss h
    cases h with
    | cons y t h =>
      obtain ⟨m, q, z⟩ := ih h
      exact ⟨_ :: m, q.cons _, .cons _ _ z⟩
  | swap x y l =>
    intro ss h
    cases h with
    | cons y t h =>
      cases h with
      | cons y2 t2 h => exact ⟨_, List.Perm.swap _ _ _, .cons _ _ (.cons _ _ h)⟩
  | trans _ _ ih1 ih2 =>
    intro ss h
    obtain ⟨m1, q1, z1⟩ := ih2 h
    obtain ⟨m2, q2, z2⟩ := ih1 z1
    exact ⟨m2, q2.trans q1, z2⟩
end
section
variable {P : Program} {w : World} {A : Around} {E : Value → Shared → Prop} {s : Shared} {a : Addr} {ks : List Str}
theorem SetT.at {h h' : Heap} (R : SetT w h a ks) (k : ∀ o, h.get? a = some o → h'.get? a = some o) : SetT w h' a ks := by
  obtain ⟨o, es, ep, t, ms, ho, rest⟩ := R
  exact ⟨o, es, ep, t, ms, k o ho, rest⟩
theorem SetT.perm {h : Heap} {ks' : List Str} (R : SetT w h a ks) (p : ks.Perm ks') : SetT w h a ks' := by
  obtain ⟨o, es, ep, t, ms, ho, hx, hd, hp, nd, pm, rest⟩ := R
  exact ⟨o, es, ep, t, ms, ho, hx, hd, hp, nd, pm.trans p, rest⟩
/-- laid, and laid anew where it is too full -/
theorem laid {g : Bool → Sem Unit} (hg : ∀ (b : Bool) (s1 : Shared) (Q' : Unit → Shared → Prop), Q' () s1 → wpAny (model P w) A (g b) Q' E s1)
    {o : Obj} {es : Array (Int × Value)} {ep : Nat} {t : SetTable} (ho : s.heap.get? a = some o) (hx : o.ExactSet) (hd : o.data = .set es ep t)
    {fs : Array (Int × Value)} {u : SetTable} {ms : List Str} (hp : Paired (Holds w) fs.toList ms) (nd : ms.Nodup) (pm : ms.Perm ks) (small : fs.size < scanBound) (fit : u.fits fs.size = true)
    (ris : Ris u.place.toList) (led : w.params.followText "set-order" = true ∨ u.led = true) {dummy : Bool} {R : Option Bool → Shared → Prop}
    (hR : ∀ h', Heap.SameBut a s.heap h' → SetT w h' a ks → R (some true) { s with heap := h' }) :
    wpAny (model P w) A (do
        storeSet a fs u
        if (!dummy && u.tooFull) = true then do
            g (relayAll u fs (SetTable.grown fs.size)).2.2
            storeSet a (relayAll u fs (SetTable.grown fs.size)).1 (relayAll u fs (SetTable.grown fs.size)).2.1
            pure (some true)
          else pure (some true)) R E s := by
  refine wpAny_bind (wpAny_storeSet_of ho hd ?_ (fits_of_scanBound small))
  have now := store_at (es' := fs) (t' := u) ho hd
  have but := Heap.SameBut.update s.heap a (Obj.putSet fs u)
  split
  · have p2 := relayAll_perm u fs (SetTable.grown fs.size)
    have f2 := relayAll_fits u fs (SetTable.grown fs.size)
    have r2 := relayAll_ris u fs (SetTable.grown fs.size)
    have l2 := relayAll_led u fs (SetTable.grown fs.size)
    generalize relayAll u fs (SetTable.grown fs.size) = Z at p2 f2 r2 l2 ⊢
    obtain ⟨gs, v, gave⟩ := Z
    dsimp only at p2 f2 r2 l2 ⊢
    have size : gs.size = fs.size := by rw [← Array.length_toList, p2.length_eq, Array.length_toList]
    obtain ⟨ms', q1, q2⟩ := paired_perm p2 hp
    refine wpAny_bind (hg _ _ _ (wpAny_bind (wpAny_storeSet_of now rfl ?_ (fits_of_scanBound (by rw [size]; exact small)))))
    have again := store_at (es' := gs) (t' := v) now rfl
    refine wpAny_pure (hR _ (but.trans (Heap.SameBut.update _ a _)) ?_)
    exact ⟨_, gs, _, v, ms', again, hx, rfl, q2, q1.nodup_iff.mpr nd, q1.trans pm, by rw [size]; exact small, f2, r2, led.imp id fun z => by rw [l2]; exact z⟩
  · exact wpAny_pure (hR _ but ⟨_, fs, _, u, ms, now, hx, rfl, hp, nd, pm, small, fit, ris, led⟩)
/-- one text added -/
theorem added {k : Str} {tk : Tok} {Q : Bool → Shared → Prop} (R : SetT w s.heap a ks) (room : ks.length + 1 < scanBound)
    (old : k ∈ ks → ∀ h', Heap.SameBut a s.heap h' → SetT w h' a ks → Q false { s with heap := h' })
    (new : k ∉ ks → ∀ h', Heap.SameBut a s.heap h' → SetT w h' a (k :: ks) → Q true { s with heap := h' }) :
    wpAny (model P w) A (setAddHashed a (.str k tk) ((strKind P w).hash k)) Q E s := by
  have R0 := R
  obtain ⟨o, es, ep, t, ms, ho, hx, hd, hp, nd, pm, small, fit, ris, led⟩ := R
  have key : (strKind P w).is k (.str k tk) = true := beq_iff_eq.mpr rfl
  have scan : (Value.str k tk).scannable = true := rfl
  have el : ElemsOf (strKind P w) es.toList := elems hp
  have cnt : es.size = ks.length := by
    rw [← Array.length_toList, Paired.length hp, pm.length_eq]
  unfold setAddHashed setAddHashedIn
  refine wpAny_holding (wpAny_bind (wpAny_setState_of ho hd fit ?_))
  dsimp only
  rw [byScan_of scan small el]
  simp only [↓reduceIte]
  unfold setAddByScan
  refine wpAny_bind (wpAny_bind (wpAny_rule (wpAny_bind (wpAny_setScan_of key ho hd fit el ?_))))
  cases found : List.findIdx? (fun e => (strKind P w).is k e.2) es.toList with
  | some j =>
    dsimp only
    obtain ⟨hj, pj, _⟩ := List.findIdx?_eq_some_iff_getElem.mp found
    have inn : k ∈ ks := pm.mem_iff.mp ((mem_of (P := P) hp k).2 ⟨es.toList[j], List.getElem_mem hj, pj⟩)
    exact wpAny_pure (wpAny_pure (old inn s.heap (Heap.SameBut.refl a s.heap) R0))
  | none =>
    dsimp only
    have out : k ∉ ms := fun z => by
      obtain ⟨e, he, q⟩ := (mem_of (P := P) hp k).1 z
      have c := List.findIdx?_eq_none_iff.mp found e he
      rw [q] at c
      cases c
    have outk : k ∉ ks := fun z => out (pm.mem_iff.mpr z)
    have way : ∀ (b : Bool) {s1 : Shared} {Q' : Unit → Shared → Prop}, Q' () s1 → wpAny (model P w) A (match b with | true => rule "set.scan.the-table-gave-way" | false => pure ()) Q' E s1 :=
      fun b s1 Q' q => by
        cases b
        · exact wpAny_pure q
        · exact wpAny_rule q
    have p1 := layNew_perm t es ((strKind P w).hash k) (.str k tk)
    have f1 := layNew_fits t es ((strKind P w).hash k) (.str k tk)
    have r1 := layNew_ris t es ((strKind P w).hash k) (.str k tk) ris
    have l1 := layNew_led t es ((strKind P w).hash k) (.str k tk)
    generalize layNew t es ((strKind P w).hash k) (.str k tk) = Z at p1 f1 r1 l1 ⊢
    obtain ⟨fs, u, dummy, gave⟩ := Z
    dsimp only at p1 f1 r1 l1 ⊢
    rw [Array.toList_push] at p1
    have p2 : fs.toList.Perm (((strKind P w).hash k, Value.str k tk) :: es.toList) := p1.trans (List.perm_append_singleton _ _)
    have more : Paired (Holds w) (((strKind P w).hash k, Value.str k tk) :: es.toList) (k :: ms) := .cons ⟨tk, rfl, rfl⟩ hp
    obtain ⟨ms', q1, q2⟩ := paired_perm p2 more
    have nd' : ms'.Nodup := q1.nodup_iff.mpr (List.nodup_cons.mpr ⟨out, nd⟩)
    have pm' : ms'.Perm (k :: ks) := q1.trans (pm.cons k)
    have size : fs.size = ks.length + 1 := by rw [← Array.length_toList, p2.length_eq, List.length_cons, Array.length_toList, cnt]
    have small' : fs.size < scanBound := by rw [size]; exact room
    have led' : w.params.followText "set-order" = true ∨ u.led = true := led.imp id fun z => by rw [l1]; exact z
    refine wpAny_bind (way _ ?_)
    split
    · refine wpAny_bind ?_
      rw [hashByValue_scannable 8 scan]
      refine wpAny_pure ?_
      refine laid (ks := k :: ks) ?_ ho hx hd q2 nd' pm' small' ?_ ?_ ?_ ?_
      · intro b s1 Q' q
        cases b
        · exact wpAny_pure q
        · exact wpAny_rule q
      · first | (split <;> first | exact f1 | exact SetTable.fits_plain_off f1) | exact f1
      · first | (split <;> exact r1) | exact r1
      · first | (split <;> exact led') | exact led'
      · intro h' sb r
        dsimp only
        exact wpAny_pure (new outk h' sb r)
    · refine wpAny_bind (wpAny_pure ?_)
      simp only [↓reduceIte]
      refine laid (ks := k :: ks) ?_ ho hx hd q2 nd' pm' small' f1 r1 led' ?_
      · intro b s1 Q' q
        cases b
        · exact wpAny_pure q
        · exact wpAny_rule q
      · intro h' sb r
        dsimp only
        exact wpAny_pure (new outk h' sb r)

/-- the loop of set(..) over what is walked: its items are the texts xs -/
theorem updates {I : Addr} {fp wr : List Addr} {G : Array GenState → Array GenState → Prop} {n : Nat} {Pv : Nat → Value → Prop} {St : Nat → Shared → Prop} {R : Result → Shared → Prop}
    (W : WalksS P w A.in1 I fp wr G n Pv St) (S : Addr) (away : S ∉ fp) (xs : List Str) (hn : n = xs.length) (room : xs.length + 1 < scanBound) (val : ∀ i v, Pv i v → ∃ k t, xs[i]? = some k ∧ v = .str k t) :
    ∀ (m i : Nat) (s : Shared), n - i = m → i ≤ n → St i s → (∃ ks, (∀ k, k ∈ ks ↔ k ∈ xs.take i) ∧ ks.Nodup ∧ ks.length ≤ i ∧ SetT w s.heap S ks) →
      (∀ s' ks, Moved (S :: wr) G s s' → (∀ k, k ∈ ks ↔ k ∈ xs) → ks.Nodup → ks.length ≤ n → SetT w s'.heap S ks → R (.ok (.ret .none)) s') →
      codeAny (model P w) A (.builtin "set.update.loop" ⟨[.ref S, .ref I], []⟩) R s := by
  have notW : S ∉ wr := fun h => away (W.sub _ h)
  have into : ∀ b ∈ wr, b ∈ S :: wr := fun b hb => List.mem_cons_of_mem _ hb
  intro m
  induction m with
  | zero =>
    intro i s hm hi st ⟨ks, in1, nd1, len1, set1⟩ done
    obtain rfl : i = n := by omega
    refine codeAny_builtin F.entry_set_update_loop ?_
    rw [Around.under_plainId F.plain_set_update_loop _]
    show wpAny _ A.in1 (pyNext (.ref I) >>= _) _ _ s
    refine wpAny_bind (W.done s _ _ st fun s' hmv => ?_)
    show wpAny _ A.in1 (ret Value.none) _ _ s'
    have whole : xs.take i = xs := List.take_of_length_le (by omega)
    rw [whole] at in1
    exact wpAny_pure (done s' ks (hmv.mono into) in1 nd1 len1 (set1.at fun o e => hmv.heap S o notW e))
  | succ m ih =>
    intro i s hm hi st ⟨ks, in1, nd1, len1, set1⟩ done
    have lt : i < n := by omega
    refine codeAny_builtin F.entry_set_update_loop ?_
    rw [Around.under_plainId F.plain_set_update_loop _]
    show wpAny _ A.in1 (pyNext (.ref I) >>= _) _ _ s
    refine wpAny_bind (W.item i s _ _ lt st fun v s' pv st' hmv => ?_)
    obtain ⟨z, t, hz, rfl⟩ := val i v pv
    have set2 : SetT w s'.heap S ks := set1.at fun o e => hmv.heap S o notW e
    show wpAny _ A.in1 (holding [Value.str z t] (setAdd S (.str z t)) >>= _) _ _ s'
    refine wpAny_bind (wpAny_holding ?_)
    unfold setAdd
    have next : ∀ h' ks', Heap.SameBut S s'.heap h' → SetT w h' S ks' → (∀ k, k ∈ ks' ↔ k ∈ xs.take (i + 1)) → ks'.Nodup → ks'.length ≤ i + 1 →
        codeAny (model P w) A (.builtin "set.update.loop" ⟨[.ref S, .ref I], []⟩) R { s' with heap := h', toks := s'.toks + 1 } := fun h' ks' sb r in2 nd2 len2 => by
      refine ih (i + 1) _ (by omega) lt (W.frame _ s' _ _ st' (Nat.le_succ _) fun b hb o e => ?_) ⟨ks', in2, nd2, len2, r⟩ fun s'' ks'' mv in3 nd3 len3 set3 => ?_
      · rw [sb.2 b (fun z : b = S => away (by rw [← z]; exact hb))]
        exact e
      · refine done s'' ks'' (Moved.trans W.gtrans ((hmv.mono into).then_heap (Nat.le_succ _) fun b o hb e => ?_) mv) in3 nd3 len3 set3
        rw [sb.2 b (fun z : b = S => hb (by rw [z]; exact List.mem_cons_self))]
        exact e
    have step : xs.take (i + 1) = xs.take i ++ [z] := by
      rw [List.take_add_one, hz]
      rfl
    refine wpAny_holding (wpAny_bind ((strKind P w).pyHash (k := z) (beq_iff_eq.mpr rfl) ?_))
    refine added (s := { s' with toks := s'.toks + 1 }) set2 (by omega) (fun inn h' sb r => ?_) (fun out h' sb r => ?_)
    · refine wpAny_pure ⟨plainId_quiet F.plain_set_update_loop _, next h' ks sb r (fun k => ?_) nd1 (by omega)⟩
      rw [step, List.mem_append, ← in1 k, List.mem_singleton]
      exact ⟨.inl, fun q => q.elim id fun e => by rw [e]; exact inn⟩
    · refine wpAny_pure ⟨plainId_quiet F.plain_set_update_loop _, next h' (z :: ks) sb r (fun k => ?_) (List.nodup_cons.mpr ⟨out, nd1⟩) (by rw [List.length_cons]; omega)⟩
      rw [step, List.mem_append, ← in1 k, List.mem_singleton, List.mem_cons]
      exact Or.comm
/-- sorted(S), fewer than 64 texts -/
theorem sorts {Q : Value → Shared → Prop} (R : SetT w s.heap a ks) (hh : A.handled = none) (few : ks.length < 64)
    (hQ : ∀ s' p (out : Array Value) (c : Nat) (ys : List Str), (∀ b o, s.heap.get? b = some o → s'.heap.get? b = some o) → s'.gens = s.gens → s'.os = s.os → s.heap.objs.size ≤ p →
      s'.heap.get? p = some (seqObj "list" out c) → StrsAre out.toList ys → ys.Perm ks → sortedS ys = true → ys.Nodup → Q (.ref p) s') :
    wpAny (model P w) A (call (.builtin "sorted") [.ref a]) Q E s := by
  obtain ⟨o, es, ep, t, ms, ho, hx, hd, hp, nd, pm, small, fit, ris, led⟩ := R
  refine Calls.call_function_entry kind_sorted plain_sorted entry_sorted (args_sorted1 _) ?_
  unfold Builtin.«sorted»
  refine wpAny_bind (m := checkCount "sorted" 1 1 _) (wpAny_pure ?_)
  refine wpAny_bind (collect_set (A := A.in1) hh ⟨o, ho, hx.1, hd⟩ fit small ris led fun s1 vs kp hz g1 o1 pv => ?_)
  obtain ⟨ss, q1, q2⟩ := strs_perm pv (strs_of hp)
  have n64 : vs.length < 64 := by
    rw [pv.length_eq, List.length_map, Paired.length hp, pm.length_eq]
    exact few
  refine wpAny_bind (wpAny_newList ?_ (by rw [sizeLine_eq]; omega))
  have at_ : (s1.heap.push (seqObj "list" vs.toArray 0)).get? s1.heap.objs.size = some (seqObj "list" vs.toArray 0) := Heap.get?_push_size _ rfl
  refine wpAny_bind (wpAny_holding (wpAny_call_entry slot_list_sort ⟨_, at_, rfl⟩ entry_list_sort
    (list_sort_treeK strKind_oneLt at_ q2.keysOf (fun v1 v2 rest e => keyKind_strs (by rw [← e]; exact q2)) n64 fun st' b1 b2 => ⟨_, rfl, ?_⟩) (args_list_sort _)))
  obtain ⟨ys, y1, y2, y3⟩ := sorted_out_str q2 b1 b2
  obtain ⟨c, hc⟩ := sortedHeap_at (vs := vs) (out := (arrOf st').map (·.2)) at_
  have all : ys.Perm ms := y2.trans q1
  refine wpAny_pure ⟨_, rfl, hQ _ s1.heap.objs.size _ c ys (fun b u e => ?_) g1 o1 hz hc y1 (all.trans pm) y3 (all.nodup_iff.mpr nd)⟩
  have q := kp b u e
  have lt := Heap.lt_size q
  show (sortedHeap (s1.heap.push (seqObj "list" vs.toArray 0)) s1.heap.objs.size vs _).get? b = some u
  rw [sortedHeap_old (Nat.ne_of_lt lt) (by rw [size_push']; exact Nat.lt_succ_of_lt lt)]
  exact Heap.get?_push_of_some _ q
end
end TS

set_option Elab.async false
set_option linter.all false
set_option maxRecDepth 100000
set_option maxHeartbeats 4000000
/-! set(..) of a tuple or a list of texts. -/
namespace TS
open PySem PySem.Spec PyProof.Rows L2
/-- the object of a new set -/
abbrev newS (w : World) : Obj := { cls := .type "set", dict := none, data := .set #[] 0 (.fresh 0 0 (!w.params.followText "set-order")) }
theorem setT_new {w : World} {h : Heap} {a : Addr} (ho : h.get? a = some (newS w)) : SetT w h a [] :=
  ⟨_, #[], 0, _, [], ho, ⟨rfl, rfl, rfl⟩, rfl, .nil, List.nodup_nil, List.Perm.refl _, (by decide), (by rfl), List.Pairwise.nil, by
    show _ ∨ (!w.params.followText "set-order") = true
    exact match w.params.followText "set-order" with
      | true => .inl rfl
      | false => .inr rfl⟩
theorem strs_len : ∀ {vs : List Value} {ns : List Str}, StrsAre vs ns → vs.length = ns.length
  | _, _, .nil => rfl
  | _, _, .cons _ _ r => congrArg (· + 1) (strs_len r)
theorem str_at : ∀ {vs : List Value} {ns : List Str}, StrsAre vs ns → ∀ (i : Nat) (v : Value), vs[i]? = some v → ∃ k t, ns[i]? = some k ∧ v = .str k t
  | _, _, .nil, i, v, h => by simp at h
  | _, _, .cons n t hr, 0, v, h => ⟨n, t, rfl, by simp at h; exact h.symm⟩
  | _, _, .cons n t hr, i + 1, v, h => str_at hr i v (by simpa using h)
section
variable {P : Program} {w : World} {A : Around} {E : Value → Shared → Prop} {s : Shared}
theorem set_tup {l : Addr} {its : Array Value} (xs : List Str) {Q : Value → Shared → Prop} (hh : A.handled = none) (hl : s.heap.IsTuple l its) (are : StrsAre its.toList xs) (few : xs.length + 1 < scanBound)
    (h : ∀ (h' : Heap) (tk : Nat) (ks : List Str), SetT w h' s.heap.objs.size ks → (∀ k, k ∈ ks ↔ k ∈ xs) → ks.Nodup → ks.length ≤ xs.length → (∀ b o, s.heap.get? b = some o → h'.get? b = some o) → Q (.ref s.heap.objs.size) { s with heap := h', toks := tk }) :
    wpAny (model P w) A (call (.type "set") [.ref l]) Q E s := by
  have size : its.size = xs.length := (Array.length_toList (xs := its)).symm.trans (strs_len are)
  obtain ⟨c, tl, ways⟩ := F.called_set.mro
  have m1 := F.called_set.made
  have m2 := F.called_set.sub
  refine wpAny_call (codeAny_of_tree (show wpAny _ _ (callAny (.type "set") _) _ _ _ from ?_))
  refine wpAny_pure ⟨Code.quiet_builtin _ (by decide +kernel), codeAny_builtin F.entry_type_call (by
    rw [Around.under_plain (weight_type_call_type "set" [.ref l] []) rfl]
    have m3 := F.called_set.notType
    have m4 := F.called_set.canCreate
    have m5 := F.typeCall_set_1 (.ref l)
    repeat (any_goals (first | assumption | wp_step))
    refine codeAny_mono (code_set_led1 (.ref l) (E := E) (Q₁ := fun obj z => obj = .ref s.heap.objs.size ∧ z = { s with heap := s.heap.push (newS w) }) ⟨rfl, rfl⟩) fun r z hr => ?_
    cases r with
    | error e => exact hr
    | ok fl =>
      cases fl with
      | ret obj =>
        obtain ⟨rfl, rfl⟩ := hr
        have n1 : (s.heap.push (newS w)).get? s.heap.objs.size = some (newS w) := Heap.get?_push_size _ rfl
        have n2 : Shared.TypeIs { s with heap := s.heap.push (newS w) } (.ref s.heap.objs.size) "set" := ⟨_, n1, rfl⟩
        have n3 := F.called_set.init.lookup
        have n4 := F.called_set.init.bind (.ref s.heap.objs.size)
        repeat (any_goals (first | assumption | wp_step))
        refine codeAny_mono (codeAny_call_builtin (R := wants (fun r z => r = .none ∧ ∃ h' tk ks, z = { s with heap := h', toks := tk } ∧ SetT w h' s.heap.objs.size ks ∧ (∀ k, k ∈ ks ↔ k ∈ xs) ∧ ks.Nodup ∧ ks.length ≤ xs.length ∧
            (∀ b o, s.heap.get? b = some o → h'.get? b = some o)) E) F.called_set.init.plain F.entry_set_init (check_set_init_1 n2 ?_)) fun r2 z2 hr2 => ?_
        · obtain ⟨ol, hol, hcl, nl, hdl⟩ := hl
          obtain ⟨k1, k2, k3, k4⟩ := ol
          simp only at hcl hdl
          subst hcl
          subst hdl
          have o1 : (s.heap.push (newS w)).get? l = some { cls := .type "tuple", dict := k2, data := .seq its nl, slots := k4 } := Heap.get?_push_of_some _ hol
          have p1 := F.sub_tuple_set
          have p2 := F.sub_tuple_frozenset
          have p3 : (Value.type "tuple" == Value.type "dict") = false := (by decide)
          have o2 : (s.heap.push (newS w)).IsTuple l its := ⟨_, o1, rfl, nl, rfl⟩
          unfold Builtin.«set.__init__» noKeywords Builtin.Frozenset.updateFrom
          generalize hPI : pyIter = PI
          wp_walk
          subst hPI
          refine wpAny_pyIter_tuple o2 (wpAny_bind (wpAny_runValue ?_))
          have below : l < s.heap.objs.size := Heap.lt_size hol
          have quiet : A.in1.in1.in1.handled = none := (by simp [hh])
          have far : l ≠ (s.heap.push (newS w)).objs.size := (by rw [Heap.size_push]; exact Nat.ne_of_lt (Nat.lt_succ_of_lt below))
          have away : s.heap.objs.size ∉ [(s.heap.push (newS w)).objs.size, l] := (by
            rw [Heap.size_push]
            simp only [List.mem_cons, List.not_mem_nil, or_false, not_or]
            exact ⟨Nat.ne_of_lt (Nat.lt_succ_self _), Nat.ne_of_gt below⟩)
          refine updates ((Walks.tuple quiet _ l far its).toS) s.heap.objs.size away xs size few (fun i v hv => str_at are i v (by rw [Array.getElem?_toList]; exact hv)) (its.size - 0) 0 _ (by omega) (Nat.zero_le _)
            ⟨⟨_, Heap.get?_push_size _ rfl, rfl, rfl⟩, o2.push _⟩ ⟨[], (fun k => by simp), List.nodup_nil, Nat.le_refl _, setT_new (Heap.get?_push_of_some _ n1)⟩ ?_
          intro z ks mv in1 nd len set1
          obtain ⟨h', g2, d', tk', os'⟩ := z
          have e1 : g2 = s.gens := mv.gens
          have e2 : d' = s.drawn := mv.drawn
          have e3 : os' = s.os := mv.os
          subst e1
          subst e2
          subst e3
          show wpAny _ _ _ _ _ _
          refine wpAny_pure (show wpAny _ _ (ret Value.none) _ _ _ from wpAny_pure ⟨rfl, h', tk', ks, rfl, set1, in1, nd, by omega, fun b o e => ?_⟩)
          have b0 : b < s.heap.objs.size := Heap.lt_size e
          refine mv.heap b o ?_ (Heap.get?_push_of_some _ (Heap.get?_push_of_some _ e))
          rw [Heap.size_push]
          simp only [List.mem_cons, List.not_mem_nil, or_false, not_or]
          exact ⟨Nat.ne_of_lt b0, Nat.ne_of_lt (Nat.lt_succ_of_lt b0)⟩
        · cases r2 with
          | error e => exact hr2
          | ok fl2 =>
            cases fl2 with
            | ret r =>
              obtain ⟨rfl, h', tk, ks, rfl, q1, q2, q3, q4, q5⟩ := hr2
              repeat (any_goals (first | assumption | wp_step))
              exact h _ _ ks q1 q2 q3 q4 q5
            | _ => exact hr2.elim
      | _ => exact hr.elim)⟩
theorem set_list {l : Addr} {its : Array Value} (xs : List Str) {Q : Value → Shared → Prop} (hh : A.handled = none) (hl : s.heap.IsList l its) (are : StrsAre its.toList xs) (few : xs.length + 1 < scanBound)
    (h : ∀ (h' : Heap) (tk : Nat) (ks : List Str), SetT w h' s.heap.objs.size ks → (∀ k, k ∈ ks ↔ k ∈ xs) → ks.Nodup → ks.length ≤ xs.length → (∀ b o, s.heap.get? b = some o → h'.get? b = some o) → Q (.ref s.heap.objs.size) { s with heap := h', toks := tk }) :
    wpAny (model P w) A (call (.type "set") [.ref l]) Q E s := by
  have size : its.size = xs.length := (Array.length_toList (xs := its)).symm.trans (strs_len are)
  obtain ⟨c, tl, ways⟩ := F.called_set.mro
  have m1 := F.called_set.made
  have m2 := F.called_set.sub
  refine wpAny_call (codeAny_of_tree (show wpAny _ _ (callAny (.type "set") _) _ _ _ from ?_))
  refine wpAny_pure ⟨Code.quiet_builtin _ (by decide +kernel), codeAny_builtin F.entry_type_call (by
    rw [Around.under_plain (weight_type_call_type "set" [.ref l] []) rfl]
    have m3 := F.called_set.notType
    have m4 := F.called_set.canCreate
    have m5 := F.typeCall_set_1 (.ref l)
    repeat (any_goals (first | assumption | wp_step))
    refine codeAny_mono (code_set_led1 (.ref l) (E := E) (Q₁ := fun obj z => obj = .ref s.heap.objs.size ∧ z = { s with heap := s.heap.push (newS w) }) ⟨rfl, rfl⟩) fun r z hr => ?_
    cases r with
    | error e => exact hr
    | ok fl =>
      cases fl with
      | ret obj =>
        obtain ⟨rfl, rfl⟩ := hr
        have n1 : (s.heap.push (newS w)).get? s.heap.objs.size = some (newS w) := Heap.get?_push_size _ rfl
        have n2 : Shared.TypeIs { s with heap := s.heap.push (newS w) } (.ref s.heap.objs.size) "set" := ⟨_, n1, rfl⟩
        have n3 := F.called_set.init.lookup
        have n4 := F.called_set.init.bind (.ref s.heap.objs.size)
        repeat (any_goals (first | assumption | wp_step))
        refine codeAny_mono (codeAny_call_builtin (R := wants (fun r z => r = .none ∧ ∃ h' tk ks, z = { s with heap := h', toks := tk } ∧ SetT w h' s.heap.objs.size ks ∧ (∀ k, k ∈ ks ↔ k ∈ xs) ∧ ks.Nodup ∧ ks.length ≤ xs.length ∧
            (∀ b o, s.heap.get? b = some o → h'.get? b = some o)) E) F.called_set.init.plain F.entry_set_init (check_set_init_1 n2 ?_)) fun r2 z2 hr2 => ?_
        · obtain ⟨ol, hol, hcl, nl, hdl⟩ := hl
          obtain ⟨k1, k2, k3, k4⟩ := ol
          simp only at hcl hdl
          subst hcl
          subst hdl
          have o1 : (s.heap.push (newS w)).get? l = some { cls := .type "list", dict := k2, data := .seq its nl, slots := k4 } := Heap.get?_push_of_some _ hol
          have p1 := F.sub_list_set
          have p2 := F.sub_list_frozenset
          have p3 : (Value.type "list" == Value.type "dict") = false := (by decide)
          have o2 : (s.heap.push (newS w)).IsList l its := ⟨_, o1, rfl, nl, rfl⟩
          unfold Builtin.«set.__init__» noKeywords Builtin.Frozenset.updateFrom
          generalize hPI : pyIter = PI
          wp_walk
          subst hPI
          refine wpAny_pyIter_list o2 (wpAny_bind (wpAny_runValue ?_))
          have below : l < s.heap.objs.size := Heap.lt_size hol
          have quiet : A.in1.in1.in1.handled = none := (by simp [hh])
          have far : l ≠ (s.heap.push (newS w)).objs.size := (by rw [Heap.size_push]; exact Nat.ne_of_lt (Nat.lt_succ_of_lt below))
          have away : s.heap.objs.size ∉ [(s.heap.push (newS w)).objs.size, l] := (by
            rw [Heap.size_push]
            simp only [List.mem_cons, List.not_mem_nil, or_false, not_or]
            exact ⟨Nat.ne_of_lt (Nat.lt_succ_self _), Nat.ne_of_gt below⟩)
          refine updates ((Walks.list quiet _ l far its).toS) s.heap.objs.size away xs size few (fun i v hv => str_at are i v (by rw [Array.getElem?_toList]; exact hv)) (its.size - 0) 0 _ (by omega) (Nat.zero_le _)
            ⟨⟨_, Heap.get?_push_size _ rfl, rfl, rfl⟩, o2.push _⟩ ⟨[], (fun k => by simp), List.nodup_nil, Nat.le_refl _, setT_new (Heap.get?_push_of_some _ n1)⟩ ?_
          intro z ks mv in1 nd len set1
          obtain ⟨h', g2, d', tk', os'⟩ := z
          have e1 : g2 = s.gens := mv.gens
          have e2 : d' = s.drawn := mv.drawn
          have e3 : os' = s.os := mv.os
          subst e1
          subst e2
          subst e3
          show wpAny _ _ _ _ _ _
          refine wpAny_pure (show wpAny _ _ (ret Value.none) _ _ _ from wpAny_pure ⟨rfl, h', tk', ks, rfl, set1, in1, nd, by omega, fun b o e => ?_⟩)
          have b0 : b < s.heap.objs.size := Heap.lt_size e
          refine mv.heap b o ?_ (Heap.get?_push_of_some _ (Heap.get?_push_of_some _ e))
          rw [Heap.size_push]
          simp only [List.mem_cons, List.not_mem_nil, or_false, not_or]
          exact ⟨Nat.ne_of_lt b0, Nat.ne_of_lt (Nat.lt_succ_of_lt b0)⟩
        · cases r2 with
          | error e => exact hr2
          | ok fl2 =>
            cases fl2 with
            | ret r =>
              obtain ⟨rfl, h', tk, ks, rfl, q1, q2, q3, q4, q5⟩ := hr2
              repeat (any_goals (first | assumption | wp_step))
              exact h _ _ ks q1 q2 q3 q4 q5
            | _ => exact hr2.elim
      | _ => exact hr.elim)⟩
end
end TS

set_option Elab.async false
set_option linter.all false
set_option maxRecDepth 100000
set_option maxHeartbeats 4000000
/-! Sets of texts as objects of the hand layer. -/
namespace TS
open PySem PySem.Spec PyProof.Rows L2
/-- a set of just the texts ks -/
def SetS (w : World) (a : Addr) (ks : List Str) : HO := .ext fun h => SetT w h a ks
theorem setS_new {w : World} {P : Program} {H : Hp} {h : Heap} {a : Addr} {ks : List Str} (R : SetT w h a ks) : ObjOk P w H h a (SetS w a ks) := by
  have ⟨o, _, _, _, _, ho, _⟩ := R
  exact ⟨R, ⟨o, ho⟩, fun h1 h2 p k => SetT.at p k⟩
section
variable {X : Cx}
/-- set(..) of texts -/
def rSetS (K : PySem.W.Frag) (w : World) : List V → Hp → VK → Prop := fun vs H Q => ∃ (l : Addr) (xs : List Str), vs = [V.ref l] ∧ (SqL K H l (xs.map V.str) ∨ SqT K H l (xs.map V.str)) ∧ xs.length ≤ 1000 ∧
  ∀ a ks, H a = none → (∀ k, k ∈ ks ↔ k ∈ xs) → ks.Nodup → ks.length ≤ xs.length → Q (.ref a) (upd H a (SetS w a ks))
theorem cr_setS (hc : X.calm = true) : CallR X (.type "set") (rSetS X.K X.w) := by
  intro pins s σ H vs us Q I r h
  obtain ⟨l, xs, rfl, hl, few, q⟩ := h
  rw [Vals.ref1 r]
  have hn : H s.heap.objs.size = none := I.hok.fresh (Nat.le_refl _)
  rcases hl with hl | hl
  · obtain ⟨its, rv, pl, hz⟩ := I.list hl
    exact set_list (P := X.prog) (w := X.w) xs (I.ok.hd hc) pl.isList (by simpa using strs_of_vals rv) (by unfold scanBound; omega) fun h' tk ks R q1 q2 q3 k =>
      ⟨.ref s.heap.objs.size, upd H s.heap.objs.size (SetS X.w s.heap.objs.size ks), I.laid (t' := tk) k (Nat.le_refl _) (setS_new R), rfl, q _ ks hn q1 q2 q3⟩
  · obtain ⟨its, rv, pt, hz⟩ := I.tuple hl
    exact set_tup (P := X.prog) (w := X.w) xs (I.ok.hd hc) (show s.heap.IsTuple l its.toArray from pt) (by simpa using strs_of_vals rv) (by unfold scanBound; omega) fun h' tk ks R q1 q2 q3 k =>
      ⟨.ref s.heap.objs.size, upd H s.heap.objs.size (SetS X.w s.heap.objs.size ks), I.laid (t' := tk) k (Nat.le_refl _) (setS_new R), rfl, q _ ks hn q1 q2 q3⟩
/-- sorted(set) -/
def rSortS (w : World) : List V → Hp → VK → Prop := fun vs H Q => ∃ (a : Addr) (ks : List Str), vs = [V.ref a] ∧ H a = some (SetS w a ks) ∧ ks.length < 64 ∧
  ∀ (ys : List Str) (p : Addr), ys.Perm ks → sortedS ys = true → ys.Nodup → H p = none → Q (.ref p) (upd H p (.lst (ys.map V.str)))
theorem cr_sortS (hc : X.calm = true) : CallR X (.builtin "sorted") (rSortS X.w) := by
  intro pins s σ H vs us Q I r h
  obtain ⟨a, ks, rfl, ha, few, q⟩ := h
  have R : SetT X.w s.heap a ks := (I.hok a _ ha).1
  rw [Vals.ref1 r]
  refine sorts (P := X.prog) R (I.ok.hd hc) few fun s' p out c ys k g o hp hg are pm srt nd => ?_
  have hn : H p = none := I.hok.fresh hp
  have hlen : (ys.map V.str).length ≤ sizeLine := by
    rw [List.length_map, pm.length_eq, sizeLine_eq]
    omega
  have J : Inv X pins σ (upd H p (.lst (ys.map V.str))) { s with heap := s'.heap, gens := s'.gens, drawn := s'.drawn, toks := s'.toks } :=
    I.call (ch := []) (Un.laid k hp hn) (I.hok.laid k hp ⟨hlen, out.toList, c, vals_of_strs are, hg⟩) (by rw [g]; exact I.bare) (fun _ z => nomatch z)
  have e : s' = { s with heap := s'.heap, gens := s'.gens, drawn := s'.drawn, toks := s'.toks } := by
    cases s'
    cases s
    cases o
    exact rfl
  rw [e]
  exact ⟨.ref p, _, J, rfl, q ys p pm srt nd hn⟩
end
end TS

set_option Elab.async false
set_option linter.all false
set_option maxRecDepth 100000
set_option maxHeartbeats 4000000
/-! t + u of any tuples; t[::-1] of a tuple. -/
namespace TO
open PySem PySem.Spec PyProof.Rows L2
def rCatE (K : PySem.W.Frag) : R2 := fun x y H Q => ∃ a b xs ys, x = .ref a ∧ y = .ref b ∧ SqT K H a xs ∧ SqT K H b ys ∧ xs.length + ys.length ≤ sizeLine ∧
  (xs = [] → Q (.ref b) H) ∧ (xs ≠ [] → ys = [] → Q (.ref a) H) ∧ (xs ≠ [] → ys ≠ [] → ∀ p, H p = none → Q (.ref p) (upd H p (.tup (xs ++ ys))))
theorem op_catE {X : Cx} : OpR X (binaryOp .Add) (rCatE X.K) := by
  intro pins s σ H x y v u Q I rx ry h
  obtain ⟨a, b, xs, ys, ex, ey, ha, hb, hz, q0, q1, q2⟩ := h
  by_cases hx : xs = []
  · subst ex ey
    cases rx
    cases ry
    obtain ⟨its, r1, p1, _⟩ := I.tuple ha
    obtain ⟨its2, r2, p2, _⟩ := I.tuple hb
    obtain ⟨⟨c1, d1, t1, l1⟩, ho, hc, n, hd⟩ := id p1
    obtain ⟨⟨c2, d2, t2, l2⟩, ho2, hc2, n2, hd2⟩ := id p2
    simp only at hc hd hc2 hd2
    subst hc hd hc2 hd2
    exact concat_meets ⟨_, ho, rfl⟩ ⟨_, ho2, rfl⟩ noFill_tuple_add seq_tuple_add PySem.F.slot_tuple_add PySem.F.entry_tuple_add (PySem.F.args_tuple_add_2 _ _)
      (tuple_addW0 a b its.toArray its2.toArray n n2 d1 d2 l1 l2 (by simpa using r1.nil_iff.mpr hx)) ⟨ho, ho2, ⟨.ref b, H, I, rfl, q0 hx⟩⟩
  · exact op_catT pins s σ H x y v u Q I rx ry ⟨a, b, xs, ys, ex, ey, ha, hb, hx, hz, q1 hx, q2 hx⟩
section
variable {prog : Program} {w : World} {A : Around} {E : Value → Shared → Prop} {s : Shared}
theorem applied_rev {sl : Addr} {vs : Value} {n : Nat} {Q : Int × Int × Nat → Shared → Prop} (hs : s.heap.IsSliceOf sl .none .none vs) (pk : IsPart vs (some (-1))) (h : Q ((n : Int) - 1, -1, n) s) :
    wpAny (model prog w) A (Builtin.Slice.sliceApplied (.ref sl) (pure (n : Int))) Q E s := by
  obtain ⟨os, hos, hcs, hds⟩ := id hs
  unfold Builtin.Slice.sliceApplied Builtin.Slice.sliceFields
  refine wpAny_bind (wpAny_bind (wpAny_field hos hds (x := .none) rfl (wpAny_bind (wpAny_field hos hds (x := .none) rfl (wpAny_bind (wpAny_field hos hds (x := vs) rfl (wpAny_pure ?_)))))))
  refine wpAny_bind (HT.slicePart_ pk ?_)
  show wpAny _ _ (if ((-1 : Int) == 0) = true then _ else _) _ _ s
  rw [if_neg (by decide)]
  refine wpAny_bind (HT.slicePart_ .none (wpAny_bind (HT.slicePart_ .none (wpAny_bind (wpAny_pure ?_)))))
  show wpAny _ _ (pure ((n : Int) - 1, (-1 : Int), Builtin.Slice.slicePlaces ((n : Int) - 1) (-1) (-1))) _ _ s
  have e : Builtin.Slice.slicePlaces ((n : Int) - 1) (-1) (-1) = n := by
    unfold Builtin.Slice.slicePlaces
    rw [if_neg (by decide)]
    by_cases c : (n : Int) - 1 > -1
    · rw [if_pos c]
      simp
    · rw [if_neg c]
      omega
  rw [e]
  exact wpAny_pure h
theorem fm_congr {α β : Type} {f g : α → Option β} : ∀ {l : List α}, (∀ x ∈ l, f x = g x) → l.filterMap f = l.filterMap g
  | [], _ => rfl
  | x :: r, h => by
    rw [List.filterMap_cons, List.filterMap_cons, h x List.mem_cons_self, fm_congr fun y hy => h y (List.mem_cons_of_mem _ hy)]
theorem pick_rev (xs : Array Value) : ((List.range xs.size).filterMap fun (k : Nat) => xs[((xs.size : Int) - 1 + (k : Int) * (-1)).toNat]?).toArray = xs.toList.reverse.toArray := by
  refine congrArg List.toArray ?_
  refine List.ext_getElem? fun i => ?_
  have all : ((List.range xs.size).filterMap fun (k : Nat) => xs[((xs.size : Int) - 1 + (k : Int) * (-1)).toNat]?) = (List.range xs.size).map fun k => xs.toList.getD (xs.size - 1 - k) Value.none := by
    rw [← List.filterMap_eq_map]
    refine fm_congr fun k hk => ?_
    have hk' : k < xs.size := List.mem_range.mp hk
    have e : ((xs.size : Int) - 1 + (k : Int) * (-1)).toNat = xs.size - 1 - k := by omega
    rw [e]
    have l : xs.size - 1 - k < xs.size := by omega
    simp [List.getD_eq_getElem?_getD, l]
  rw [all, List.getElem?_map]
  by_cases h : i < xs.size
  · rw [List.getElem?_range h, List.getElem?_reverse (by simpa using h)]
    have l : xs.size - 1 - i < xs.size := by omega
    simp [List.getD_eq_getElem?_getD, l]
  · rw [List.getElem?_eq_none (by simpa using h), List.getElem?_eq_none (by simpa using h)]
    rfl
theorem getItem_rev {t sl : Addr} {items : Array Value} {vs : Value} {Q : Value → Shared → Prop} (ht : IsTup s.heap t items) (hs : s.heap.IsSliceOf sl .none .none vs) (pk : IsPart vs (some (-1)))
    (h : Q (.ref s.heap.objs.size) { s with heap := s.heap.push { cls := .type "tuple", data := .seq items.toList.reverse.toArray } }) (hsz : items.size ≤ sizeLine) : wpAny (model prog w) A (getItem (.ref t) (.ref sl)) Q E s := by
  have fits : sizeOk (.seq items.toList.reverse.toArray) := by
    show items.toList.reverse.toArray.size ≤ sizeLine
    rw [List.size_toArray, List.length_reverse, Array.length_toList]
    exact hsz
  obtain ⟨os, hos, hcs, hds⟩ := id hs
  have kind : s.TypeIs (.ref sl) "slice" := ⟨os, hos, hcs⟩
  unfold getItem
  try with_reducible refine wpAny_holding ?_
  first | refine wpAny_bind (wpAny_pure ?_) | skip
  refine wpAny_bind (wpAny_sequenceKey ht.typeIs (by decide) (wpAny_bind (wpAny_callSpecial?_slot (name := Str.ofString "__getitem__") ht.typeIs PyProof.Rows.slot_tuple_getitem
    (wpAny_call_entry PyProof.Rows.slot_tuple_getitem ht.typeIs entry_tuple_getitem ?_ (args_tuple_getitem _ _)))))
  show wpAny _ _ (Builtin.Tuple.tupleItemsOf (.ref t) >>= _) _ _ s
  refine wpAny_bind (tupleItemsOf_ ht (wpAny_bind (wpAny_typeOf kind ?_)))
  rw [if_pos (by decide)]
  refine wpAny_bind (applied_rev hs pk ?_)
  show wpAny _ _ (if ((items.size : Int) - 1 == 0 && (-1 : Int) == 1 && items.size == items.size) = true then _ else _) _ _ s
  rw [if_neg (by simp), pick_rev]
  first
    | exact wpAny_bind (m := Builtin.Tuple.tupleExact _) (wpAny_newObj_type (wpAny_pure ⟨_, rfl, wpAny_pure h⟩) fits)
    | exact wpAny_bind (m := Builtin.Tuple.tupleExact _) (wpAny_newObj_type (wpAny_bind (wpAny_pure (wpAny_pure ⟨_, rfl, wpAny_pure h⟩))) fits)
    | exact wpAny_bind (wpAny_bind (m := Builtin.Tuple.tupleExact _) (wpAny_newObj_type (wpAny_pure (wpAny_pure ⟨_, rfl, wpAny_pure h⟩)) fits))
    | exact wpAny_bind (wpAny_bind (m := Builtin.Tuple.tupleExact _) (wpAny_newObj_type (wpAny_pure ⟨_, rfl, wpAny_pure h⟩) fits))
end
/-- t[::-1] -/
def tRevT (K : PySem.W.Frag) (te : TE) : TE := fun σ H Q => te σ H fun x H1 => ∃ a xs, x = .ref a ∧ SqT K H1 a xs ∧ ∀ p, H1 p = none → Q (.ref p) (upd H1 p (.tup xs.reverse))
theorem pe_revT {X : Cx} {e : Expr} {te : TE} {k : Nat} {p1 p2 p3 pos : Pos} (he : PE X e te) : PE X (.Subscript e (.Slice none none (some (.UnaryOp .USub (.Constant (.int 1) k p1) p2)) p3) pos) (tRevT X.K te) := by
  refine ⟨fun pins s σ H Q I h => Subscript_ (thn (he.run pins s σ H _ I h) fun v s1 ⟨x, H1, I1, r1, q1⟩ => ?_)⟩
  obtain ⟨a, xs, ex, hx, q⟩ := q1
  subst ex
  cases r1
  have last : PO X (some (.UnaryOp .USub (.Constant (.int 1) k p1) p2)) (tPart (tUn (rU fun i => .int (-i)) (tC (.int 1)))) := po_some (pe_un un_neg pe_int)
  refine wpAny_Slice (thn (po_none.run pins s1 σ H1 (fun o H2 => o = none ∧ H2 = H1) I1 ⟨rfl, rfl⟩) fun vl s2 ⟨l, H2, I2, pl, el, e2⟩ => ?_)
  subst el
  subst e2
  refine thn (po_none.run pins s2 σ H2 (fun o H3 => o = none ∧ H3 = H2) I2 ⟨rfl, rfl⟩) fun vu s3 ⟨u, H3, I3, pu, eu, e3⟩ => ?_
  subst eu
  subst e3
  refine thn (last.run pins s3 σ H3 (fun o H4 => o = some (-1) ∧ H4 = H3) I3 ⟨1, rfl, -1, rfl, rfl, rfl⟩) fun vs s4 ⟨o, H4, I4, ps, eo, e4⟩ => ?_
  subst eo
  subst e4
  cases pl
  cases pu
  have I5 : Inv X pins σ H4 { s4 with heap := s4.heap.push { cls := .type "slice", data := .fields #[.none, .none, vs] } } := I4.kept (t' := s4.toks) fun b ob q => Heap.get?_push_of_some _ q
  obtain ⟨its, r, ht, hz⟩ := I5.tuple hx
  have hlen := r.length
  show wpAny (model X.prog X.w) X.A (subscriptTail e (.Slice none none (some (.UnaryOp .USub (.Constant (.int 1) k p1) p2)) p3) (.ref a) (.ref s4.heap.objs.size)) (EP X pins σ Q) X.xe { s4 with heap := s4.heap.push { cls := .type "slice", data := .fields #[.none, .none, vs] } }
  refine tail_any (ops := [.ref a, .ref s4.heap.objs.size]) ht.typeIs PyProof.Rows.slot_tuple_getitem.lookup ?_ (by with_unfolding_all rfl)
  refine getItem_rev ht (Heap.IsSliceOf.new _ .none .none vs) ps ?_ (by rw [List.size_toArray]; omega)
  refine ⟨.ref _, _, I5.laid (t' := s4.toks) (o := .tup xs.reverse) (fun b ob q => Heap.get?_push_of_some _ q) (Nat.le_refl _) ?_, rfl, q _ (I5.hok.fresh (Nat.le_refl _))⟩
  exact ⟨by rw [List.length_reverse]; exact hz, _, r.reverse, IsTup.new _ _⟩
end TO

set_option Elab.async false
set_option linter.all false
set_option maxRecDepth 100000
set_option maxHeartbeats 4000000
/-! An own exception class whose base's new and init come from two built-in classes (KeyError has LookupError's new and an init of its own); also all that have both from one. -/
namespace Ek
open PySem PySem.W PySem.Calls PyProof.Rows PySem.HandSPX
open PySem.Builtin PySem.Builtin.ObjectAttr
/-- the init of the built-in class B -/
structure InitF (B initId : String) : Prop where
  slot : Slot B "__init__" initId
  entry : entryFor table initId = some Builtin.«BaseException.__init__»
  split : splitId initId = some (B, "__init__")
  kind : builtinKind initId = some .slot
  row : Manifest.signature? initId = some ⟨.positional, "*", B, .self, [⟨"args", .varPos, false⟩]⟩
  star : (B != "*") = true
theorem InitF.of {B n i : String} (F : ExcCallFacts B n i) : InitF B i :=
  ⟨F.init, F.initEntry, F.initSplit, F.initKind, F.initRow, F.noStar⟩
theorem initKey : InitF "KeyError" "KeyError.__init__" where
  slot := .of (owner := "KeyError") (n := "__init__")
    (by rw [typeLookup_type, builtinLookup_eq_fast]; kernel_rfl)
    (by decide +kernel) (by decide +kernel) (by decide +kernel)
    (by first | exact .inr (by decide +kernel) | exact .inl (by decide +kernel))
    (by rw [isSubtype_type]; kernel_rfl)
  entry := entryFor_alias (id' := "BaseException.__init__")
    (by rw [fastTable_eq_tree]; kernel_rfl)
    (by first | rfl | decide +kernel) (by decide +kernel)
    (by rw [fastTable_eq_tree]; kernel_rfl)
  split := by kernel_rfl
  kind := by kernel_rfl
  row := by kernel_rfl
  star := by decide +kernel
abbrev kTail : List Value := [.type "KeyError", .type "LookupError", .type "Exception", .type "BaseException", .type "object"]
theorem storeKey : StoreFacts "KeyError" kTail "object.__setattr__" "object" where
  mro := by kernel_rfl
  slot := .of (owner := "object") (n := "__setattr__")
    (by rw [typeLookup_type, builtinLookup_eq_fast]; kernel_rfl)
    (by decide +kernel) (by decide +kernel) (by decide +kernel)
    (by first | exact .inr (by decide +kernel) | exact .inl (by decide +kernel))
    (by rw [isSubtype_type]; kernel_rfl)
  entry := F.entry_object_sa
  kind := by decide +kernel
  split := by decide +kernel
  hasOwner := by decide +kernel
  args := fun a b c => by unfold argsOk; kernel_rfl
  passes := fun _ => by kernel_rfl
/-- what the bases of the class are: one has the new, one the init; none is of the two that ask for more -/
structure Above (bm : List Value) (BN BI : String) : Prop where
  n : bm.contains (.type BN) = true
  i : bm.contains (.type BI) = true
  a : bm.contains (.type "AttributeError") = false
  u : bm.contains (.type "NameError") = false
section
variable {M : Model} {A : Around} {E : Value → Shared → Prop} {hp : Heap} {gs : Array GenState} {dr : Drawn} {tk : Nat} {os : OsState}
variable {nm qn : Str} {C N : Addr} {bs bm bmB : List Value} {hd : Bool} {sn : List Str} {sub : List Value} {ab : Bool} {col : Option Bool} {dd : Option Addr}
variable {s0 s1 s2 s3 s5 : Option Value} {B B' newId initId initId' : String}

theorem seesNew (F : ExcBaseFacts B newId initId bmB) (hb : bm.contains (.type B) = true) {us : List Value} {Q : Unit → Shared → Prop}
    (at_ : hp.get? C = some (excClassObj nm qn C N bs bm hd sn sub ab col dd s0 s1 s2 s3 s5 newId)) (q : Q () ⟨hp, gs, dr, tk, os⟩) :
    wpAny M A (checkBuiltinCall newId ⟨.ref C :: us, []⟩) Q E ⟨hp, gs, dr, tk, os⟩ := by
  have in_ : (Value.ref C :: bm).contains (.type B) = true := by rw [List.contains_cons, hb, Bool.or_true]
  have star := F.noStar
  simp only [checkBuiltinCall, F.newKind, F.newSplit, F.newRow]
  repeat (first
    | refine wpAny_loadPart_at at_ ?_
    | (refine wpAny_isSubtype_exc at_ ?_; rw [in_])
    | refine wpAny_staticBase_exc at_ ?_
    | refine wpAny_madeBy_exc at_ ?_
    | simp only [bne_self_eq_false, Bool.false_eq_true, if_false]
    | wp_step)
  exact q
theorem seesInit (F : InitF B' initId') (hb : bm.contains (.type B') = true) {e : Addr} {oe : Obj} {us : List Value} {Q : Unit → Shared → Prop}
    (at_ : hp.get? C = some (excClassObj nm qn C N bs bm hd sn sub ab col dd s0 s1 s2 s3 s5 newId)) (ate : hp.get? e = some oe) (hc : oe.cls = .ref C)
    (q : Q () ⟨hp, gs, dr, tk, os⟩) : wpAny M A (checkBuiltinCall initId' ⟨.ref e :: us, []⟩) Q E ⟨hp, gs, dr, tk, os⟩ := by
  have in_ : (Value.ref C :: bm).contains (.type B') = true := by rw [List.contains_cons, hb, Bool.or_true]
  have star := F.star
  simp only [checkBuiltinCall, F.kind, F.split, F.row]
  repeat (first
    | (with_reducible refine wpAny_loadPart_at ate ?_; rw [hc])
    | with_reducible refine wpAny_loadPart_at at_ ?_
    | (with_reducible refine wpAny_isSubtype_exc at_ ?_; rw [in_])
    | wp_step)
  refine wpAny_onRaise ?_
  have z : ∀ (a b : String) (n : Nat), Bind.check ⟨.positional, "*", B', .self, [⟨"args", .varPos, false⟩]⟩ a b n
      (List.map (fun x => x.fst) ({ pos := Value.ref e :: us } : Args).kw) = pure () := fun a b n => check_star_args _ _ _ _ _ _
  rw [z]
  exact wpAny_pure q
end
section
variable {prog : Program} {w : World} {A : Around} {E : Value → Shared → Prop} {R : Result → Shared → Prop} {hp : Heap} {gs : Array GenState} {dr : Drawn} {tk : Nat} {os : OsState}
variable {nm qn : Str} {C N : Addr} {bs bm bmB : List Value} {hd : Bool} {sn : List Str} {sub : List Value} {ab : Bool} {col : Option Bool} {dd : Option Addr}
variable {s0 s1 s2 s3 s5 : Option Value} {B B' newId initId initId' : String}
theorem runsNew (F : ExcBaseFacts B newId initId bmB) (U : Above bm B B') {us : List Value}
    (at_ : hp.get? C = some (excClassObj nm qn C N bs bm hd sn sub ab col dd s0 s1 s2 s3 s5 newId)) (hl : us.length ≤ sizeLine)
    (q : R (.ok (.ret (.ref (hp.objs.size + 1)))) ⟨(hp.push (kdv_tup us)).push (excO C hp.objs.size), gs, dr, tk, os⟩) :
    codeAny (model prog w) A (.builtin newId ⟨.ref C :: us, []⟩) R ⟨hp, gs, dr, tk, os⟩ := by
  have ends := F.ends
  have inB : (Value.ref C :: bm).contains (.type B) = true := by rw [List.contains_cons, U.n, Bool.or_true]
  have inA : (Value.ref C :: bm).contains (.type "AttributeError") = false := by rw [List.contains_cons, U.a]; rfl
  have inN : (Value.ref C :: bm).contains (.type "NameError") = false := by rw [List.contains_cons, U.u]; rfl
  refine codeAny_builtinAt F.entry ?_
  unfold Builtin.«BaseException.__new__»
  refine PySem.wpAt_bind ?_
  show PySem.wpAt _ _ _ (stack >>= _) _ _ _
  refine PySem.wpAt_bind (PySem.wpAt_stack fun p below => PySem.wpAt_of_wpAny ?_)
  wp_walk
  refine PySem.wpAt_of_wpAny ?_
  rw [F.owner]
  repeat (first
    | with_reducible refine wpAny_madeHere_exc F.canon at_ ?_
    | with_reducible refine wpAny_loadPart_at at_ ?_
    | (with_reducible refine wpAny_isSubtype_exc at_ ?_; first | rw [inB] | rw [inA] | rw [inN])
    | wp_step)
  show R _ _
  rw [Heap.size_push]
  exact q
theorem typeCalls (F : ExcBaseFacts B newId initId bmB) (U : Above bm B B') {us : List Value} {fI : Addr} {Q : Fin → Shared → Prop}
    (at_ : hp.get? C = some (excClassObj nm qn C N bs bm hd sn sub ab col dd s0 s1 s2 s3 s5 newId))
    (li : Looks (model prog w) hp (typeLookup (.ref C) "__init__") (some (.ref fI))) (lb : ∀ self, Looks (model prog w) hp (bindSpecial (.ref fI) self) (.ref fI, [self]))
    (hl : us.length ≤ sizeLine)
    (q : codeAny (model prog w) A (.call (.ref fI) ⟨.ref (hp.objs.size + 1) :: us, []⟩)
      (fun r s' => match r with | .ok (.ret v) => v = .none ∧ Q (.done (.ret (.ref (hp.objs.size + 1)))) s' | .ok _ => False | .error x => E x s')
      ⟨(hp.push (kdv_tup us)).push (excO C hp.objs.size), gs, dr, tk, os⟩) :
    wpAny (model prog w) A (Builtin.«type.__call__» ⟨.ref C :: us, []⟩) Q E ⟨hp, gs, dr, tk, os⟩ := by
  repeat (first
    | with_reducible refine wpAny_loadPart_at at_ ?_
    | with_reducible refine wpAny_madeBy_exc at_ ?_
    | wp_step)
  refine codeAny_call_builtin_code (Code.quiet_builtin _ F.quiet) (seesNew F U.n at_ (runsNew F U at_ hl ?_))
  show wpAny _ _ _ _ _ _
  have kp : ∀ b o, hp.get? b = some o → ((hp.push (kdv_tup us)).push (excO C hp.objs.size)).get? b = some o :=
    fun b o e => Heap.get?_push_of_some _ (Heap.get?_push_of_some _ e)
  have at1 := kp _ _ at_
  have atE : ((hp.push (kdv_tup us)).push (excO C hp.objs.size)).get? (hp.objs.size + 1) = some (excO C hp.objs.size) := by heap_get
  have inC : (Value.ref C :: bm).contains (.ref C) = true := by simp
  have li1 := li.keeps kp
  have lb1 := (lb (.ref (hp.objs.size + 1))).keeps kp
  unfold isInstance
  repeat (first
    | with_reducible refine wpAny_loadPart_at atE ?_
    | (with_reducible refine wpAny_isSubtype_exc at1 ?_; rw [inC])
    | wp_step)
  show wpAny _ _ (typeLookup (.ref C) _) _ _ _
  refine li1.at (wpAny_holding (wpAny_bind (lb1.at (wpAny_bind (wpAny_call (codeAny_mono q fun r s' z => ?_))))))
  rcases r with x | (v | _ | _ | _) <;> first | exact z | exact z.elim | skip
  obtain ⟨rfl, z⟩ := z
  first
    | exact wpAny_pure (wpAny_pure z)
    | (wp_walk; exact z)
theorem clsCalls (F : ExcBaseFacts B newId initId bmB) (U : Above bm B B') {us : List Value} {fI : Addr}
    (at_ : hp.get? C = some (excClassObj nm qn C N bs bm hd sn sub ab col dd s0 s1 s2 s3 s5 newId))
    (li : Looks (model prog w) hp (typeLookup (.ref C) "__init__") (some (.ref fI))) (lb : ∀ self, Looks (model prog w) hp (bindSpecial (.ref fI) self) (.ref fI, [self]))
    (hl : us.length ≤ sizeLine)
    (q : codeAny (model prog w) (A.under (.builtin "type.__call__" ⟨.ref C :: us, []⟩)) (.call (.ref fI) ⟨.ref (hp.objs.size + 1) :: us, []⟩)
      (InitBack (hp.objs.size + 1) R) ⟨(hp.push (kdv_tup us)).push (excO C hp.objs.size), gs, dr, tk, os⟩) :
    codeAny (model prog w) A (.call (.ref C) ⟨us, []⟩) R ⟨hp, gs, dr, tk, os⟩ := by
  have l1 := tc_lookup
  have l2 := tc_bind (.ref C)
  have ty : (⟨hp, gs, dr, tk, os⟩ : Shared).TypeIs (.ref C) "type" := ⟨_, at_, rfl⟩
  refine codeAny_of_tree ?_
  show wpAny _ _ (callAny (.ref C) _) _ _ _
  repeat (any_goals (first
    | assumption
    | with_reducible refine wpAny_loadPart_at at_ ?_
    | wp_step))
  refine ⟨rfl, codeAny_call_builtin_at (Code.quiet_builtin _ (by decide +kernel)) entry_typeCall
    (wpAny_check_type_call_sub at_ (typeCalls F U at_ li lb hl (codeAny_mono q fun r s' z => ?_)))⟩
  rcases r with x | (v | _ | _ | _) <;> exact z
theorem runsInit (F : InitF B' initId') (hb : bm.contains (.type B') = true) {e t0 : Addr} {us : List Value}
    (at_ : hp.get? C = some (excClassObj nm qn C N bs bm hd sn sub ab col dd s0 s1 s2 s3 s5 newId)) (ate : hp.get? e = some (excO C t0)) (hl : us.length ≤ sizeLine)
    (q : ∀ h' t1, (∀ b o, b ≠ e → hp.get? b = some o → h'.get? b = some o) → h'.get? e = some (excO C t1) → R (.ok (.ret .none)) ⟨h', gs, dr, tk, os⟩) :
    codeAny (model prog w) A (.call (.builtin initId') ⟨.ref e :: us, []⟩) R ⟨hp, gs, dr, tk, os⟩ := by
  refine codeAny_call_builtin F.slot.plain F.entry (seesInit F hb at_ ate rfl ?_)
  wp_walk
  refine q _ hp.objs.size (fun b o hne ho => ?_) ?_
  · rw [Heap.get?_update_other _ _ (Ne.symm hne)]
    exact Heap.get?_push_of_some _ ho
  · rw [Heap.get?_update_self _ (Heap.get?_push_of_some _ ate) rfl] <;> rfl
end
end Ek

set_option Elab.async false
set_option linter.all false
set_option maxRecDepth 100000
set_option maxHeartbeats 4000000
namespace Ek
open PySem PySem.Spec PyProof.Rows L2
open PySem.W (Frag findIn subIn mroIn keepIn hasDictIn clsIn takerIn specialIn takesIn readsIn findCls kitOne excInitIn excOver)
/-- an own exception class at C whose mro behind itself ends with bmB -/
structure EC (K : Frag) (C : Addr) (bmB : List Value) (newId : String) : Prop where
  q : excInitIn K C bmB newId = true
  ov : excOver K C bmB = true
  hd : hasDictIn K C = true
  kC : keepIn K (.ref C) = true
  sa : findIn K (.ref C) "__setattr__" = some (some (.builtin "object.__setattr__"))
/-- how an instance of it is read, and what isinstance asks -/
structure ER (K : Frag) (C : Addr) : Prop where
  hd : hasDictIn K C = true
  ga : findIn K (.ref C) "__getattribute__" = some (some (.builtin "BaseException.__getattribute__"))
  gt : findIn K (.ref C) "__getattr__" = some none
  ex : subIn K (.ref C) (.type "BaseException") = some true
  ca : findIn K (.ref C) "__class__" = some (some (.builtin "object.__class__"))
  ob : mroIn K C (.type "object") = some true
structure ObC (K : Frag) : Prop where
  gn : specialIn K (.builtin "object.__class__") "__get__" = some (some (.builtin "getset_descriptor.__get__"))
  tk : takesIn K (.builtin "object.__class__") = some true
theorem ER.ic {K : Frag} {C : Addr} (R : ER K C) : (clsIn K C).isSome = true := by
  obtain ⟨cd, e, _⟩ := PySem.W.any_some R.hd
  rw [e]
  rfl
section
variable {X : Cx} {pins : List (Addr × Obj)} {σ : L2.St} {H : Hp} {s : Shared} {a C : Addr} {f : Str} {y : V} {u : Value} {bmB : List Value} {B newId : String}
variable {Q : Unit → Shared → Prop} {E : Value → Shared → Prop} {A : Around}
/-- the first attribute of an exception without a dict -/
theorem putFirst (SF : StoreFacts B bmB "object.__setattr__" "object") (T : EC X.K C bmB newId) (I : L2.Inv X pins σ H s) (e : H a = some (exo a C none))
    (nt : takerIn X.K C f = some none) (ry : RelV y u)
    (h : ∀ d s', H d = none → d ≠ a → L2.Inv X pins σ (upd (upd H a (exo a C (some d))) d (exd d [(f, y)])) s' → Q () s') :
    wpAny (model X.prog X.w) A (setAttr (.ref a) f u) Q E s := by
  obtain ⟨t1, ho⟩ := exo_at I.hok e
  obtain ⟨cd, hc, hdct⟩ := PySem.W.any_some T.hd
  obtain ⟨hp, g, dr, t, os⟩ := s
  have lc : ∀ M h, X.K.In h → PySem.W.Looks M h (classData C) cd := fun M h Y => PySem.W.looks_clsIn Y hc
  have lt : a ≠ hp.objs.size := Nat.ne_of_lt (Heap.lt_size ho)
  refine PySem.W.set_plain I.kIn (ox := { cls := .ref C, dict := none, data := .fields #[.ref t1, .none, .none, .none, .bool false, .none] }) (od := none) ⟨ho, rfl, rfl, trivial⟩ T.sa ?_
  refine PySem.W.osa_openX (od := none) SF I.kIn ⟨ho, rfl, rfl, trivial⟩ T.ov nt fun b => ?_
  have hcls := lc (model X.prog X.w) hp I.kIn
  show wpAny _ _ (Builtin.ObjectAttr.storeInOwnDict (.ref a) (.ref C) (.str f t) f u b) _ _ _
  obtain ⟨nm, bs, mro, ns, qn, hd, sn, sb, ab, col, del⟩ := cd
  dsimp only at hdct
  subst hdct
  unfold Builtin.ObjectAttr.storeInOwnDict Builtin.ObjectAttr.ownDictForStores
  repeat (first
    | with_reducible refine PySem.HandSPX.store_in_new ?_ ?_
    | with_reducible refine wpAny_loadPart_at ho ?_
    | with_reducible refine hcls.at ?_
    | wp_step)
  · refine ⟨_, #[], _, (Heap.get?_update_ne _ _ _ _ lt.symm).trans (Heap.get?_push_at rfl rfl), rfl, fun z hz => ?_, fun _ => rfl⟩
    exact absurd hz (by simp)
  · intro h' tk' hn hs
    have ha0 : (hp.push { cls := .type "dict", data := .dict #[] }).get? a = some { cls := .ref C, data := .fields #[.ref t1, .none, .none, .none, .bool false, .none] } := Heap.get?_push_of_some _ ho
    have ha : h'.get? a = some { cls := .ref C, dict := some hp.objs.size, data := .fields #[.ref t1, .none, .none, .none, .bool false, .none] } := by
      rw [hs.2 a lt, Heap.get?_update_self _ ha0 rfl] <;> rfl
    have kp : ∀ b o, b ≠ a → hp.get? b = some o → h'.get? b = some o := fun b o hb ho' => by
      have nb : b ≠ hp.objs.size := Nat.ne_of_lt (Heap.lt_size ho')
      rw [hs.2 b nb, Heap.get?_update_other _ _ (Ne.symm hb)]
      exact Heap.get?_push_of_some _ ho'
    obtain ⟨G, g1, g2⟩ := L2.restrict h' fun b => decide (b ≠ hp.objs.size)
    have gk : ∀ b, b ≠ hp.objs.size → G.get? b = h'.get? b := fun b hb => g1 b (decide_eq_true hb)
    have gd : G.get? hp.objs.size = none := g2 _ (by simp)
    have hn0 : H hp.objs.size = none := I.hok.fresh (Nat.le_refl _)
    have J := I.write (h' := G) (t' := tk') (x := a) (e := a) (o := exo a C (some hp.objs.size)) (by rw [e]; exact True.intro) (.inl rfl)
      (fun b o hb ho' => by rw [gk b (Nat.ne_of_lt (Heap.lt_size ho'))]; exact kp b o hb ho') ⟨_, (gk a lt).trans ha⟩ (exo_ok ((gk a lt).trans ha))
    have nd : (upd H a (exo a C (some hp.objs.size))) hp.objs.size = none := by rw [upd_ne (Ne.symm lt)]; exact hn0
    refine h _ _ hn0 (Ne.symm lt) (J.laidN (h' := h') (t' := tk') (a := hp.objs.size) (fun b o q => ?_) gd nd (exd_ok hn (relO_put (fs := []) ry fun g => True.intro)))
    have q' : G.get? b = some o := q
    by_cases hb : b = hp.objs.size
    · rw [hb, gd] at q'
      cases q'
    · rw [← gk b hb]
      exact q'
/-- the init of a built-in base: nothing of it is told -/
theorem baseInit {B' initId : String} {us : List Value} {Q : Value → Shared → Prop} (F : InitF B' initId) (hB : bmB.contains (.type B') = true) (T : EC X.K C bmB newId) (I : L2.Inv X pins σ H s)
    (e : H a = some (exo a C none)) (hl : us.length ≤ sizeLine) (h : ∀ s', L2.Inv X pins σ H s' → Q .none s') :
    wpAny (model X.prog X.w) A (call (.builtin initId) (.ref a :: us)) Q E s := by
  obtain ⟨nm, N, qn, bs, bm, hd, sn, sub, ab, col, dd, k0, k1, k2, k3, k5, hC, hT⟩ := PySem.W.excInit_of I.kIn T.q
  obtain ⟨t1, ho⟩ := exo_at I.hok e
  obtain ⟨hp, g, dr, t, os⟩ := s
  refine wpAny_call (runsInit F ((hT B').trans hB) hC ho hl fun h' t2 kp hx => ?_)
  have same : upd H a (exo a C none) = H := funext fun b => by
    by_cases hb : b = a
    · rw [hb, upd_same, e]
    · exact upd_ne hb
  have J := I.write (h' := h') (t' := t) (x := a) (e := a) (o := exo a C none) (by rw [e]; exact True.intro) (.inl rfl) kp ⟨_, hx⟩ (exo_ok hx)
  rw [same] at J
  exact h _ J
end

/-- Base.__init__(self, ..) -/
def tBaseI (K : Frag) (bmB : List Value) (newId : String) (ta : TA) : TE := fun σ H Q => ta σ H fun vs H1 =>
  ∃ (a C : Addr) (ws : List V), vs = .ref a :: ws ∧ ws.length ≤ 1000 ∧ EC K C bmB newId ∧ H1 a = some (exo a C none) ∧ Q .non H1
/-- self.f = e, the first -/
def tPut (K : Frag) (bmB : List Value) (newId : String) (f : Str) (to te : TE) : TS := fun D σ H => te σ H fun y H1 => to σ H1 fun x H2 =>
  ∃ a C : Addr, x = .ref a ∧ EC K C bmB newId ∧ takerIn K C f = some none ∧ H2 a = some (exo a C none) ∧
    ∀ d, H2 d = none → d ≠ a → D.nx σ (upd (upd H2 a (exo a C (some d))) d (exd d [(f, y)]))
/-- C(e, ..) by its own __init__ -/
def tMkE (C : Addr) (sp : Sp) (ta : TA) : TE := fun σ H Q => ta σ H fun vs H1 => vs.length ≤ 1000 ∧ ∀ a, H1 a = none →
  sp (.ref a :: vs) (upd H1 a (exo a C none)) (fun v H2 => v = .non ∧ Q (.ref a) H2) fun _ _ _ => False
/-- e.f, f held by the exception's own dict -/
def tAtE (K : Frag) (f : Str) (te : TE) : TE := fun σ H Q => te σ H fun x H1 => ∃ (a C d : Addr) (fs : List (Str × V)) (v : V),
  x = .ref a ∧ ER K C ∧ findIn K (.ref C) f = some none ∧ H1 a = some (exo a C (some d)) ∧ H1 d = some (exd d fs) ∧ fs.lookup f = some v ∧ Q v H1
/-- at a stands an exception of the class at C -/
def ErrAt (H : Hp) (a C : Addr) : Prop := H a = some (ExO (.ref C) a) ∨ ∃ d fs, H a = some (exo a C (some d)) ∧ H d = some (exd d fs)
def rIsX (K : Frag) : List V → Hp → VK → Prop := fun xs H Q => ∃ (a C : Addr) (c : V) (u : Value) (b : Bool), xs = [.ref a, c] ∧ ClsV c u ∧ ErrAt H a C ∧ ER K C ∧ ObC K ∧ kitOne K (.ref C) u = some b ∧ Q (.bl b) H
section
variable {X : Cx} {o e : Expr} {es : List Expr} {to te : TE} {ta : TA} {f : Str} {p p' p1 p2 pos : Pos} {bmB : List Value} {B newId : String}
theorem pe_baseT {B' initId : String} {x : Str} {pl : Sem Bool} (F : InitF B' initId) (hB : bmB.contains (.type B') = true) (hg : Gl X x) (hm : X.mg x = none) (hbt : bootBuiltins x = some (.type B'))
    (typ : typeOf (.type B') = pure (.type "type")) (stub : Manifest.isStub B' = false) (vV : findCls X.K (.type B') (.type "type") "__init__" = some (.val (.builtin initId))) (ha : PA X (e :: es) ta) (hh : PySem.W.handedIn (.builtin initId) = true := by decide +kernel)
    (hn : x ≠ "__name__" := by decide) (hdb : (x == ("__debug__" : Str)) = false := by decide)
    (hc : eval (.Call (.Attribute (.Name x p1) "__init__" p2) (e :: es) [] pos) X.env = (do
      let ov ← eval (.Name x p1) X.env
      standAt p2.atName
      let (f, first) ← holding [ov] (getMethod ov "__init__" pl)
      callWith pos f first (backTo pos (starEach (e :: es) X.env)) (backToKw pos (keywordEach [] X.env))) := by rfl)
    (he : starEach (e :: es) X.env = (false, eval e X.env) :: starEach es X.env := by rfl) (hpl : (backTo pos (starEach es X.env)).any (·.1) = false := by rfl) :
    PE X (.Call (.Attribute (.Name x p1) "__init__" p2) (e :: es) [] pos) (tBaseI X.K bmB newId ta) := by
  refine ⟨fun pins s σ H Q I h => PySem.W.methodCall_KW (ld_blt I hg hm hbt ?_ hn hdb) hc⟩
  obtain ⟨m, fr⟩ := I.fr
  refine PySem.W.method_type fr I.ok.mod.kin typ stub vV hh ?_
  show wpAny _ _ (callWith pos (Value.builtin initId) [] (backTo pos (starEach (e :: es) X.env)) []) _ _ _
  refine PyProof.Rows.callWith_method1 (thn (ha.run pos pins _ σ H _ (I.tok _) h) fun us s1 ⟨vs, H1, I1, r1, a, C, ws, ev, hl, T, ea, q⟩ => ?_) he hpl
  subst ev
  cases r1 with
  | @cons _ u0 _ ur ra rw' =>
    obtain rfl : u0 = Value.ref a := ra
    have hl2 : ur.length ≤ sizeLine := by
      rw [← Paired.length rw', sizeLine_eq]
      omega
    exact baseInit F hB T I1 ea hl2 fun s' J => ⟨.non, H1, J, rfl, q⟩
theorem pe_baseC {B' initId : String} {x : Str} {CB : Addr} {pl : Sem Bool} (F : InitF B' initId) (hB : bmB.contains (.type B') = true) (hg : Gl X x) (hm : X.mg x = some (.ref CB))
    (gg : specialIn X.K (.ref CB) "__getattribute__" = some (some (.builtin "type.__getattribute__"))) (rd : readsIn X.K CB (.type "type") = true)
    (vV : findCls X.K (.ref CB) (.type "type") "__init__" = some (.val (.builtin initId))) (ha : PA X (e :: es) ta) (hh : PySem.W.handedIn (.builtin initId) = true := by decide +kernel)
    (hdb : (x == ("__debug__" : Str)) = false := by decide)
    (hc : eval (.Call (.Attribute (.Name x p1) "__init__" p2) (e :: es) [] pos) X.env = (do
      let ov ← eval (.Name x p1) X.env
      standAt p2.atName
      let (f, first) ← holding [ov] (getMethod ov "__init__" pl)
      callWith pos f first (backTo pos (starEach (e :: es) X.env)) (backToKw pos (keywordEach [] X.env))) := by rfl)
    (he : starEach (e :: es) X.env = (false, eval e X.env) :: starEach es X.env := by rfl) (hpl : (backTo pos (starEach es X.env)).any (·.1) = false := by rfl) :
    PE X (.Call (.Attribute (.Name x p1) "__init__" p2) (e :: es) [] pos) (tBaseI X.K bmB newId ta) := by
  refine ⟨fun pins s σ H Q I h => PySem.W.methodCall_KW (ld_glob I hg hm ?_ hdb) hc⟩
  refine PySem.W.method_cls I.kIn gg (PySem.W.cls_value I.kIn rd vV hh ?_)
  show wpAny _ _ (callWith pos (Value.builtin initId) [] (backTo pos (starEach (e :: es) X.env)) []) _ _ _
  refine PyProof.Rows.callWith_method1 (thn (ha.run pos pins _ σ H _ (I.tok _) h) fun us s1 ⟨vs, H1, I1, r1, a, C, ws, ev, hl, T, ea, q⟩ => ?_) he hpl
  subst ev
  cases r1 with
  | @cons _ u0 _ ur ra rw' =>
    obtain rfl : u0 = Value.ref a := ra
    have hl2 : ur.length ≤ sizeLine := by
      rw [← Paired.length rw', sizeLine_eq]
      omega
    exact baseInit F hB T I1 ea hl2 fun s' J => ⟨.non, H1, J, rfl, q⟩
theorem ps_put (SF : StoreFacts B bmB "object.__setattr__" "object") (ho : PE X o to) (he : PE X e te) (hs : swapsWith e (some (.Attribute o f p')) pos.line X.env = pure false := by rfl) :
    PS X (.Assign [.Attribute o f p'] e pos) (tPut X.K bmB newId f to te) := by
  refine ⟨fun pins s σ H D I h => ?_⟩
  refine plainObj_wpAny_Assign_Attribute (thn (he.run pins s σ H _ I h) fun v s1 ⟨y, H1, I1, r1, q1⟩ => thn (ho.run pins s1 σ H1 _ I1 q1) fun u s2 ⟨x, H2, I2, r2, a, C, ex, T, nt, ea, q⟩ => ?_) hs
  subst ex
  obtain rfl : u = Value.ref a := r2
  exact putFirst SF T I2 ea nt r1 fun d s' n ne J => ⟨σ, _, J, q d n ne⟩
theorem pe_mkE {CX : CXT} {x : Str} {C fI : Addr} {k : Nat} {fd : FuncData} {ps : List Str} {sp : Sp} {BN BI initId : String} {bN : List Value} (FN : ExcBaseFacts BN newId initId bN)
    (U : Above bmB BN BI) (T : EC X.K C bmB newId) (iC : findIn X.K (.ref C) "__init__" = some (some (.ref fI))) (tI : PySem.W.typeIn X.K (.ref fI) = some (.type "function"))
    (F1 : FnOk X.prog X.w X.K X.mg X.base CX k fI fd ps sp) (hr : Room (k + 1) X.A) (hb : Binds X.K fd ps []) (hx : Passes CX X (fun _ _ _ => False)) (hg : Gl X x) (hm : X.mg x = some (.ref C)) (ha : PA X (e :: es) ta)
    (hdb : (x == ("__debug__" : Str)) = false := by decide) (he : starEach (e :: es) X.env = (false, eval e X.env) :: starEach es X.env := by rfl) (hpl : (backTo pos (starEach es X.env)).any (·.1) = false := by rfl) :
    PE X (.Call (.Name x p) (e :: es) [] pos) (tMkE C sp ta) := by
  refine ⟨fun pins s σ H Q I h => ?_⟩
  refine wpAny_Call_Name_kw (ld_glob I hg hm ?_ hdb)
  refine PySem.W.callWith_K (h₀ := X.base) I.ok.mod.kin T.kC (thn (ha.run pos pins s σ H _ I h) fun us s1 ⟨vs, H1, I1, r1, hz, q1⟩ => ⟨I1.kIn, ?_⟩) he hpl
  show wpAny _ _ (call (.ref C) us) _ _ _
  obtain ⟨nm, N, qn, bs, bm, hd, sn, sub, ab, col, dd, k0, k1, k2, k3, k5, hC, hT⟩ := PySem.W.excInit_of I1.kIn T.q
  have U' : Above bm BN BI := ⟨(hT _).trans U.n, (hT _).trans U.i, (hT _).trans U.a, (hT _).trans U.u⟩
  obtain ⟨hp, g, dr, tk, os⟩ := s1
  have up : hp.objs.size ≤ hp.objs.size + 1 := Nat.le_succ _
  have hn : H1 (hp.objs.size + 1) = none := I1.hok.fresh up
  have hq := q1 (hp.objs.size + 1) hn
  have kk : ∀ b o, hp.get? b = some o → ((hp.push (PySem.W.kdv_tup us)).push (PySem.HandSPX.excO C hp.objs.size)).get? b = some o := fun b o e => Heap.get?_push_of_some _ (Heap.get?_push_of_some _ e)
  have hget : ((hp.push (PySem.W.kdv_tup us)).push (PySem.HandSPX.excO C hp.objs.size)).get? (hp.objs.size + 1) = some (PySem.HandSPX.excO C hp.objs.size) := by heap_get
  have I2 := I1.laid (t' := tk) (a := hp.objs.size + 1) (o := exo (hp.objs.size + 1) C none) (h' := (hp.push (PySem.W.kdv_tup us)).push (PySem.HandSPX.excO C hp.objs.size)) kk up (exo_ok hget)
  have r2 : Vals (V.ref (hp.objs.size + 1) :: vs) (Value.ref (hp.objs.size + 1) :: us) := .cons rfl r1
  have r3 : Vals (V.ref (hp.objs.size + 1) :: vs) (Value.ref (hp.objs.size + 1) :: us ++ []) := by rw [List.append_nil]; exact r2
  have hl : (Value.ref (hp.objs.size + 1) :: us ++ []).length = ps.length := r3.length.symm.trans (F1.len _ _ _ _ hq)
  have hus : us.length ≤ sizeLine := by
    rw [← Paired.length r1, sizeLine_eq]
    omega
  refine wpAny_call (clsCalls FN U' hC (PySem.W.looks_findIn I1.kIn iC) (fun self => PySem.W.bind_fn I1.kIn self tI) hus
    (codeAny_mono (F1.run _ X.stack _ _ ⟨Value.ref (hp.objs.size + 1) :: us, []⟩ (Value.ref (hp.objs.size + 1) :: us ++ []) _ _ (fun _ _ _ => False) (hr.make C us []) (I2.env0.make C us [])
      (hb _ (Value.ref (hp.objs.size + 1) :: us) I2.kIn hl) r3 hq) fun r s' hq' => ?_))
  cases r with
  | error er => exact hx pins σ _ _ er s' I2 hq'
  | ok fl =>
    cases fl with
    | ret u =>
      obtain ⟨v, H2, I3, rv, ev, q2⟩ := I2.after hq'
      subst ev
      exact ⟨rv, ⟨V.ref (hp.objs.size + 1), H2, I3, rfl, q2⟩⟩
    | next => exact False.elim hq'
    | brk => exact False.elim hq'
    | cont => exact False.elim hq'
theorem pe_atE (he : PE X e te) (hb : attributeBase e f X.env (eval e X.env) = eval e X.env := by rfl) : PE X (.Attribute e f pos) (tAtE X.K f te) := by
  refine ⟨fun pins s σ H Q I h => attr_of hb (thn (he.run pins s σ H _ I h) fun u s1 hh => ?_)⟩
  obtain ⟨x, H1, I1, rx, a, C, d, fs, v, ex, R, no, ea, ed, hl, q⟩ := hh
  subst ex
  obtain rfl : u = Value.ref a := rx
  obtain ⟨t1, ho⟩ := exo_at I1.hok ea
  obtain ⟨mA, hns, rel⟩ := exd_at I1.hok ed
  obtain ⟨od, hod, lk⟩ := lookIn_ns hns
  obtain ⟨u, hu, ru⟩ := RelO.some_of (v := v) (o := mA f) (by rw [← hl]; exact rel f)
  refine PySem.HandSPX.exc_get I1.kIn (od := some od) ⟨ho, rfl, rfl, hod⟩ R.ga R.gt R.ex (PySem.W.findObj_own R.hd no rfl (by rw [lk, hu])) (handed_of ru) ?_
  exact ⟨v, H1, I1.tok _, ru, q⟩
theorem call_isX : CallR X (.builtin "isinstance") (rIsX X.K) := by
  intro pins s σ H xs us Q I r h
  obtain ⟨a, C, c, u, b, rfl, kc, ea, R, O, kb, q⟩ := h
  obtain ⟨u1, u2, rfl, r1, r2⟩ := vals2 r
  obtain rfl : u1 = Value.ref a := r1
  obtain rfl := kc.eq r2
  rcases ea with ea | ⟨d, fs, ea, ed⟩
  · have z : ObjOk X.prog X.w H s.heap a (ExO (.ref C) a) := I.hok a _ ea
    obtain ⟨⟨oe, vs, ho, hz, hv, _⟩, _⟩ := z
    have J : PySem.W.InstAt s.heap a oe C none := ⟨ho, hz.1, by unfold PySem.W.notCls; rw [hv] <;> rfl, by rw [hz.2]; exact trivial⟩
    exact PySem.W.kia_one (PySem.W.kitx_exc R.ic R.ga R.gt R.ex R.ca O.gn O.tk R.ob) I.kIn J kb (fun z => nomatch z) fun tk => ⟨.bl b, H, I.tok tk, rfl, q⟩
  · obtain ⟨t1, ho⟩ := exo_at I.hok ea
    obtain ⟨mA, hns, rel⟩ := exd_at I.hok ed
    obtain ⟨od, hod, lk⟩ := lookIn_ns hns
    have J : PySem.W.InstAt s.heap a { cls := .ref C, dict := some d, data := .fields #[.ref t1, .none, .none, .none, .bool false, .none] } C (some od) := ⟨ho, rfl, rfl, hod⟩
    exact PySem.W.kia_one (PySem.W.kitx_exc R.ic R.ga R.gt R.ex R.ca O.gn O.tk R.ob) I.kIn J kb (fun z => nomatch z) fun tk => ⟨.bl b, H, I.tok tk, rfl, q⟩
end
end Ek

set_option Elab.async false
set_option linter.all false
set_option maxRecDepth 100000
set_option maxHeartbeats 4000000
/-! several except clauses, some of them with a name -/
namespace TM
open PySem PySem.Spec PyProof.Rows L2
abbrev Cl := Value × Option Nat × (Addr → Value → Option Addr → TS)
/-- where a suite goes on whose name (slot i) goes behind it -/
def drop (o : Option Nat) (D : Ends) : Ends := match o with
  | none => D
  | some i => { nx := fun z H' => D.nx (z.set i none) H', rt := D.rt, bk := fun z H' => D.bk (z.set i none) H', ct := fun z H' => D.ct (z.set i none) H' }
def give (o : Option Nat) (a : Addr) (σ : L2.St) : L2.St := match o with
  | none => σ
  | some i => σ.set i (some (.ref a))
def wMix (K : PySem.W.Frag) (Wo : WX) (D : Ends) : List Cl → WX
  | [] => Wo
  | c :: r => fun cls d σ H => ∃ b, PySem.W.exmOne K cls c.1 = some b ∧ (b = true → ∀ a, H a = none → c.2.2 a cls d (drop c.2.1 D) (give c.2.1 a σ) H) ∧ (b = false → wMix K Wo D r cls d σ H)
/-- the suite of a clause keeps its reading -/
def SuiteOk (X : Cx) (body : List Stmt) (ts : Addr → Value → Option Addr → TS) : Prop :=
  ∀ (a : Addr) (oe : Obj) (cls : Value) (d : Option Addr) (pn : List (Addr × Obj)), Zc cls d oe → (∃ vs, oe.data = .fields vs) → PSs (X.suite a ((a, oe) :: pn)) body (ts a cls d)
inductive Hds (X : Cx) : List ExceptHandler → List Cl → Prop
  | nil : Hds X [] []
  | bare {x : Str} {c : Value} {ts} {b₀ : Stmt} {su : List Stmt} {np q : Pos} {hs : List ExceptHandler} {l : List Cl} (hc : Names X x c) (s : SuiteOk X (b₀ :: su) ts) (r : Hds X hs l) :
      Hds X (.ExceptHandler (some (.Name x np)) none (b₀ :: su) q :: hs) ((c, none, ts) :: l)
  | named {x n : Str} {c : Value} {i : Nat} {ts} {b₀ : Stmt} {su : List Stmt} {np q : Pos} {hs : List ExceptHandler} {l : List Cl} (nd : X.N.Nodup) (hi : X.N[i]? = some n) (hl : X.env.kindOf n = some .local) (hc : Names X x c) (s : SuiteOk X (b₀ :: su) ts) (r : Hds X hs l) :
      Hds X (.ExceptHandler (some (.Name x np)) (some n) (b₀ :: su) q :: hs) ((c, some i, ts) :: l)
section
variable {X : Cx}
theorem nameRead {x : Str} {c : Value} {np : Pos} {a : Addr} {oe : Obj} {pn : List (Addr × Obj)} {σ : L2.St} {H : Hp} {s : Shared} {Q E : Value → Shared → Prop} (hc : Names X x c) (S : Inv (X.suite a ((a, oe) :: pn)) [] σ H s)
    (q : Q c s) : wpAny (model X.prog X.w) (X.A.mark (some (.ref a))) (eval (.Name x np) X.env) Q E s := by
  rcases hc with ⟨g, nb, own | ⟨no, bv, nn⟩⟩
  · exact ld_glob (X := X.suite a ((a, oe) :: pn)) S g own q nb
  · exact ld_blt (X := X.suite a ((a, oe) :: pn)) S g no bv q nn nb
/-- no clause takes it -/
theorem passes {B : Heap} {Z : Obj → Prop} {a : Addr} {Q : Flow → Shared → Prop} {E : Value → Shared → Prop} {s' : Shared} {h3 : Heap} (hf : X.env.frame = some X.env.locals) (fl : HandSPX.FlyingZ B (X.env :: X.outer) a Z h3)
    (k : ∀ h4, HandSPX.HeldZ B (X.env :: X.outer) a Z X.env.locals h4 → h3.UpToSlots h4 → E (.ref a) { s' with heap := h4 }) :
    wpAny (model X.prog X.w) X.A (handleBy (.ref a) X.env []) Q E { s' with heap := h3 } := by
  refine wpAny_handleBy_nil ?_
  obtain ⟨_, _, _, _, _, T, _, _, he, _, hd, h1, _⟩ := id fl
  unfold PySem.passOn
  refine wpAny_bind (wpAny_field he hd h1 ?_)
  rw [if_neg (by simp : ¬ ((Value.ref T == Value.none) = true))]
  have out : wpAny (model X.prog X.w) X.A (setFlight (.ref a) X.env.frame) (fun _ s4 => wpAny (model X.prog X.w) X.A (throw (.ref a) : Sem Flow) Q E s4) E { s' with heap := h3 } := by
    rw [hf]
    exact HandSPX.setFlight_upZ fl fun h4 f4 u4 => wpAny_throw (k h4 f4 u4)
  first | exact wpAny_bind (wpAny_pure (wpAny_bind out)) | exact wpAny_bind out
theorem ps_try_mix {body : List Stmt} {h₀ : ExceptHandler} {hds : List ExceptHandler} {l : List Cl} {pos : Pos} {tb : WX → TS} {Wo : WX} (hs : X.stack = X.env :: X.outer) (hf : X.env.frame = some X.env.locals) (tk : Takes X Wo)
    (hb : ∀ (W : WX) (pn : List (Addr × Obj)) (xe : Value → Shared → Prop), Takes (X.tr pn xe) W → PassesOwn (model X.prog X.w) X.A X.env xe → PSs (X.tr pn xe) body (tb W)) (hh : Hds X (h₀ :: hds) l) :
    PS X (.Try body (h₀ :: hds) [] [] pos) (fun D σ H => tb (wMix X.K Wo D l) D σ H) := by
  refine ⟨fun pins s σ H D I h => ?_⟩
  have ok := I.ok
  have fr : X.A.frames = some (X.env :: X.outer) := by rw [ok.frames, hs]
  refine wpAny_Try_except (wpAny_mono ((hb (wMix X.K Wo D l) (X.pn ++ pins) _ ?caught PassesOwn.looking).run [] s σ H D (I.toTry _) h) (fun f s1 fin => ?done) fun _ _ z => z)
  case done =>
    cases f with
    | next => exact let ⟨z, Hz, J, q⟩ := fin; wpAny_execs_nil ⟨z, Hz, J.ofTry ok, q⟩
    | brk => exact let ⟨z, Hz, J, q⟩ := fin; ⟨z, Hz, J.ofTry ok, q⟩
    | cont => exact let ⟨z, Hz, J, q⟩ := fin; ⟨z, Hz, J.ofTry ok, q⟩
    | ret u => exact let ⟨v, z, Hz, J, r, q⟩ := fin; ⟨v, z, Hz, J.ofTry ok, r, q⟩
  case caught =>
    rintro u s' ⟨a, B, sI, _, z, Hz, cls, d, rfl, Jt, nb, up, sky, na, os, ag, w⟩
    have J : Inv X pins z Hz sI := Jt.ofTry ok
    rw [hs] at sky
    refine Sky.land Zc.steady fr hf sky fun h3 f3 u3 => ?_
    have J3 : Inv X pins z Hz { s' with heap := h3 } := J.landed nb f3.1 (up.trans u3) os ag
    have apart : ∀ {h : Heap} {o : Obj} {vs : Array Value}, h.FunFrames B (X.env :: X.outer) → h.get? a = some o → o.data = .fields vs → a ∉ frs (X.env :: X.outer) := fun ff e dd hm => by
      obtain ⟨_, o', e', hn⟩ := ff.mem hm
      cases e.symm.trans e'
      exact hn _ dd
    obtain ⟨o3, v3, e3, z3, d3⟩ := f3.there
    have nf := apart f3.2.2.1 e3 d3
    have nl : a ≠ X.env.locals := fun q => nf (List.mem_filterMap.mpr ⟨X.env, List.mem_cons_self, by rw [hf, q]⟩)
    have no : a ∉ X.fs := fun hm => let ⟨e, he, q⟩ := List.mem_filterMap.mp hm; nf (List.mem_filterMap.mpr ⟨e, List.mem_cons_of_mem _ he, q⟩)
    have S3 := J3.suite e3 d3 na nl no
    have LT : PySem.W.Looks (model X.prog X.w) h3 (typeOf (.ref a)) cls := fun A Q E s k q => wpAny_typeOf_ref (k _ _ e3) (by rw [z3.1]; exact q)
    -- once more held by the frame, with the suite's invariant
    have again : ∀ {h4 : Heap}, HandSPX.FlyingZ B (X.env :: X.outer) a (Zc cls d) h4 → h3.UpToSlots h4 → ∃ o4, Inv (X.suite a ((a, o4) :: (X.pn ++ pins))) [] z Hz { s' with heap := h4 } ∧ Zc cls d o4 ∧ ∃ vs, o4.data = .fields vs := fun {h4} f4 u4 => by
      obtain ⟨o4, v4, e4, z4, d4⟩ := f4.there
      have J4 : L2.Inv X pins z Hz { s' with heap := h4 } := J.landed nb f4.1 ((up.trans u3).trans u4) os ag
      exact ⟨o4, J4.suite e4 d4 na nl no, z4, _, d4⟩
    have go : ∀ {hs' : List ExceptHandler} {l' : List Cl}, Hds X hs' l' → wMix X.K Wo D l' cls d z Hz → wpAny (model X.prog X.w) X.A (handleBy (.ref a) X.env hs') (SP X pins D) X.xe { s' with heap := h3 } := by
      intro hs' l' hk
      induction hk with
      | nil =>
        intro w
        refine passes hf f3 fun h4 f4 u4 => tk _ _ ?_
        exact ⟨a, B, sI, pins, z, Hz, cls, d, rfl, J, nb, (up.trans u3).trans u4, .inr (.inr (by rw [hs]; exact f4)), na, os, ag, w⟩
      | bare hc hsu r ih =>
        rintro ⟨b, hb1, yes, nope⟩
        refine wpAny_handleBy_cons (codeAny_handlers_test (nameRead hc S3 ((PySem.W.exm_one (M := model X.prog X.w) J3.kIn LT hb1).here ?_))) (by intro q; cases q)
        cases b with
        | false => exact ih (nope rfl)
        | true =>
          refine codeAny_handlers_suite (HandSPX.lands_againZ f3 fun h4 f4 u4 => ?_)
          obtain ⟨o4, S4, z4, w4⟩ := again f4 u4
          refine wpAny_mono ((hsu a o4 cls d (X.pn ++ pins) z4 w4).run [] _ _ Hz _ S4 (yes rfl a na)) (fun f s6 fin => ?_) fun _ _ x => x.elim
          cases f with
          | next => exact let ⟨y, Hy, S, q⟩ := fin; ⟨y, Hy, S.unsuite ok, q⟩
          | brk => exact let ⟨y, Hy, S, q⟩ := fin; ⟨y, Hy, S.unsuite ok, q⟩
          | cont => exact let ⟨y, Hy, S, q⟩ := fin; ⟨y, Hy, S.unsuite ok, q⟩
          | ret u => exact let ⟨v, y, Hy, S, r, q⟩ := fin; ⟨v, y, Hy, S.unsuite ok, r, q⟩
      | @named x n c i ts b₀ su np pq hs2 l2 nd hi hl hc hsu r ih =>
        rintro ⟨b, hb1, yes, nope⟩
        refine wpAny_handleBy_cons (codeAny_handlers_test (nameRead hc S3 ((PySem.W.exm_one (M := model X.prog X.w) J3.kIn LT hb1).here ?_))) (by intro q; cases q)
        cases b with
        | false => exact ih (nope rfl)
        | true =>
          refine codeAny_handlers_suite_as (HandSPX.lands_againZ f3 fun h4 f4 u4 => ?_)
          obtain ⟨o4, S4, z4, w4⟩ := again f4 u4
          refine store_ok (X := X.suite a ((a, o4) :: (X.pn ++ pins))) (v := .ref a) S4 nd hi (.inl hl) rfl (fun s5 S5 => ?_) (.inr hl)
          refine wpAny_mono ((hsu a o4 cls d (X.pn ++ pins) z4 w4).run [] s5 _ Hz _ S5 (yes rfl a na)) (fun f s6 fin => ?_) fun _ _ x => x.elim
          have gone : ∀ {y : L2.St} {Hy : Hp} {Q : Shared → Prop}, Inv (X.suite a ((a, o4) :: (X.pn ++ pins))) [] y Hy s6 → (∀ s7, Inv X pins (y.set i none) Hy s7 → Q s7) →
              wpAny (model X.prog X.w) X.A (do bindName X.env n .none; unbindBehindTheSuite X.env n pq) (fun _ s7 => Q s7) X.xe s6 := fun S q => gone_ok (S.unsuite ok) nd hi hl q
          cases f with
          | next => exact let ⟨y, Hy, S, q⟩ := fin; gone S fun s7 J7 => ⟨_, _, J7, q⟩
          | brk => exact let ⟨y, Hy, S, q⟩ := fin; gone S fun s7 J7 => ⟨_, _, J7, q⟩
          | cont => exact let ⟨y, Hy, S, q⟩ := fin; gone S fun s7 J7 => ⟨_, _, J7, q⟩
          | ret u => exact let ⟨v, y, Hy, S, r, q⟩ := fin; gone S fun s7 J7 => ⟨_, _, _, J7, r, q⟩
    exact go hh w
end
end TM

set_option Elab.async false
set_option linter.all false
set_option maxRecDepth 100000
set_option maxHeartbeats 4000000
/-! operators, len, items by own methods -/
namespace OO
open PySem PySem.Spec PyProof.Rows L2
/-- a method of its own that is asked by the machine: the class has it as a plain def -/
structure Dun (K : PySem.W.Frag) (C : Addr) (m : Str) (f : Addr) : Prop where
  at_ : PySem.W.findIn K (.ref C) m = some (some (.ref f))
  fn : PySem.W.isFn K (.ref f) = true
section
variable {X : Cx} {CX : CXT} {k : Nat} {C f : Addr} {fd : FuncData} {ps : List Str} {sp : Sp} {E : XK} {pins : List (Addr × Obj)} {σ : L2.St} {H : Hp} {s : Shared} {Q : VK}
theorem run_deep {us : List Value} {vs : List V} (F : FnOk X.prog X.w X.K X.mg X.base CX k f fd ps sp) (hr : Room (k + 1) X.A) (hb : Binds X.K fd ps []) (hx : Passes CX X E) (I : L2.Inv X pins σ H s) (r : Vals vs us) (h : sp vs H Q E) :
    wpAny (model X.prog X.w) X.A.in1 (call (.ref f) us) (EP X pins σ Q) X.xe s := by
  have hl : (us ++ []).length = ps.length := by
    rw [List.append_nil, ← r.length]
    exact F.len _ _ _ _ h
  have bd := hb s us I.kIn hl
  rw [List.append_nil] at bd
  refine wpAny_call (codeAny_mono (F.run X.A.in1 X.stack s H ⟨us, []⟩ us vs Q E hr.in1 I.env0.in1 bd r h) fun r s' hq => ?_)
  cases r with
  | error e => exact hx pins σ H s e s' I hq
  | ok fl =>
    cases fl with
    | ret u => exact I.after hq
    | next => exact hq.elim
    | brk => exact hq.elim
    | cont => exact hq.elim
theorem run_own {us : List Value} {vs : List V} (F : FnOk X.prog X.w X.K X.mg X.base CX k f fd ps sp) (hr : Room k X.A) (hb : Binds X.K fd ps []) (hx : Passes CX X E) (I : L2.Inv X pins σ H s) (r : Vals vs us) (h : sp vs H Q E) :
    wpAny (model X.prog X.w) X.A (call (.ref f) us) (EP X pins σ Q) X.xe s := run_fn (dvs := []) F hr hb .nil hx I r (by rw [List.append_nil]; exact h)
theorem back_of {w : Value} {s' : Shared} (h : EP X pins σ Q w s') : PySem.W.CmpBack (EP X pins σ Q) w s' := by
  obtain ⟨z, H', I', rz, q⟩ := id h
  cases w with
  | notImplemented => cases z <;> first | (cases rz; done) | exact (nomatch rz) | (obtain ⟨_, e⟩ := rz; cases e)
  | _ => exact h
/-- what binaryOp asks of an own class and of the other operand's built-in type -/
structure BinT (K : PySem.W.Frag) (C : Addr) (op : Operator) (T : String) : Prop where
  own : ∃ rc, PySem.W.findIn K (.ref C) (dunderR op.info.2) = some rc ∧ (rc = none ∨ ∃ g : Addr, rc = some (.ref g))
  here : ∃ fo, PySem.W.findIn K (.type T) (PySem.dunder op.info.2) = some fo
  refl : ∃ ro, PySem.W.findIn K (.type T) (dunderR op.info.2) = some ro
  sub : PySem.W.subIn K (.type T) (.ref C) = some false
/-- one + other, .. of one class -/
theorem op_same {op : Operator} (D : Dun X.K C (PySem.dunder op.info.2) f) (hc : PySem.W.selfFirst X.K C = true) (F : FnOk X.prog X.w X.K X.mg X.base CX k f fd ps sp) (hr : Room k X.A) (hb : Binds X.K fd ps []) (hx : Passes CX X E) :
    OpR X (binaryOp op) (fun x y H Q => ∃ a b dx dy fs gs, x = .ref a ∧ y = .ref b ∧ H a = some (.ins C dx fs) ∧ H b = some (.ins C dy gs) ∧ sp [x, y] H Q E) := by
  intro pins s σ H x y v u Q I rx ry ⟨a, b, dx, dy, fs, gs, ex, ey, ha, hb', h⟩
  subst ex ey
  cases rx
  cases ry
  obtain ⟨mA, J, _⟩ := ins_get I.hok ha
  obtain ⟨mB, J', _⟩ := ins_get I.hok hb'
  obtain ⟨od, J, _⟩ := J.look
  obtain ⟨od', J', _⟩ := J'.look
  obtain ⟨m, hF⟩ := I.fr
  refine PySem.W.binop_K hF I.ok.mod.kin J J'.type hc D.at_ D.fn ?_
  exact wpAny_mono (run_own (vs := [.ref a, .ref b]) F hr hb hx I (.cons rfl (.cons rfl .nil)) h) (fun _ _ z => back_of z) fun _ _ z => z
theorem len_own (D : Dun X.K C "__len__" f) (F : FnOk X.prog X.w X.K X.mg X.base CX k f fd ps sp) (hr : Room (k + 1) X.A) (hb : Binds X.K fd ps []) (hx : Passes CX X E) :
    CallR X (.builtin "len") (fun xs H Q => ∃ a dx fs, xs = [.ref a] ∧ H a = some (.ins C dx fs) ∧ sp xs H (fun z H' => ∃ n : Nat, z = .int n ∧ n ≤ 1000000 ∧ Q z H') E) := by
  intro pins s σ H xs us Q I r ⟨a, dx, fs, ex, ha, h⟩
  subst ex
  cases r with
  | cons ra rr =>
    cases rr
    cases ra
    obtain ⟨mA, J, _⟩ := ins_get I.hok ha
    obtain ⟨od, J, _⟩ := J.look
    obtain ⟨m, hF⟩ := I.fr
    refine PySem.W.len_K hF I.ok.mod.kin J D.at_ D.fn ?_
    refine wpAny_mono (run_deep (vs := [.ref a]) F hr hb hx I (.cons rfl .nil) h) (fun v s' z => ?_) fun _ _ z => z
    obtain ⟨y, H', I', ry, n, ey, hn, q⟩ := z
    subst ey
    obtain ⟨tk, rfl⟩ := ry
    exact ⟨⟨by omega, by omega⟩, .int n, H', I'.tok _, ⟨_, rfl⟩, q⟩
/-- o + b, o >> b, .. where b is a built-in thing -/
theorem bin_there {op : Operator} {a dx : Addr} {fs : List (Str × V)} {b : Value} {T : String} {R : Value → Shared → Prop} (I : L2.Inv X pins σ H s) (ha : H a = some (.ins C dx fs)) (tb : PySem.W.Looks (model X.prog X.w) s.heap (typeOf b) (.type T))
    (D : Dun X.K C (PySem.dunder op.info.2) f) (hc : PySem.W.selfFirst X.K C = true) (B : BinT X.K C op T) (h : wpAny (model X.prog X.w) X.A (call (.ref f) [.ref a, b]) (PySem.W.CmpBack R) X.xe s) :
    wpAny (model X.prog X.w) X.A (binaryOp op (.ref a) b) R X.xe s := by
  obtain ⟨_, J, _⟩ := ins_get I.hok ha
  obtain ⟨_, J, _⟩ := J.look
  obtain ⟨cd, rest, e1, e2⟩ := PySem.W.ksp_first hc
  obtain ⟨⟨rc, o1, o2⟩, ⟨fo, g1⟩, ⟨ro, g2⟩, g3⟩ := B
  have act := PySem.W.ksp_try I.kIn J D.at_ D.fn h
  have K1 := I.kIn
  rcases eo : op.info with ⟨sy, nm⟩
  have own := D.at_
  rw [eo] at own o1 g1 g2 act
  dsimp only at own o1 g1 g2 act
  obtain ⟨hp, ge, dr, tk, os⟩ := s
  have a1 : PySem.W.Looks (model X.prog X.w) hp (fillsNumberSlot (.ref C) nm) true := PySem.W.fills_K K1 e1 e2 own
  have a2 : PySem.W.Looks (model X.prog X.w) hp (typeOf (.ref a)) (.ref C) := J.type
  have a3 : PySem.W.Looks (model X.prog X.w) hp (numberSlotInPython (.ref C) nm) true := PySem.W.ksp_inPy K1 own o1 o2
  have a4 : PySem.W.Looks (model X.prog X.w) hp (numberSlotInPython (.type T) nm) false := PySem.W.Looks.of_pure rfl
  have a5 : PySem.W.Looks (model X.prog X.w) hp (typeLookup (.type T) (dunderR nm)) ro := PySem.W.looks_findIn K1 g2
  have a6 : PySem.W.Looks (model X.prog X.w) hp (isSubtype (.type T) (.ref C)) false := PySem.W.looks_subIn K1 g3
  have a7 : ∃ r, PySem.W.Looks (model X.prog X.w) hp (fillsNumberSlot (.type T) nm) r := ⟨_, PySem.W.ksp_fillsT K1 g1 g2⟩
  have a8 : PySem.W.Looks (model X.prog X.w) hp (typeOf b) (.type T) := tb
  obtain ⟨r, a7⟩ := a7
  have apart : (Value.ref C == Value.type T) = false := Bool.eq_false_iff.mpr fun q => nomatch beq_iff_eq.mp q
  simp only [binaryOp, eo]
  refine wpAny_holding (wpAny_bind ?_)
  unfold binaryOp1
  refine wpAny_bind (a2.at (wpAny_bind (a8.at (wpAny_bind (a1.at ?_)))))
  simp only [apart, Bool.false_eq_true, if_false]
  cases r <;>
  · ksp_lk
    refine wpAny_mono act (fun _ _ ⟨_, e, q⟩ => ?_) fun _ _ e => e
    subst e
    ksp_lk
    exact q
theorem op_with {op : Operator} {T : String} (D : Dun X.K C (PySem.dunder op.info.2) f) (hc : PySem.W.selfFirst X.K C = true) (B : BinT X.K C op T) (F : FnOk X.prog X.w X.K X.mg X.base CX k f fd ps sp) (hr : Room k X.A) (hb : Binds X.K fd ps []) (hx : Passes CX X E) :
    OpR X (binaryOp op) (fun x y H Q => ∃ a dx fs, x = .ref a ∧ TyOf X.K H y (.type T) ∧ H a = some (.ins C dx fs) ∧ sp [x, y] H Q E) := by
  intro pins s σ H x y v u Q I rx ry ⟨a, dx, fs, ex, ty, ha, h⟩
  subst ex
  cases rx
  have tb : PySem.W.Looks (model X.prog X.w) s.heap (typeOf u) (.type T) := by
    generalize eT : Value.type T = tv at ty
    cases ty with
    | non => cases (show u = Value.none from ry); cases eT; exact PySem.W.Looks.of_pure rfl
    | bl y => cases (show u = Value.bool y from ry); cases eT; exact PySem.W.Looks.of_pure rfl
    | int y => obtain ⟨t, rfl⟩ := (show ∃ t, u = Value.int y t from ry); cases eT; exact PySem.W.Looks.of_pure rfl
    | str y => obtain ⟨t, rfl⟩ := (show ∃ t, u = Value.str y t from ry); cases eT; exact PySem.W.Looks.of_pure rfl
    | flt y => obtain ⟨t, rfl⟩ := (show ∃ t, u = Value.float y t from ry); cases eT; exact PySem.W.Looks.of_pure rfl
    | @lst a xs ea =>
      cases (show u = Value.ref a from ry); cases eT
      obtain ⟨_, _, n, _, h1⟩ := (show ObjOk X.prog X.w H s.heap a (.lst xs) from I.hok a _ ea)
      exact fun A Q E s k q => wpAny_typeOf_ref (k _ _ h1) q
    | @frz a ob xs ea =>
      cases (show u = Value.ref a from ry); cases eT
      obtain ⟨_, _, _, n, _, h1⟩ := (show ObjOk X.prog X.w H s.heap a (.frz ob (.lst xs)) from I.hok a _ ea)
      exact fun A Q E s k q => wpAny_typeOf_ref (k _ _ h1) q
    | @tup a xs ea =>
      cases (show u = Value.ref a from ry); cases eT
      obtain ⟨_, _, _, o, h1, h2, _⟩ := (show ObjOk X.prog X.w H s.heap a (.tup xs) from I.hok a _ ea)
      exact fun A Q E s k q => wpAny_typeOf_ref (k _ _ h1) (by rw [h2]; exact q)
    | @dK a kvs ea =>
      cases (show u = Value.ref a from ry); cases eT
      obtain ⟨_, _, vs, _, o, es, ep, h1, h2, _⟩ := (show ObjOk X.prog X.w H s.heap a (.dK kvs) from I.hok a _ ea)
      exact fun A Q E s k q => wpAny_typeOf_ref (k _ _ h1) (by rw [h2.1]; exact q)
    | @dT a kvs ea =>
      cases (show u = Value.ref a from ry); cases eT
      obtain ⟨_, _, xs, _, o, es, ep, h1, h2, _⟩ := (show ObjOk X.prog X.w H s.heap a (.dT kvs) from I.hok a _ ea)
      exact fun A Q E s k q => wpAny_typeOf_ref (k _ _ h1) (by rw [h2.1]; exact q)
    | ins => cases eT
  exact bin_there I ha tb D hc B (wpAny_mono (run_own (vs := [.ref a, y]) F hr hb hx I (.cons rfl (.cons ry .nil)) h) (fun _ _ z => back_of z) fun _ _ z => z)
/-- o[i] by an own __getitem__ -/
theorem ix_own (D : Dun X.K C "__getitem__" f) (hn : PySem.W.fnIn X.K f = true) (F : FnOk X.prog X.w X.K X.mg X.base CX k f fd ps sp) (hr : Room (k + 1) X.A) (hb : Binds X.K fd ps []) (hx : Passes CX X E) {value slice : Expr} {a dx : Addr} {fs : List (Str × V)} {y : V} {u : Value}
    (I : L2.Inv X pins σ H s) (ha : H a = some (.ins C dx fs)) (ry : RelV y u) (h : sp [.ref a, y] H Q E) (hsl : subscripted slice true (.ref a) u = runValue (.builtin "lifetime.subscript" ⟨[.ref a, u], []⟩) := by with_unfolding_all rfl) :
    wpAny (model X.prog X.w) X.A (subscriptTail value slice (.ref a) u) (EP X pins σ Q) X.xe s := by
  obtain ⟨_, J, _⟩ := ins_get I.hok ha
  obtain ⟨_, J, _⟩ := J.look
  obtain ⟨_, hF⟩ := I.fr
  exact PySem.W.sub_K hF I.ok.mod.kin J D.at_ hn D.fn (run_deep (vs := [.ref a, y]) F hr hb hx I (.cons rfl (.cons ry .nil)) h) hsl
end
end OO

set_option Elab.async false
set_option linter.all false
set_option maxRecDepth 100000
set_option maxHeartbeats 4000000
/-! raise X(e), X an own class over any built-in exception, with its own __init__ -/
namespace Ek
open PySem PySem.Spec PyProof.Rows L2
open PySem.W (Frag findIn subIn mroIn keepIn hasDictIn clsIn takerIn specialIn takesIn readsIn findCls kitOne excInitIn excOver)
/-- at a stands a new error of the class at C whose own dict, new too, holds v under f -/
def AttrNew (H0 H : Hp) (a C : Addr) (f : Str) (v : V) : Prop := ∃ d, H0 d = none ∧ d ≠ a ∧ H a = some (exo a C (some d)) ∧ H d = some (exd d [(f, v)])
/-- the promise of __init__(self, e): .. ; self.f = e -/
def spInitX (C : Addr) (f : Str) : Sp := fun vs H Q _ => ∃ (a : Addr) (y : V) (H0 : Hp), vs = [.ref a, y] ∧ H = upd H0 a (exo a C none) ∧ H0 a = none ∧ ∀ H', Same H0 H' → AttrNew H0 H' a C f y → Q .non H'
theorem init_endX {H0 : Hp} {a C d : Addr} {f : Str} {y : V} (h0 : H0 a = none) (hd : (upd H0 a (exo a C none)) d = none) (ne : d ≠ a) :
    Same H0 (upd (upd (upd H0 a (exo a C none)) a (exo a C (some d))) d (exd d [(f, y)])) ∧ AttrNew H0 (upd (upd (upd H0 a (exo a C none)) a (exo a C (some d))) d (exd d [(f, y)])) a C f y := by
  have hd0 : H0 d = none := by rwa [upd_ne ne] at hd
  refine ⟨fun b o e => ?_, d, hd0, ne, ?_, upd_same⟩
  · rw [upd_ne (ne_of_none e hd0), upd_ne (ne_of_none e h0), upd_ne (ne_of_none e h0)]
    exact e
  · rw [upd_ne (Ne.symm ne)]
    exact upd_same
section
variable {X : Cx} {o e : Expr} {es : List Expr} {to te : TE} {ta : TA} {f : Str} {p p' p1 p2 pos : Pos} {bmB : List Value} {B newId : String}
/-- raise X(e): the error leaves with its own dict, new, that holds e's value -/
def tRaiseE (C : Addr) (f : Str) (te : TE) : L2.St → Hp → XK → Prop := fun σ H Q => te σ H fun y H1 => ∀ d H', H1 d = none → Same H1 H' → H' d = some (.xd [(f, y)]) → Q (.ref C) (some d) H'
theorem pmk_raise {x f : Str} {C fI : Addr} {k : Nat} {fd : FuncData} {ps : List Str} {BN BI initId : String} {bN : List Value} (FN : ExcBaseFacts BN newId initId bN)
    (U : Above bmB BN BI) (T : EC X.K C bmB newId) (rs : Raises X (.ref C)) (iC : findIn X.K (.ref C) "__init__" = some (some (.ref fI))) (tI : PySem.W.typeIn X.K (.ref fI) = some (.type "function"))
    (F1 : FnOk X.prog X.w X.K X.mg X.base CX0 k fI fd ps (spInitX C f)) (hr : Room (k + 1) X.A) (hb : Binds X.K fd ps []) (hg : Gl X x) (hm : X.mg x = some (.ref C)) (he : PE X e te)
    (hdb : (x == ("__debug__" : Str)) = false := by decide) (hs : starEach [e] X.env = (false, eval e X.env) :: starEach [] X.env := by rfl) (hpl : (backTo pos (starEach [] X.env)).any (·.1) = false := by rfl) :
    PMk X (.Call (.Name x p) [e] [] pos) (tRaiseE C f te) := by
  intro pins s σ H Q I h
  refine wpAny_Call_Name_kw (ld_glob I hg hm ?_ hdb)
  refine PySem.W.callWith_K (h₀ := X.base) I.ok.mod.kin T.kC (thn ((pa_cons he pa_nil hs).run pos pins s σ H (fun vs H1 => match vs with
    | [y] => ∀ d H', H1 d = none → Same H1 H' → H' d = some (.xd [(f, y)]) → Q (.ref C) (some d) H'
    | _ => False) I h) fun us s1 ⟨vs, H1, I1, r1, q1⟩ => ⟨I1.kIn, ?_⟩) hs hpl
  dsimp only at q1
  split at q1
  case h_2 => exact q1.elim
  rename_i y
  show wpAny _ _ (call (.ref C) us) _ _ _
  obtain ⟨nm, N, qn, bs, bm, hd, sn, sub, ab, col, dd, k0, k1, k2, k3, k5, hC, hT⟩ := PySem.W.excInit_of I1.kIn T.q
  have U' : Above bm BN BI := ⟨(hT _).trans U.n, (hT _).trans U.i, (hT _).trans U.a, (hT _).trans U.u⟩
  obtain ⟨hp, g, dr, tk, os⟩ := s1
  have up : hp.objs.size ≤ hp.objs.size + 1 := Nat.le_succ _
  have hn : H1 (hp.objs.size + 1) = none := I1.hok.fresh up
  have grow : ∀ b o, hp.get? b = some o → ((hp.push (PySem.W.kdv_tup us)).push (PySem.HandSPX.excO C hp.objs.size)).get? b = some o := fun b o e => Heap.get?_push_of_some _ (Heap.get?_push_of_some _ e)
  have there : ((hp.push (PySem.W.kdv_tup us)).push (PySem.HandSPX.excO C hp.objs.size)).get? (hp.objs.size + 1) = some (PySem.HandSPX.excO C hp.objs.size) := by heap_get
  have I2 := I1.laid (t' := tk) (a := hp.objs.size + 1) (o := exo (hp.objs.size + 1) C none) (h' := (hp.push (PySem.W.kdv_tup us)).push (PySem.HandSPX.excO C hp.objs.size)) grow up (exo_ok there)
  have r2 : Vals (V.ref (hp.objs.size + 1) :: [y]) (Value.ref (hp.objs.size + 1) :: us) := .cons rfl r1
  have hq : spInitX C f (V.ref (hp.objs.size + 1) :: [y]) (upd H1 (hp.objs.size + 1) (exo (hp.objs.size + 1) C none)) (fun v H2 => v = .non ∧ ∃ (d : Addr) (fs : List (Str × V)), H2 (hp.objs.size + 1) = some (exo (hp.objs.size + 1) C (some d)) ∧ H2 d = some (exd d fs) ∧
      H1 d = none ∧ Q (.ref C) (some d) (upd (del H2 (hp.objs.size + 1)) d (.xd fs))) (fun _ _ _ => False) :=
    ⟨_, y, H1, rfl, rfl, hn, fun H2 s2 ⟨d, d0, ne, e1, e2⟩ => ⟨rfl, d, _, e1, e2, d0, q1 d _ d0 (fun b o e => by
      rw [upd_ne (ne_of_none e d0), del_ne (ne_of_none e hn)]
      exact s2 _ _ e) upd_same⟩⟩
  have hl : (Value.ref (hp.objs.size + 1) :: us ++ []).length = ps.length := by
    rw [List.append_nil, ← r2.length]
    exact F1.len _ _ _ _ hq
  have hus : us.length ≤ sizeLine := by
    rw [← Paired.length r1, sizeLine_eq]
    show 1 ≤ _
    omega
  have bd := hb ⟨(hp.push (PySem.W.kdv_tup us)).push (PySem.HandSPX.excO C hp.objs.size), g, dr, tk, os⟩ (Value.ref (hp.objs.size + 1) :: us) I2.kIn hl
  rw [List.append_nil] at bd
  refine wpAny_call (clsCalls FN U' hC (PySem.W.looks_findIn I1.kIn iC) (fun self => PySem.W.bind_fn I1.kIn self tI) hus
    (codeAny_mono (F1.run _ X.stack _ _ ⟨Value.ref (hp.objs.size + 1) :: us, []⟩ (Value.ref (hp.objs.size + 1) :: us) _ _ (fun _ _ _ => False) (hr.make C us []) (I2.env0.make C us []) bd r2 hq) fun r s' hq' => ?_))
  cases r with
  | error er => exact hq'.elim
  | ok fl =>
    cases fl with
    | ret u =>
      obtain ⟨v, H2, os2, bare2, un2, hok2, rv, ev, d, fs, ea, ed, hd1, q2⟩ := hq'
      subst ev
      obtain ⟨h2, g2, d2, t2, os'⟩ := s'
      exact ⟨rv, mk_end rs I1 up grow un2 hok2 os2 bare2 ea ed hd1 q2⟩
    | next => exact False.elim hq'
    | brk => exact False.elim hq'
    | cont => exact False.elim hq'
end
end Ek

set_option Elab.async false
set_option linter.all false
set_option maxRecDepth 100000
set_option maxHeartbeats 4000000
namespace Wd
open PySem L2
/-! ### plain facts -/
theorem sign_of {s : Str} (h : s.length = 1) : ∃ c : Nat, s = ⟨#[c]⟩ := by
  obtain ⟨a⟩ := s
  have h' : a.size = 1 := h
  obtain ⟨l⟩ := a
  match l, h' with
  | [c], _ => exact ⟨c, rfl⟩
theorem alpha_mem (c : Nat) : c ∈ (Str.ofString "abcdefghijklmnopqrstuvwxyz").cps.toList ↔ low c := by
  have e : (Str.ofString "abcdefghijklmnopqrstuvwxyz").cps.toList = [97, 98, 99, 100, 101, 102, 103, 104, 105, 106, 107, 108, 109, 110, 111, 112, 113, 114, 115, 116, 117, 118, 119, 120, 121, 122] := by decide +kernel
  rw [e]
  unfold low
  simp only [List.mem_cons, List.not_mem_nil, or_false]
  omega
theorem sign_inj {c d : Nat} (h : (V.str ⟨#[c]⟩) = V.str ⟨#[d]⟩) : c = d := by
  injection h with h
  injection h with h
  injection h with h
  injection h
theorem isLet_sign {c : Nat} : IsLet (.str ⟨#[c]⟩) ↔ low c := ⟨fun ⟨d, e, l⟩ => sign_inj e ▸ l, fun l => ⟨c, rfl, l⟩⟩
theorem sign_lt {c d : Nat} : decide ((⟨#[c]⟩ : Str).cps.toList < (⟨#[d]⟩ : Str).cps.toList) = true ↔ c < d := by
  rw [decide_eq_true_iff]
  show [c] < [d] ↔ c < d
  constructor
  · intro h
    cases h with
    | rel h => exact h
    | cons h => cases h
  · exact fun h => .rel h
theorem lets_of : ∀ {xs : List V}, (∀ x ∈ xs, IsLet x) → ∃ cs, xs = letV cs ∧ ∀ c ∈ cs, low c
  | [], _ => ⟨[], rfl, fun c h => by cases h⟩
  | x :: r, h => by
    obtain ⟨c, e, l⟩ := h x List.mem_cons_self
    obtain ⟨cs, e', l'⟩ := lets_of fun y hy => h y (List.mem_cons_of_mem _ hy)
    refine ⟨c :: cs, by rw [e, e']; rfl, fun d hd => ?_⟩
    rcases List.mem_cons.mp hd with q | q
    · exact q ▸ l
    · exact l' d q
theorem letV_inj : ∀ {cs ds : List Nat}, letV cs = letV ds → cs = ds
  | [], [], _ => rfl
  | [], _ :: _, h => nomatch h
  | _ :: _, [], h => nomatch h
  | c :: cs, d :: ds, h => by
    have h1 : (V.str ⟨#[c]⟩) = V.str ⟨#[d]⟩ := (List.cons.inj h).1
    rw [sign_inj h1, letV_inj (List.cons.inj h).2]
theorem asc_iff {cs : List Nat} : (∀ i, i < cs.length - 1 → ∃ c d, cs[i]? = some c ∧ cs[i + 1]? = some d ∧ c < d) ↔ cs.Pairwise (· < ·) := by
  rw [List.pairwise_iff_getElem]
  constructor
  · intro h i j hi hj hij
    induction j with
    | zero => omega
    | succ j ih =>
      obtain ⟨c, d, h1, h2, h3⟩ := h j (by omega)
      have e1 : cs[j] = c := by
        rw [List.getElem?_eq_getElem (by omega)] at h1
        exact Option.some.inj h1
      have e2 : cs[j + 1] = d := by
        rw [List.getElem?_eq_getElem hj] at h2
        exact Option.some.inj h2
      by_cases q : i = j
      · subst q
        rw [e1, e2]
        exact h3
      · have := ih (by omega) (by omega)
        rw [e2]
        rw [e1] at this
        omega
  · intro h i hi
    exact ⟨_, _, List.getElem?_eq_getElem (by omega), List.getElem?_eq_getElem (by omega), h i (i + 1) (by omega) (by omega) (by omega)⟩
structure WTxt (mg : Str → Option Value) (fI fL : Addr) : Prop where
  len : mg "len" = none
  isin : mg "isinstance" = none
  int : mg "int" = none
  bool : mg "bool" = none
  str : mg "str" = none
  tup : mg "tuple" = none
  dict : mg "dict" = none
  all : mg "all" = none
  range : mg "range" = none
  ie : ∃ u, mg "INTEGER_END" = some u ∧ RelV (.int ten60) u
  ls : ∃ u, mg "LETTERS" = some u ∧ RelV (.str (Str.ofString "abcdefghijklmnopqrstuvwxyz")) u
  mn : ∃ u, mg "MAX_NAME" = some u ∧ RelV (.int 8) u
  fi : mg "is_integer" = some (.ref fI)
  fl : mg "is_letter" = some (.ref fL)
section
variable {P : Program} {w : World} {K : PySem.W.Frag} {mg : Str → Option Value} {base : Heap} {T : List Addr → Hp → Addr → Prop} {fI fL : Addr}
theorem scIsInteger : FnScope ["value"] ["value"] (defScope sIsInteger) := ⟨rfl, rfl, rfl, by decide +kernel, rfl, by decide +kernel, by decide +kernel⟩
theorem ok_is_integer (O : Own K T) {f : Addr} {fd : FuncData} (F : Fun K "is_integer" "is_integer" sIsInteger f fd) (X : WTxt mg fI fL) : FnOk P w K mg base CX0 1 f fd ["value"] (spIs T fun _ => IsInt) := by
  refine F.ok scIsInteger (fun vs H Q E h => ?_) (fun cdv A outer s H vs Q E hr h => ?_)
  · obtain ⟨v, B, H0, m, n, rfl, _⟩ := h
    rfl
  · obtain ⟨v, B, H0, m, n, rfl, sb, hm, d, k⟩ := h
    refine ⟨_, pss_one (ps_ret (pe_and (pe_isi (N := "int") (pv 0) X.isin X.int) (pe_and (pe_not (pe_isi (N := "bool") (pv 0) X.isin X.bool)) (pe_one (pe_chain op_lt op_lt (pe_un un_neg (pe_gcon rfl X.ie)) (pv 0) (pe_gcon rfl X.ie)))))), ?_⟩
    have no : (∀ i, v ≠ .int i) → (false = true ↔ IsInt v) := fun h => nay fun ⟨i, e, _⟩ => h i e
    rcases d.isInt O sb with ⟨i, rfl, i1, i2⟩ | ⟨ni, ⟨i1, i2⟩ | i1⟩
    · refine ⟨_, rfl, _, i1, _, rfl, iteT ⟨_, rfl, _, i2, _, rfl, _, rfl, iteT ⟨_, rfl, _, rfl, _, _, rfl, rfl, _, rfl, ?_⟩⟩⟩
      refine ite2 (fun c => ?_) (fun c => ?_)
      · refine ⟨_, _, rfl, rfl, k _ _ (Same.refl _) ?_⟩
        rw [decide_eq_true_iff]
        exact ⟨fun h => ⟨i, rfl, of_decide_eq_true c, h⟩, fun ⟨j, e, _, h⟩ => by cases e; exact h⟩
      · refine k _ _ (Same.refl _) (nay fun ⟨j, e, h, _⟩ => ?_)
        cases e
        exact (c (decide_eq_true h)).elim
    · exact ⟨_, rfl, _, i1, _, rfl, iteT ⟨_, rfl, _, i2, _, rfl, _, rfl, iteF (k _ _ (Same.refl _) (no ni))⟩⟩
    · exact ⟨_, rfl, _, i1, _, rfl, iteF (k _ _ (Same.refl _) (no ni))⟩
theorem scIsLetter : FnScope ["value"] ["value"] (defScope sIsLetter) := ⟨rfl, rfl, rfl, by decide +kernel, rfl, by decide +kernel, by decide +kernel⟩
theorem ok_is_letter (O : Own K T) {f : Addr} {fd : FuncData} (F : Fun K "is_letter" "is_letter" sIsLetter f fd) (X : WTxt mg fI fL) : FnOk P w K mg base CX0 1 f fd ["value"] (spIs T fun _ => IsLet) := by
  refine F.ok scIsLetter (fun vs H Q E h => ?_) (fun cdv A outer s H vs Q E hr h => ?_)
  · obtain ⟨v, B, H0, m, n, rfl, _⟩ := h
    rfl
  · obtain ⟨v, B, H0, m, n, rfl, sb, hm, d, k⟩ := h
    refine ⟨_, pss_one (ps_ret (pe_and (pe_isi (N := "str") (pv 0) X.isin X.str) (pe_and (pe_cmpR op_eq (pe_callB call_len_str (by rfl) X.len PySem.boot_len (pa_cons (pv 0) pa_nil)) pe_int (nomark _)) (pe_one (pe_cmpR op_in_sign (pv 0) (pe_gcon rfl X.ls) (by rfl)))))), ?_⟩
    rcases d.isStr O sb with ⟨z, rfl, hz, i1⟩ | ⟨ni, i1⟩
    · refine ⟨_, rfl, _, i1, _, rfl, iteT ⟨_, rfl, z, rfl, Nat.le_of_lt (small1000 (by omega)), rfl, _, rfl, ?_⟩⟩
      refine ite2 (fun c => ?_) (fun c => ?_)
      · have c' : (V.int z.length) = .int 1 := of_decide_eq_true c
        injection c' with c'
        obtain ⟨a, rfl⟩ := sign_of (s := z) (by omega)
        refine ⟨_, rfl, a, _, rfl, rfl, k _ _ (Same.refl _) ?_⟩
        rw [decide_eq_true_iff]
        exact (alpha_mem a).trans isLet_sign.symm
      · refine k _ _ (Same.refl _) (nay fun ⟨a, e, _⟩ => c ?_)
        cases e
        rfl
    · refine ⟨_, rfl, _, i1, _, rfl, iteF (k _ _ (Same.refl _) (nay fun ⟨a, e, _⟩ => ni _ e))⟩
end
end Wd

set_option Elab.async false
set_option linter.all false
set_option maxRecDepth 100000
set_option maxHeartbeats 4000000
namespace Wd
open PySem L2
theorem all_at {α : Type} {xs : List α} {p : α → Prop} : (∀ i, i < xs.length → ∃ x, xs[i]? = some x ∧ p x) ↔ ∀ x ∈ xs, p x := by
  constructor
  · intro h x hx
    obtain ⟨i, hi, rfl⟩ := List.getElem_of_mem hx
    obtain ⟨y, e, q⟩ := h i hi
    rw [List.getElem?_eq_getElem hi] at e
    exact Option.some.inj e ▸ q
  · exact fun h i hi => ⟨_, List.getElem?_eq_getElem hi, h _ (List.getElem_mem hi)⟩
theorem at_one {α : Type} {xs : List α} {i : Nat} {x : α} {p : α → Prop} (h : xs[i]? = some x) {b : Bool} (hb : b = true ↔ p x) : b = true ↔ ∃ y, xs[i]? = some y ∧ p y :=
  ⟨fun q => ⟨x, h, hb.mp q⟩, fun ⟨y, e, q⟩ => hb.mpr (by rw [h] at e; exact Option.some.inj e ▸ q)⟩
theorem at_nn {α : Type} {xs : List α} {r : Int} {v : α} (h0 : 0 ≤ r) (h : xs[r.toNat]? = some v) : atI xs r = some v := by
  obtain ⟨n, rfl⟩ := Int.eq_ofNat_of_zero_le h0
  exact atI_nat (by simpa using h)
theorem tup_same {H : Hp} {a : Addr} {xs ys : List V} (h : H a = some (.tup xs)) (h' : H a = some (.tup ys)) : xs = ys := by
  rw [h] at h'
  injection h' with h'
  injection h'
theorem dK_same {H : Hp} {a : Addr} {xs ys : List (Key × V)} (h : H a = some (.dK xs)) (h' : H a = some (.dK ys)) : xs = ys := by
  rw [h] at h'
  injection h' with h'
  injection h'
section
variable {P : Program} {w : World} {K : PySem.W.Frag} {mg : Str → Option Value} {base : Heap} {T : List Addr → Hp → Addr → Prop} {fI fL : Addr}
abbrev nIsLetters : List Str := ["value", "letter", "k"]
end
end Wd

set_option Elab.async false
set_option linter.all false
set_option maxRecDepth 100000
set_option maxHeartbeats 4000000
namespace Wd
open PySem L2
structure ATxt (K : PySem.W.Frag) (w : World) (mg : Str → Option Value) (d : Addr) (es : Array DictEntry) (n : Nat) : Prop where
  g : ∃ u, mg "ARGUMENTS" = some u ∧ RelV (.ref d) u
  k : KDict K w d es n
  mem : ∀ z : Str, ∃ r, PySem.W.nsIn K d z = some r ∧ (r.isSome = true ↔ z ∈ words ∨ z = Str.ofString "+" ∨ z = Str.ofString "&")
theorem no_plus : ¬ ∀ c ∈ (Str.ofString "+").cps.toList, low c := fun h => by
  have := h 43 (by decide +kernel)
  unfold low at this
  omega
theorem no_amp : ¬ ∀ c ∈ (Str.ofString "&").cps.toList, low c := fun h => by
  have := h 38 (by decide +kernel)
  unfold low at this
  omega
theorem cps_at {z : Str} {p : Nat → Prop} : (∀ i, i < z.cps.size → ∃ c, z.cps[i]? = some c ∧ p c) ↔ ∀ c ∈ z.cps.toList, p c := by
  have q := all_at (xs := z.cps.toList) (p := p)
  rw [Array.length_toList] at q
  simpa using q
theorem chainF {p q : Prop} [Decidable p] [Decidable q] {A B : Prop} (h : ¬ (p ∧ q) → B) (h' : p ∧ q → A) : if p then (if q then A else B) else B := by
  by_cases c : p
  · rw [if_pos c]
    by_cases e : q
    · rw [if_pos e]
      exact h' ⟨c, e⟩
    · rw [if_neg e]
      exact h fun z => e z.2
  · rw [if_neg c]
    exact h fun z => c z.1
section
variable {P : Program} {w : World} {K : PySem.W.Frag} {mg : Str → Option Value} {base : Heap} {T : List Addr → Hp → Addr → Prop} {fI fL : Addr} {dA : Addr} {es : Array DictEntry} {nA : Nat}
abbrev nIsName : List Str := ["value", "sign"]
theorem scIsName : FnScope nIsName ["value"] (defScope sIsName) := ⟨rfl, rfl, rfl, by decide +kernel, rfl, by decide +kernel, by decide +kernel⟩
theorem ok_is_name (O : Own K T) {f : Addr} {fd fdL : FuncData} (F : Fun K "is_name" "is_name" sIsName f fd) (X : WTxt mg fI fL) (Z : ATxt K w mg dA es nA) (FL : Fun K "is_letter" "is_letter" sIsLetter fL fdL) (bL : Binds K fdL ["value"] []) :
    FnOk P w K mg base CX0 2 f fd ["value"] (spIs T fun _ => IsName) := by
  have GL : FnOk P w K mg base CX0 1 fL fdL ["value"] (spIs T fun _ => IsLet) := ok_is_letter O FL X
  refine F.ok scIsName (fun vs H Q E h => ?_) (fun cdv A outer s H vs Q E hr h => ?_)
  · obtain ⟨v, B, H0, m, n, rfl, _⟩ := h
    rfl
  · obtain ⟨v, B, H0, m, n, rfl, sb, hm, d, k⟩ := h
    refine ⟨_, pss_cons (ps_if (PW.pt (pw_or (pt_not (pt_val (pe_isi (N := "str") (pv 0) X.isin X.str))) (pw_or1 (pt_not (pt_chain op_le op_le pe_int (pe_callB call_len_str (by rfl) X.len PySem.boot_len (pa_cons (pv 0) pa_nil)) (pe_gcon rfl X.mn)))))) (pss_one (ps_ret pe_bl)) pss_nil)
      (pss_one (ps_ret (pe_and (pe_callB (cr_all rfl) (by rfl) X.all (by decide +kernel) (pa_cons (pe_lc (own := [("sign", 1)]) (g := gName 1) (tt := tYes) rfl scIsName.nd (pi_str (pv 0))
          (blkOk_by (N := nIsName) (sc := defScope sIsName) (by decide +kernel)) (fun _ _ _ _ _ => pg_name (i := 1) scIsName.nd rfl (Or.inl rfl)) (fun _ _ _ _ _ => pts_nil)
          (fun _ _ _ _ _ => pe_call GL hr rfl X.fl FL.kp bL .nil pass0 (pa_cons (pv 1) pa_nil))) pa_nil))
        (pe_one (pe_cmpR (op_notIn_kd Z.k) (pv 0) (pe_gcon rfl Z.g) (by rfl)))))), ?_⟩
    rcases d.isStr O sb with ⟨z, rfl, hz, i1⟩ | ⟨ni, i1⟩
    · have hz1 : z.length ≤ sizeLine := Nat.le_of_lt (small1000 (by omega))
      refine ⟨_, rfl, _, i1, _, rfl, iteF ⟨_, rfl, z, rfl, hz1, _, _, rfl, rfl, _, rfl, ?_⟩⟩
      have bad : ¬ (1 ≤ z.length ∧ z.length ≤ 8) → ¬ IsName (.str z) := fun h ⟨y, e, q1, q2, _⟩ => by
        cases e
        exact h ⟨q1, q2⟩
      refine ite2 (fun c1 => ?_) (fun c1 => ?_)
      · refine ⟨_, _, rfl, rfl, _, rfl, ?_⟩
        refine ite2 (fun c2 => ?_) (fun c2 => ?_)
        · refine k _ _ (Same.refl _) (nay (bad fun q => ?_))
          simp at c2
          omega
        · have c1' : (1 : Int) ≤ z.length := of_decide_eq_true c1
          have c2' : (z.length : Int) ≤ 8 := by simpa using c2
          refine ⟨_, rfl, _, rfl, fun D hD => ?_⟩
          refine lc_bools (walk_str (z := z)) (fun i => ∃ c, z.cps[i]? = some c ∧ low c) hD (by show z.length ≤ 1000; omega) (fun _ _ => trivial) ?_ ?_
          · rintro i x H1 H' kk hi s1 ⟨rfl, c, hc, rfl⟩ h
            exact ⟨rfl, _, rfl, _, B, H0, 1000, 1, rfl, sb.same s1, Nat.le_refl _, .str _ (by show 1 ≤ 1000; decide) (ok_sign d.okS hc), fun H4 b s4 hb => h b H4 s4 ⟨fun q => ⟨c, hc, isLet_sign.mp (hb.mp q)⟩, fun ⟨y, e, q⟩ => hb.mpr (isLet_sign.mpr (by rw [hc] at e; exact Option.some.inj e ▸ q))⟩⟩
          · rintro H1 bs s1 hD1 hb
            rw [cps_at] at hb
            refine ⟨D, bs, rfl, SqL.of hD1, _, rfl, ?_⟩
            obtain ⟨r, hr1, hr2⟩ := Z.mem z
            cases hbs : bs.all id with
            | false =>
              rw [hbs] at hb
              refine iteF (k _ _ s1 (nay fun ⟨y, e, q1, q2, q3, _⟩ => ?_))
              cases e
              exact Bool.noConfusion (hb.mpr q3)
            | true =>
              have lo := hb.mp hbs
              have pm : (z ∈ words ∨ z = Str.ofString "+" ∨ z = Str.ofString "&") ↔ z ∈ words := ⟨fun q => by
                rcases q with q | rfl | rfl
                · exact q
                · exact (no_plus lo).elim
                · exact (no_amp lo).elim, .inl⟩
              refine iteT ⟨_, rfl, z, r, rfl, rfl, hr1, k _ _ s1 ?_⟩
              rw [pm] at hr2
              rw [Bool.not_eq_true', ← Bool.not_eq_true, hr2]
              exact ⟨fun q => ⟨z, rfl, by omega, by omega, lo, q⟩, fun ⟨y, e, _, _, _, q⟩ => by cases e; exact q⟩
      · refine ⟨_, rfl, iteT (k _ _ (Same.refl _) (nay (bad fun q => c1 ?_)))⟩
        exact decide_eq_true (by omega)
    · exact ⟨_, rfl, _, i1, _, rfl, iteT (k _ _ (Same.refl _) (nay fun ⟨z, e, _⟩ => ni _ e))⟩
end
end Wd

set_option Elab.async false
set_option linter.all false
set_option maxRecDepth 100000
set_option maxHeartbeats 4000000
namespace Wd
open PySem L2
section
variable {P : Program} {w : World} {K : PySem.W.Frag} {mg : Str → Option Value} {base : Heap} {T : List Addr → Hp → Addr → Prop} {fI fL : Addr}
end
end Wd

set_option Elab.async false
set_option linter.all false
set_option maxRecDepth 100000
set_option maxHeartbeats 4000000
namespace Wd
open PySem L2
section
variable {P : Program} {w : World} {K : PySem.W.Frag} {mg : Str → Option Value} {base : Heap} {T : List Addr → Hp → Addr → Prop} {fI fL fLs fN fS fV fO : Addr} {dA : Addr} {es : Array DictEntry} {nA : Nat}
theorem scIsEvent : FnScope ["value", "time", "source", "letter", "worth"] ["value"] (defScope sIsEvent) := ⟨rfl, rfl, rfl, by decide +kernel, rfl, by decide +kernel, by decide +kernel⟩
theorem ok_is_event (O : Own K T) {f : Addr} {fd fdL fdN fdI : FuncData} (F : Fun K "is_event" "is_event" sIsEvent f fd) (X : WTxt mg fI fL) (Z : ATxt K w mg dA es nA) (mN : mg "is_name" = some (.ref fN))
    (FL : Fun K "is_letter" "is_letter" sIsLetter fL fdL) (bL : Binds K fdL ["value"] []) (FI : Fun K "is_integer" "is_integer" sIsInteger fI fdI) (bI : Binds K fdI ["value"] [])
    (FN : Fun K "is_name" "is_name" sIsName fN fdN) (bN : Binds K fdN ["value"] []) :
    FnOk P w K mg base CX0 3 f fd ["value"] (spIs T IsEvent) := by
  have GL : FnOk P w K mg base CX0 1 fL fdL ["value"] (spIs T fun _ => IsLet) := ok_is_letter O FL X
  have GI : FnOk P w K mg base CX0 1 fI fdI ["value"] (spIs T fun _ => IsInt) := ok_is_integer O FI X
  have GN : FnOk P w K mg base CX0 2 fN fdN ["value"] (spIs T fun _ => IsName) := ok_is_name O FN X Z FL bL
  refine F.ok scIsEvent (fun vs H Q E h => ?_) (fun cdv A outer s H vs Q E hr h => ?_)
  · obtain ⟨v, B, H0, m, n, rfl, _⟩ := h
    rfl
  · obtain ⟨v, B, H0, m, n, rfl, sb, hm, d, k⟩ := h
    have hr1 : Room 1 _ := hr.mono (by decide)
    refine ⟨_, pss_cons (ps_if (PW.pt (pw_or (pt_not (pt_val (pe_isi (N := "tuple") (pv 0) X.isin X.tup))) (pw_or1 (pt_cmpR op_ne (pe_callB call_len_seq (by rfl) X.len PySem.boot_len (pa_cons (pv 0) pa_nil)) pe_int (nomark _))))) (pss_one (ps_ret pe_bl)) pss_nil)
      (pss_cons (ps_asg (pv 0) (pg_tup rfl (pgs_cons (pg_name (i := 1) scIsEvent.nd rfl (Or.inl rfl)) (pgs_cons (pg_name (i := 2) scIsEvent.nd rfl (Or.inl rfl)) (pgs_cons (pg_name (i := 3) scIsEvent.nd rfl (Or.inl rfl)) (pgs_cons (pg_name (i := 4) scIsEvent.nd rfl (Or.inl rfl)) pgs_nil))))))
      (pss_one (ps_ret (pe_and (pe_call GI hr1 rfl X.fi FI.kp bI .nil pass0 (pa_cons (pv 1) pa_nil)) (pe_and (pe_cmpR op_ge (pv 1) pe_int (nomark _)) (pe_and (pe_call GN hr rfl mN FN.kp bN .nil pass0 (pa_cons (pv 2) pa_nil))
        (pe_and (pe_call GL hr1 rfl X.fl FL.kp bL .nil pass0 (pa_cons (pv 3) pa_nil)) (pe_one (pe_call GI hr1 rfl X.fi FI.kp bI .nil pass0 (pa_cons (pv 4) pa_nil)))))))))), ?_⟩
    rcases d.isTup O sb with ⟨a, xs, j, rfl, na, e0, e1, hl, hk, i1⟩ | ⟨no, i1⟩
    · refine ⟨_, rfl, _, i1, _, rfl, iteF ⟨_, rfl, a, xs, rfl, .inr (SqT.of e1), rfl, _, rfl, ?_⟩⟩
      refine ite2 (fun c => ?_) (fun c => ?_)
      · refine k _ _ (Same.refl _) (nay fun ⟨b, t, u, l, w', eb, h, _⟩ => ?_)
        cases eb
        obtain rfl := tup_same e0 h
        simp at c
      · have c' : xs.length = 4 := by
          have c2 : (V.int xs.length) = .int 4 := by simpa using c
          injection c2 with c2
          omega
        obtain ⟨t, u, l, y, rfl⟩ : ∃ t u l y, xs = [t, u, l, y] := by
          match xs, c' with
          | [t, u, l, y], _ => exact ⟨t, u, l, y, rfl⟩
        have un : ∀ {p : Prop}, (∀ t' u' l' y', [t, u, l, y] = [t', u', l', y'] → (∃ i, t' = V.int i ∧ 0 ≤ i ∧ i < ten60) → IsName u' → IsLet l' → IsInt y' → p) → IsEvent H0 (.ref a) → p := fun {p} g ⟨b, t', u', l', y', eb, h, q1, q2, q3, q4⟩ => by
          cases eb
          exact g t' u' l' y' (tup_same e0 h) q1 q2 q3 q4
        refine ⟨_, rfl, a, _, rfl, SqT.of e1, rfl, _, _, rfl, _, _, rfl, _, _, rfl, _, _, rfl, rfl, ?_⟩
        refine ⟨_, rfl, t, B, H0, m, j, rfl, sb, hm, hk t (by simp), fun H1 b1 s1 hb1 => ⟨b1, rfl, ?_⟩⟩
        cases b1 with
        | false =>
          refine iteF (k _ _ s1 (nay (un fun t' u' l' y' e ⟨i, ei, i0, i1⟩ _ _ _ => ?_)))
          cases e
          exact Bool.noConfusion (hb1.mpr ⟨i, ei, by omega, i1⟩)
        | true =>
          obtain ⟨i, rfl, i0, i9⟩ := hb1.mp rfl
          refine iteT ⟨_, rfl, _, _, rfl, rfl, _, rfl, ?_⟩
          refine ite2 (fun g => ?_) (fun g => ?_)
          · have g' : 0 ≤ i := of_decide_eq_true g
            refine ⟨_, rfl, u, B, H0, m, j, rfl, sb.same s1, hm, hk u (by simp), fun H2 b2 s2 hb2 => ⟨b2, rfl, ?_⟩⟩
            cases b2 with
            | false =>
              refine iteF (k _ _ (s1.trans s2) (nay (un fun t' u' l' y' e _ q _ _ => ?_)))
              cases e
              exact Bool.noConfusion (hb2.mpr q)
            | true =>
              refine iteT ⟨_, rfl, l, B, H0, m, j, rfl, (sb.same s1).same s2, hm, hk l (by simp), fun H3 b3 s3 hb3 => ⟨b3, rfl, ?_⟩⟩
              cases b3 with
              | false =>
                refine iteF (k _ _ ((s1.trans s2).trans s3) (nay (un fun t' u' l' y' e _ _ q _ => ?_)))
                cases e
                exact Bool.noConfusion (hb3.mpr q)
              | true =>
                refine iteT ⟨_, rfl, y, B, H0, m, j, rfl, ((sb.same s1).same s2).same s3, hm, hk y (by simp), fun H4 b4 s4 hb4 => k _ _ (((s1.trans s2).trans s3).trans s4) (hb4.trans
                  ⟨fun q => ⟨a, _, u, l, y, rfl, e0, ⟨i, rfl, g', i9⟩, hb2.mp rfl, hb3.mp rfl, q⟩, un fun t' u' l' y' e _ _ _ q => ?_⟩)⟩
                cases e
                exact q
          · refine k _ _ s1 (nay (un fun t' u' l' y' e ⟨i', ei, i0', _⟩ _ _ _ => ?_))
            cases e
            cases ei
            exact g (decide_eq_true i0')
    · exact ⟨_, rfl, _, i1, _, rfl, iteT (k _ _ (Same.refl _) (nay fun ⟨b, t, u, l, y, eb, h, _⟩ => no _ _ eb h))⟩
end
end Wd

set_option Elab.async false
set_option linter.all false
set_option maxRecDepth 100000
set_option maxHeartbeats 4000000
namespace Wd
open PySem L2
/-- data == a text -/
def rEqT (T : List Addr → Hp → Addr → Prop) : R2 := fun x y H Q => ∃ B m n z, Dat T B H m n x ∧ y = .str z ∧ ∀ b H', Same H H' → (b = true ↔ x = .str z) → Q (.bl b) H'
theorem val_at {kvs : List (Key × V)} {i : Nat} {k : Key} {v : V} (nd : (kvs.map (·.1)).Nodup) (h : kvs[i]? = some (k, v)) : valV kvs k = some v := by
  induction kvs generalizing i with
  | nil => simp at h
  | cons p r ih =>
    rw [List.map_cons, List.nodup_cons] at nd
    cases i with
    | zero =>
      have e : p = (k, v) := by simpa using h
      subst e
      exact valV_pos rfl
    | succ i =>
      have h' : r[i]? = some (k, v) := by simpa using h
      refine (valV_neg fun e => nd.1 ?_).trans (ih nd.2 h')
      rw [e]
      exact List.mem_map.mpr ⟨_, List.mem_of_getElem? h', rfl⟩
theorem end_out {H : Hp} : ¬ IsOutput H vEnd := fun ⟨_, _, _, e, _⟩ => V.noConfusion e
section
variable {P : Program} {w : World} {K : PySem.W.Frag} {mg : Str → Option Value} {base : Heap} {T : List Addr → Hp → Addr → Prop} {fI fL fLs fN fS fV fO : Addr} {dA : Addr} {es : Array DictEntry} {nA : Nat}
end
end Wd

set_option Elab.async false
set_option linter.all false
set_option maxRecDepth 100000
set_option maxHeartbeats 4000000
namespace Wd
open PySem L2
/-- [x for .. if not P x]: it is empty where all have P -/
theorem lc_lack {J : It} {n : Nat} {G : Hp → Prop} {Y : Nat → Hp → V → Hp → Prop} (w : Walk J n G Y) (Pi : Nat → Prop) {g : TG} {tt : TT} {te : TE} {vs : List Nat} {σ : St} {H1 : Hp} {D : Addr} {Qd : Hp → Prop} (hD : H1 D = none) (hn : n ≤ 1000)
    (hG : ∀ H, Same H1 H → G H)
    (hs : ∀ i x H H' (k : V → Hp → Prop) (kF : Hp → Prop), i < n → Same H1 H → Y i H x H' → (∀ H3, Same H H3 → ¬ Pi i → k x H3) → (∀ H3, Same H H3 → Pi i → kF H3) → g x (wipe σ vs) H' fun σ2 H2 => wipe σ2 vs = wipe σ vs ∧ tt σ2 H2 fun b H3 => if b = true then te σ2 H3 k else kF H3)
    (hd : ∀ H (zs : List V), Same H1 H → H D = some (.lst zs) → zs.length ≤ n → (zs = [] ↔ ∀ i, i < n → Pi i) → Qd H) :
    ∃ W : Nat → Nat → Hp → Prop, (∃ m, W 0 m (upd H1 D (.lst []))) ∧ ∀ i m H, W i m H →
      (J.stop i H ∧ Qd H) ∨ (J.go i H ∧ ∃ Nx : Hp → Prop, (∀ H', Nx H' → ∃ m', m' < m ∧ W (i + 1) m' H') ∧ ∀ x H', J.yld i H x H' → g x (wipe σ vs) H' fun σ2 H2 => wipe σ2 vs = wipe σ vs ∧ tt σ2 H2 fun b H3 =>
        if b = true then te σ2 H3 fun y H4 => ∃ acc, H4 D = some (.lst acc) ∧ acc.length < sizeLine ∧ Nx (upd H4 D (.lst (acc ++ [y]))) else Nx H3) := by
  refine lc_it w (fun i H => Same H1 H ∧ ∃ zs : List V, zs.length ≤ i ∧ (zs = [] ↔ ∀ j, j < i → Pi j) ∧ H D = some (.lst zs)) ⟨fun b o e => by rw [upd_ne (ne_of_none e hD)]; exact e, [], Nat.le_refl _, by simp, upd_same⟩
    (fun i H _ ⟨s, _⟩ => hG H s) ?_ (fun H ⟨s, zs, l, e, d⟩ => hd H zs s d l e)
  rintro i x H H' hi ⟨s, zs, l, e, d⟩ y
  refine hs i x H H' _ _ hi s y ?_ ?_
  · intro H4 s4 hb
    refine ⟨zs, s4 _ _ d, small1000 (by omega), fun c o q => ?_, zs ++ [x], by simp; omega, ?_, upd_same⟩
    · rw [upd_ne (ne_of_none q hD)]
      exact s4 _ _ (s _ _ q)
    · constructor
      · intro h
        simp at h
      · exact fun h => (hb (h i (by omega))).elim
  · intro H4 s4 hb
    refine ⟨s.trans s4, zs, by omega, e.trans ⟨fun h j hj => ?_, fun h j hj => h j (by omega)⟩, s4 _ _ d⟩
    by_cases q : j = i
    · exact q ▸ hb
    · exact h j (by omega)
theorem inV_words (z : Str) (ws : List Str) : inV (.str z) (ws.map V.str) = true ↔ z ∈ ws := by
  unfold inV
  rw [List.any_eq_true]
  constructor
  · rintro ⟨y, hy, q⟩
    obtain ⟨x, hx, rfl⟩ := List.mem_map.mp hy
    have : (x == z) = true := q
    exact (beq_iff_eq.mp this) ▸ hx
  · exact fun h => ⟨_, List.mem_map.mpr ⟨z, h, rfl⟩, show (z == z) = true from beq_self_eq_true z⟩
theorem flat_strs (ys : List Str) : (ys.map V.str).all flatV = true := by
  rw [List.all_eq_true]
  intro v hv
  obtain ⟨y, _, rfl⟩ := List.mem_map.mp hv
  rfl
def spWords : Sp := fun vs H Q _ => vs = [] ∧ ∀ H' (L : Addr), Same H H' → H L = none → H' L = some (.lst (words.map V.str)) → Q (.ref L) H'
structure LTxt (mg : Str → Option Value) (fW fLI fLL fLN fLO : Addr) : Prop where
  abs : mg "abs" = none
  wrds : mg "_law_words" = some (.ref fW)
  li : mg "_law_is_integer" = some (.ref fLI)
  ll : mg "_law_is_letter" = some (.ref fLL)
  ln : mg "_law_is_name" = some (.ref fLN)
  lo : mg "_law_is_output" = some (.ref fLO)
theorem le_sign {c d : Nat} : (!decide ((⟨#[d]⟩ : Str).cps.toList < (⟨#[c]⟩ : Str).cps.toList)) = true ↔ c ≤ d := by
  rw [Bool.not_eq_true', ← Bool.not_eq_true, sign_lt]
  omega
section
variable {P : Program} {w : World} {K : PySem.W.Frag} {mg : Str → Option Value} {base : Heap} {T : List Addr → Hp → Addr → Prop} {fI fL fW fLI fLL fLN fLO : Addr}
theorem scWords : FnScope ["words"] [] (defScope sWords) := ⟨rfl, rfl, rfl, by decide +kernel, rfl, by decide +kernel, by decide +kernel⟩
theorem ok_words {f : Addr} {fd : FuncData} (F : Fun K "_law_words" "_law_words" sWords f fd) : FnOk P w K mg base CX0 1 f fd [] spWords := by
  refine F.ok scWords (fun vs H Q E h => ?_) (fun cdv A outer s H vs Q E hr h => ?_)
  · obtain ⟨rfl, _⟩ := h
    rfl
  · obtain ⟨rfl, k⟩ := h
    refine ⟨_, pss_cons (ps_set (i := 0) scWords.nd rfl (Or.inl rfl) (pe_lst (pa_cons pe_str (pa_cons pe_str (pa_cons pe_str (pa_cons pe_str (pa_cons pe_str (pa_cons pe_str (pa_cons pe_str (pa_cons pe_str (pa_cons pe_str (pa_cons pe_str (pa_cons pe_str (pa_cons pe_str (pa_cons pe_str pa_nil))))))))))))))) (pss_one (ps_ret (pe_op op_cat (pv 0) (pe_lst (pa_cons pe_str (pa_cons pe_str (pa_cons pe_str (pa_cons pe_str (pa_cons pe_str (pa_cons pe_str (pa_cons pe_str (pa_cons pe_str (pa_cons pe_str (pa_cons pe_str pa_nil)))))))))))))), ?_⟩
    refine ⟨by show 13 ≤ sizeLine; decide, fun l hl => ?_⟩
    refine ⟨_, rfl, by show 10 ≤ sizeLine; decide, fun m hm => ?_⟩
    have hlm : l ≠ m := fun e => by
      rw [e] at hm
      rw [← e, upd_same] at hm
      cases hm
    refine ⟨l, m, _, _, rfl, rfl, (upd_ne hlm).trans upd_same, upd_same, ?_, fun p hp => ?_⟩
    · show 13 + 10 ≤ sizeLine
      decide
    · have hm' : H m = none := by
        rw [upd_ne (Ne.symm hlm)] at hm
        exact hm
      have hpl : p ≠ l := fun z => by
        rw [z, upd_ne hlm, upd_same] at hp
        cases hp
      have hpm : p ≠ m := fun z => by
        rw [z, upd_same] at hp
        cases hp
      have hp' : H p = none := by
        rw [upd_ne hpm, upd_ne hpl] at hp
        exact hp
      refine k _ p (fun b o e => ?_) hp' (upd_same.trans rfl)
      rw [upd_ne (ne_of_none e hp'), upd_ne (ne_of_none e hm'), upd_ne (ne_of_none e hl)]
      exact e
theorem scLInt : FnScope ["value"] ["value"] (defScope sLInt) := ⟨rfl, rfl, rfl, by decide +kernel, rfl, by decide +kernel, by decide +kernel⟩
theorem ok_lint (O : Own K T) {f : Addr} {fd : FuncData} (F : Fun K "_law_is_integer" "_law_is_integer" sLInt f fd) (X : WTxt mg fI fL) (Y : LTxt mg fW fLI fLL fLN fLO) : FnOk P w K mg base CX0 1 f fd ["value"] (spIs T fun _ => IsInt) := by
  refine F.ok scLInt (fun vs H Q E h => ?_) (fun cdv A outer s H vs Q E hr h => ?_)
  · obtain ⟨v, B, H0, m, n, rfl, _⟩ := h
    rfl
  · obtain ⟨v, B, H0, m, n, rfl, sb, hm, d, k⟩ := h
    refine ⟨_, pss_one (ps_ret (pe_and (pe_isi (N := "int") (pv 0) X.isin X.int) (pe_and (pe_not (pe_isi (N := "bool") (pv 0) X.isin X.bool)) (pe_one (pe_cmpR op_lt (pe_callB call_abs (by rfl) Y.abs (by decide +kernel) (pa_cons (pv 0) pa_nil)) (pe_op op_pow pe_int pe_int) (nomark _)))))), ?_⟩
    have no : (∀ i, v ≠ .int i) → (false = true ↔ IsInt v) := fun h => nay fun ⟨i, e, _⟩ => h i e
    rcases d.isInt O sb with ⟨i, rfl, i1, i2⟩ | ⟨ni, ⟨i1, i2⟩ | i1⟩
    · refine ⟨_, rfl, _, i1, _, rfl, iteT ⟨_, rfl, _, i2, _, rfl, _, rfl, iteT ⟨_, rfl, i, rfl, _, _, rfl, rfl, ⟨by decide, by decide, by decide⟩, _, _, rfl, rfl, k _ _ (Same.refl _) ?_⟩⟩⟩
      rw [decide_eq_true_iff]
      have e : (10 : Int) ^ (60 : Int).toNat = ten60 := rfl
      rw [e]
      constructor
      · intro h
        refine ⟨i, rfl, ?_⟩
        by_cases c : i < 0
        · rw [if_pos c] at h
          omega
        · rw [if_neg c] at h
          omega
      · rintro ⟨j, ej, h1, h2⟩
        cases ej
        by_cases c : i < 0
        · rw [if_pos c]
          omega
        · rw [if_neg c]
          omega
    · exact ⟨_, rfl, _, i1, _, rfl, iteT ⟨_, rfl, _, i2, _, rfl, _, rfl, iteF (k _ _ (Same.refl _) (no ni))⟩⟩
    · exact ⟨_, rfl, _, i1, _, rfl, iteF (k _ _ (Same.refl _) (no ni))⟩
end
end Wd

set_option Elab.async false
set_option linter.all false
set_option maxRecDepth 100000
set_option maxHeartbeats 4000000
namespace Wd
open PySem L2
/-- at each place an output, or the end at the last one -/
def Lst1 (H : Hp) (xs : List V) (i : Nat) : Prop := ∃ x, xs[i]? = some x ∧ ((x = vEnd ∧ i + 1 = xs.length) ∨ IsOutput H x)
theorem isList_iff {H : Hp} {a : Addr} {xs : List V} (e : H a = some (.tup xs)) : IsList H (.ref a) ↔ ∀ i, i < xs.length → Lst1 H xs i := by
  constructor
  · rintro ⟨b, zs, eb, h, ys, q1, q2⟩ i hi
    cases eb
    obtain rfl : xs = zs := tup_same e h
    rcases q1 with rfl | rfl
    · exact ⟨_, List.getElem?_eq_getElem hi, .inr (q2 _ (List.getElem_mem hi))⟩
    · by_cases c : i < ys.length
      · exact ⟨ys[i], by rw [List.getElem?_append_left c, List.getElem?_eq_getElem c], .inr (q2 _ (List.getElem_mem c))⟩
      · have : i = ys.length := by
          rw [List.length_append] at hi
          simp at hi
          omega
        subst this
        exact ⟨vEnd, by simp, .inl ⟨rfl, by simp⟩⟩
  · intro h
    by_cases c : xs = []
    · exact ⟨a, xs, rfl, e, xs, .inl rfl, fun y hy => by rw [c] at hy; cases hy⟩
    · obtain ⟨ws, y, ew⟩ : ∃ ws y, xs = ws ++ [y] := ⟨xs.dropLast, xs.getLast c, (List.dropLast_concat_getLast _).symm⟩
      have lw : xs.length = ws.length + 1 := by rw [ew]; simp
      have low' : ∀ x ∈ ws, IsOutput H x := fun x hx => by
        obtain ⟨i, hi, rfl⟩ := List.getElem_of_mem hx
        obtain ⟨z, hz, q⟩ := h i (by omega)
        rw [ew, List.getElem?_append_left hi, List.getElem?_eq_getElem hi] at hz
        cases hz
        exact q.elim (fun q => by omega) id
      obtain ⟨z, hz, q⟩ := h ws.length (by omega)
      have ez : z = y := by
        rw [ew] at hz
        simpa using hz.symm
      subst ez
      rcases q with ⟨q, _⟩ | q
      · exact ⟨a, xs, rfl, e, ws, .inr (q ▸ ew), low'⟩
      · refine ⟨a, xs, rfl, e, xs, .inl rfl, fun x hx => ?_⟩
        rw [ew] at hx
        rcases List.mem_append.mp hx with hx | hx
        · exact low' x hx
        · rw [List.mem_singleton.mp hx]
          exact q
section
variable {P : Program} {w : World} {K : PySem.W.Frag} {mg : Str → Option Value} {base : Heap} {T : List Addr → Hp → Addr → Prop} {fI fL fW fLI fLL fLN fLO : Addr}
end
end Wd

set_option Elab.async false
set_option linter.all false
set_option maxRecDepth 100000
set_option maxHeartbeats 4000000
namespace Wd
open PySem L2
/-! ### lists of texts, compared -/
theorem dpAll_strs (K : PySem.W.Frag) (H : Hp) : ∀ ys : List Str, DpAll K H (ys.map V.str) (ys.map PyData.str)
  | [] => .nil
  | y :: r => .cons (.str y) (dpAll_strs K H r)
theorem dp_strs {K : PySem.W.Frag} {H : Hp} {a : Addr} {ys : List Str} (h : SqL K H a (ys.map V.str)) : Dp K H (.ref a) (.list (ys.map PyData.str)) := .lst h (dpAll_strs K H ys)
theorem depth_strs : ∀ ys : List Str, PyData.depthAll (ys.map PyData.str) = 0
  | [] => rfl
  | y :: r => by
    show max 0 (PyData.depthAll (r.map PyData.str)) = 0
    rw [depth_strs r]
    rfl
theorem lay_strs : ∀ ys : List Str, (∀ y ∈ ys, PyData.strOk y = true) → PyData.canLayAll0 (ys.map PyData.str) = true
  | [], _ => rfl
  | y :: r, h => by
    show (PyData.strOk y && PyData.canLayAll0 (r.map PyData.str)) = true
    rw [h y List.mem_cons_self, lay_strs r fun z hz => h z (List.mem_cons_of_mem _ hz)]
    rfl
theorem shaped_strs {ys : List Str} (h : ∀ y ∈ ys, PyData.strOk y = true) : SeqAt.shaped (.list (ys.map PyData.str)) = true := by
  have e : (PyData.list (ys.map PyData.str)).depth = PyData.depthAll (ys.map PyData.str) + 1 := rfl
  show (PyData.canLayAll0 (ys.map PyData.str) && decide ((PyData.list (ys.map PyData.str)).depth ≤ 64)) = true
  rw [lay_strs ys h, e, depth_strs]
  rfl
theorem eqv_strs : ∀ xs ys : List Str, PyData.eqvAll (xs.map PyData.str) (ys.map PyData.str) = decide (xs = ys)
  | [], [] => rfl
  | [], _ :: _ => rfl
  | _ :: _, [] => rfl
  | x :: r, y :: t => by
    show ((x == y) && PyData.eqvAll (r.map PyData.str) (t.map PyData.str)) = _
    rw [eqv_strs r t, Bool.eq_iff_iff, Bool.and_eq_true, beq_iff_eq, decide_eq_true_iff, decide_eq_true_iff, List.cons.injEq]
/-! ### ascending signs -/
def sgn (c : Nat) : Str := ⟨#[c]⟩
theorem sgn_inj {c d : Nat} (h : sgn c = sgn d) : c = d := sign_inj (congrArg V.str h)
theorem letV_sgn (cs : List Nat) : letV cs = (cs.map sgn).map V.str := by
  rw [List.map_map]
  rfl
theorem sgns_inj : ∀ {cs ds : List Nat}, cs.map sgn = ds.map sgn → cs = ds
  | [], [], _ => rfl
  | [], _ :: _, h => nomatch h
  | _ :: _, [], h => nomatch h
  | c :: cs, d :: ds, h => by
    rw [sgn_inj (List.cons.inj h).1, sgns_inj (List.cons.inj h).2]
theorem sgns_of {cs : List Nat} : ∀ {ys : List Str}, (∀ y ∈ ys, y ∈ cs.map sgn) → ∃ ds : List Nat, ys = ds.map sgn
  | [], _ => ⟨[], rfl⟩
  | y :: r, h => by
    obtain ⟨c, _, e⟩ := List.mem_map.mp (h y List.mem_cons_self)
    obtain ⟨ds, e'⟩ := sgns_of fun z hz => h z (List.mem_cons_of_mem _ hz)
    exact ⟨c :: ds, by rw [e', ← e]; rfl⟩
theorem rising_le : ∀ {d : Nat} {ds : List Nat}, PyProof.Rows.risingS (sgn d) (ds.map sgn) = true → (d :: ds).Pairwise (· ≤ ·)
  | d, [], _ => List.pairwise_singleton _ _
  | d, x :: r, h => by
    have h' : (!PySem.Spec.ltCps [x] [d] && PyProof.Rows.risingS (sgn x) (r.map sgn)) = true := h
    rw [Bool.and_eq_true] at h'
    have ih := rising_le h'.2
    have le : d ≤ x := by
      have q : (!(decide (x < d) || ((x == d) && false))) = true := h'.1
      simp at q
      exact q
    refine List.pairwise_cons.mpr ⟨fun y hy => ?_, ih⟩
    rcases List.mem_cons.mp hy with e | e
    · exact e ▸ le
    · exact Nat.le_trans le ((List.pairwise_cons.mp ih).1 y e)
theorem sorted_le : ∀ {ds : List Nat}, PyProof.Rows.sortedS (ds.map sgn) = true → ds.Pairwise (· ≤ ·)
  | [], _ => List.Pairwise.nil
  | d :: r, h => rising_le h
theorem strict_of : ∀ {ds : List Nat}, ds.Pairwise (· ≤ ·) → ds.Nodup → ds.Pairwise (· < ·)
  | [], _, _ => List.Pairwise.nil
  | d :: r, h, n => by
    rw [List.pairwise_cons] at h
    rw [List.nodup_cons] at n
    refine List.pairwise_cons.mpr ⟨fun y hy => ?_, strict_of h.2 n.2⟩
    have := h.1 y hy
    have : d ≠ y := fun e => n.1 (e ▸ hy)
    omega
theorem asc_eq : ∀ {cs ds : List Nat}, cs.Pairwise (· < ·) → ds.Pairwise (· < ·) → (∀ c, c ∈ cs ↔ c ∈ ds) → cs = ds
  | [], [], _, _, _ => rfl
  | [], d :: _, _, _, h => by
    have := (h d).mpr List.mem_cons_self
    cases this
  | c :: _, [], _, _, h => by
    have := (h c).mp List.mem_cons_self
    cases this
  | c :: r, d :: t, p, q, h => by
    rw [List.pairwise_cons] at p q
    have e : c = d := by
      have h1 := (h c).mp List.mem_cons_self
      have h2 := (h d).mpr List.mem_cons_self
      rcases List.mem_cons.mp h1 with e | m1
      · exact e
      · rcases List.mem_cons.mp h2 with e | m2
        · exact e.symm
        · have := q.1 c m1
          have := p.1 d m2
          omega
    subst e
    rw [asc_eq p.2 q.2 fun x => ⟨fun m => ?_, fun m => ?_⟩]
    · rcases List.mem_cons.mp ((h x).mp (List.mem_cons_of_mem _ m)) with e | m'
      · have := p.1 x m
        omega
      · exact m'
    · rcases List.mem_cons.mp ((h x).mpr (List.mem_cons_of_mem _ m)) with e | m'
      · have := q.1 x m
        omega
      · exact m'
/-- the letters as they stand are the sorted set of them just where they ascend -/
theorem set_asc {cs : List Nat} {ks ys : List Str} (h1 : ∀ k, k ∈ ks ↔ k ∈ cs.map sgn) (pm : ys.Perm ks) (srt : PyProof.Rows.sortedS ys = true) (nd : ys.Nodup) : cs.map sgn = ys ↔ cs.Pairwise (· < ·) := by
  obtain ⟨ds, rfl⟩ := sgns_of (cs := cs) fun y hy => (h1 y).mp (pm.mem_iff.mp hy)
  have nds : ds.Nodup := by
    have := nd
    rw [List.nodup_iff_pairwise_ne, List.pairwise_map] at this
    exact List.nodup_iff_pairwise_ne.mpr (this.imp fun h e => h (congrArg sgn e))
  have pd := strict_of (sorted_le srt) nds
  constructor
  · exact fun e => sgns_inj e ▸ pd
  · intro pc
    rw [asc_eq pc pd fun c => ?_]
    have m1 : ∀ {l : List Nat} {c : Nat}, sgn c ∈ l.map sgn ↔ c ∈ l := fun {l c} => ⟨fun h => by
      obtain ⟨d, hd, e⟩ := List.mem_map.mp h
      exact sgn_inj e ▸ hd, fun h => List.mem_map.mpr ⟨c, h, rfl⟩⟩
    rw [← m1, ← h1, ← pm.mem_iff, m1]
theorem low_ok {c : Nat} (h : low c) : PyData.strOk (sgn c) = true := by
  unfold low at h
  show (#[c].all fun x => decide (x < 0x110000)) = true
  simp
  omega
end Wd

set_option Elab.async false
set_option linter.all false
set_option maxRecDepth 100000
set_option maxHeartbeats 4000000
namespace Wd
open PySem L2
section
variable {P : Program} {w : World} {K : PySem.W.Frag} {mg : Str → Option Value} {base : Heap} {T : List Addr → Hp → Addr → Prop} {fI fL fW fLI fLL fLN fLO : Addr}
abbrev nLLayout : List Str := ["value", "name", "letters", "one"]
end
end Wd

set_option Elab.async false
set_option linter.all false
set_option maxRecDepth 100000
set_option maxHeartbeats 4000000
namespace Wd
open PySem L2
/-- u, new since Hc, is a copy over H of what v was over Hv; nested less than n deep -/
inductive Cop (T : List Addr → Hp → Addr → Prop) (Hv Hc H : Hp) : Nat → V → V → Prop where
  | non {n} : Cop T Hv Hc H (n + 1) .non .non
  | bl {n} (b : Bool) : Cop T Hv Hc H (n + 1) (.bl b) (.bl b)
  | int {n} (i : Int) : Cop T Hv Hc H (n + 1) (.int i) (.int i)
  | str {n} (s : Str) : Cop T Hv Hc H (n + 1) (.str s) (.str s)
  | own {n} {a : Addr} {B : List Addr} (t : T B Hv a) : Cop T Hv Hc H (n + 1) (.ref a) (.ref a)
  | tup {n} {a b : Addr} {xs ys : List V} (e : Hv a = some (.tup xs)) (nb : Hc b = none) (f : H b = some (.tup ys)) (l : xs.length = ys.length)
      (p : ∀ (i : Nat) (x y : V), xs[i]? = some x → ys[i]? = some y → Cop T Hv Hc H n x y) : Cop T Hv Hc H (n + 1) (.ref a) (.ref b)
  | lst {n} {a b : Addr} {xs ys : List V} (e : Hv a = some (.lst xs)) (nb : Hc b = none) (f : H b = some (.lst ys)) (l : xs.length = ys.length)
      (p : ∀ (i : Nat) (x y : V), xs[i]? = some x → ys[i]? = some y → Cop T Hv Hc H n x y) : Cop T Hv Hc H (n + 1) (.ref a) (.ref b)
  | dic {n} {a b : Addr} {ks ls : List (Key × V)} (e : Hv a = some (.dK ks)) (nb : Hc b = none) (f : H b = some (.dK ls)) (k : ls.map (·.1) = ks.map (·.1))
      (p : ∀ (i : Nat) (x y : Key × V), ks[i]? = some x → ls[i]? = some y → Cop T Hv Hc H n x.2 y.2) : Cop T Hv Hc H (n + 1) (.ref a) (.ref b)
theorem Cop.mono {T : List Addr → Hp → Addr → Prop} {Hv Hc Hc' H H' : Hp} {n : Nat} {v u : V} (st : ∀ b o, Hc b = none → H b = some o → H' b = some o) (dm : ∀ b, Hc b = none → Hc' b = none) (c : Cop T Hv Hc H n v u) : Cop T Hv Hc' H' n v u := by
  induction c with
  | non => exact .non
  | bl b => exact .bl b
  | int i => exact .int i
  | str s => exact .str s
  | own t => exact .own t
  | tup e nb f l p ih => exact .tup e (dm _ nb) (st _ _ nb f) l ih
  | lst e nb f l p ih => exact .lst e (dm _ nb) (st _ _ nb f) l ih
  | dic e nb f k p ih => exact .dic e (dm _ nb) (st _ _ nb f) k ih
/-- a comprehension of new things -/
theorem lc_news {J : It} {n : Nat} {G : Hp → Prop} {Y : Nat → Hp → V → Hp → Prop} (w : Walk J n G Y) (R : Hp → Hp → Nat → V → Prop) {g : TG} {te : TE} {vs : List Nat} {σ : St} {H1 : Hp} {D : Addr} {Qd : Hp → Prop} (hD : H1 D = none) (hn : n ≤ 1000)
    (mo : ∀ Hc Hc' H H' i y, (∀ b o, Hc b = none → H b = some o → H' b = some o) → (∀ b, Hc b = none → Hc' b = none) → R Hc H i y → R Hc' H' i y)
    (hG : ∀ H, Same H1 H → G H)
    (hs : ∀ i x H H' (k : V → Hp → Prop), i < n → Same H1 H → Y i H x H' → (∀ y H4, Same H H4 → R H H4 i y → k y H4) → g x (wipe σ vs) H' fun σ2 H2 => wipe σ2 vs = wipe σ vs ∧ te σ2 H2 k)
    (hd : ∀ H (ys : List V), Same H1 H → H D = some (.lst ys) → ys.length = n → (∀ (i : Nat) (y : V), ys[i]? = some y → R (upd H1 D (.lst [])) H i y) → Qd H) :
    ∃ W : Nat → Nat → Hp → Prop, (∃ m, W 0 m (upd H1 D (.lst []))) ∧ ∀ i m H, W i m H →
      (J.stop i H ∧ Qd H) ∨ (J.go i H ∧ ∃ Nx : Hp → Prop, (∀ H', Nx H' → ∃ m', m' < m ∧ W (i + 1) m' H') ∧ ∀ x H', J.yld i H x H' → g x (wipe σ vs) H' fun σ2 H2 => wipe σ2 vs = wipe σ vs ∧ tYes σ2 H2 fun b H3 =>
        if b = true then te σ2 H3 fun y H4 => ∃ acc, H4 D = some (.lst acc) ∧ acc.length < sizeLine ∧ Nx (upd H4 D (.lst (acc ++ [y]))) else Nx H3) := by
  refine lc_it w (fun i H => Same H1 H ∧ ∃ ys : List V, ys.length = i ∧ (∀ (j : Nat) (y : V), ys[j]? = some y → R (upd H1 D (.lst [])) H j y) ∧ H D = some (.lst ys)) ⟨fun b o e => by rw [upd_ne (ne_of_none e hD)]; exact e, [], rfl, by simp, upd_same⟩
    (fun i H _ ⟨s, _⟩ => hG H s) ?_ (fun H ⟨s, ys, l, e, d⟩ => hd H ys s d l e)
  rintro i x H H' hi ⟨s, ys, l, e, d⟩ y
  refine hs i x H H' _ hi s y ?_
  intro u H4 s4 hr
  have nD : ∀ b, (upd H1 D (.lst [])) b = none → b ≠ D ∧ H1 b = none := fun b hb => by
    have q : b ≠ D := fun z => by
      rw [z, upd_same] at hb
      cases hb
    rw [upd_ne q] at hb
    exact ⟨q, hb⟩
  have iD : ∀ b, H b = none → (upd H1 D (.lst [])) b = none := fun b hb => by
    have q : b ≠ D := fun z => by
      rw [z, d] at hb
      cases hb
    rw [upd_ne q]
    exact s.free hb
  refine ⟨ys, s4 _ _ d, small1000 (by omega), fun c o q => ?_, ys ++ [u], by simp [l], ?_, upd_same⟩
  · rw [upd_ne (ne_of_none q hD)]
    exact s4 _ _ (s _ _ q)
  · intro j z hz
    by_cases c : j < ys.length
    · rw [List.getElem?_append_left c] at hz
      refine mo _ _ _ _ _ _ (fun b o hb eb => ?_) (fun b hb => hb) (e j z hz)
      rw [upd_ne (nD b hb).1]
      exact s4 _ _ eb
    · have ej : j = i := by
        rw [List.getElem?_append_right (by omega)] at hz
        have : j - ys.length < [u].length := by
          rcases Nat.lt_or_ge (j - ys.length) [u].length with h | h
          · exact h
          · rw [List.getElem?_eq_none h] at hz
            cases hz
        simp at this
        omega
      subst ej
      have ez : z = u := by
        rw [← l] at hz
        simpa using hz.symm
      subst ez
      refine mo _ _ _ _ _ _ (fun b o hb eb => ?_) iD hr
      rw [upd_ne (nD b (iD b hb)).1]
      exact eb
theorem merge_nodup : ∀ {more kvs : List (Key × V)}, ((kvs ++ more).map (·.1)).Nodup → mergeK kvs more = kvs ++ more
  | [], kvs, _ => (List.append_nil kvs).symm
  | p :: r, kvs, h => by
    have np : ¬ (kvs.any fun kv => decide (kv.1 = p.1)) = true := fun q => by
      obtain ⟨x, hx, e⟩ := List.any_eq_true.mp q
      rw [List.map_append, List.nodup_append] at h
      exact h.2.2 _ (List.mem_map.mpr ⟨x, hx, rfl⟩) _ (List.mem_map.mpr ⟨p, List.mem_cons_self, rfl⟩) (of_decide_eq_true e)
    show mergeK (putK kvs p.1 p.2) r = _
    have e : putK kvs p.1 p.2 = kvs ++ [p] := by
      unfold putK
      rw [if_neg np]
    rw [e, merge_nodup (by rw [List.append_assoc]; exact h), List.append_assoc]
    rfl
theorem pairs_of {φ : Addr → Key × V → Key × V → Prop} : ∀ {ys : List V} {kvs : List (Key × V)}, ys.length = kvs.length → (∀ (i : Nat) (y : V), ys[i]? = some y → ∃ p u kv, y = .ref p ∧ kvs[i]? = some kv ∧ φ p kv (kv.1, u)) →
    ∃ (ps : List Addr) (ls : List (Key × V)), ys = ps.map V.ref ∧ ls.map (·.1) = kvs.map (·.1) ∧ Paired (fun p l => ∃ kv, φ p kv l) ps ls ∧ ∀ (i : Nat) (x y : Key × V), kvs[i]? = some x → ls[i]? = some y → ∃ p, φ p x y
  | [], [], _, _ => ⟨[], [], rfl, rfl, .nil, fun i x y h => by simp at h⟩
  | [], _ :: _, h, _ => nomatch h
  | _ :: _, [], h, _ => nomatch h
  | y :: r, kv :: t, h, hy => by
    obtain ⟨p, u, kv', e1, e2, e3⟩ := hy 0 y rfl
    have e2' : kv = kv' := Option.some.inj e2
    subst e2'
    obtain ⟨ps, ls, q1, q2, q3, q4⟩ := pairs_of (ys := r) (kvs := t) (Nat.succ.inj h) fun i z hz => hy (i + 1) z (by simpa using hz)
    refine ⟨p :: ps, (kv.1, u) :: ls, by rw [q1, e1]; rfl, by rw [List.map_cons, List.map_cons, q2], .cons ⟨kv, e3⟩ q3, fun i x z h1 h2 => ?_⟩
    cases i with
    | zero =>
      have a1 : kv = x := by simpa using h1
      have a2 : (kv.1, u) = z := by simpa using h2
      exact ⟨p, a1 ▸ a2 ▸ e3⟩
    | succ i => exact q4 i x z (by simpa using h1) (by simpa using h2)
def spCopied (T : List Addr → Hp → Addr → Prop) (n : Nat) : Sp := fun vs H Q _ => ∃ (v : V) (B : List Addr) (Hv : Hp) (m : Nat), vs = [v] ∧ Ob B Hv H ∧ m ≤ 1000 ∧ Dat T B Hv m n v ∧
  ∀ H' u, Same H H' → Cop T Hv H H' n v u → Q u H'
section
variable {P : Program} {w : World} {K : PySem.W.Frag} {mg : Str → Option Value} {base : Heap} {T : List Addr → Hp → Addr → Prop} {fI fL : Addr}
abbrev nCopied : List Str := ["value", "key", "one"]
end
end Wd

set_option Elab.async false
set_option linter.all false
set_option maxRecDepth 100000
set_option maxHeartbeats 4000000
namespace Wd
open PySem L2
/-! ### sorted texts -/
theorem cps_anti : ∀ {a b : List Nat}, PySem.Spec.ltCps a b = false → PySem.Spec.ltCps b a = false → a = b
  | [], [], _, _ => rfl
  | [], _ :: _, h, _ => nomatch h
  | _ :: _, [], _, h => nomatch h
  | a :: r, b :: t, h1, h2 => by
    have h1' : (decide (a < b) || ((a == b) && PySem.Spec.ltCps r t)) = false := h1
    have h2' : (decide (b < a) || ((b == a) && PySem.Spec.ltCps t r)) = false := h2
    have e : a = b := by
      simp at h1' h2'
      omega
    subst e
    simp at h1' h2'
    rw [cps_anti h1' h2']
theorem cps_trans : ∀ {a b c : List Nat}, PySem.Spec.ltCps b a = false → PySem.Spec.ltCps c b = false → PySem.Spec.ltCps c a = false
  | [], _, [], _, _ => rfl
  | [], [], _ :: _, _, h => h
  | [], _ :: _, _ :: _, _, _ => rfl
  | _ :: _, [], _, h, _ => nomatch h
  | _ :: _, _ :: _, [], _, h => nomatch h
  | a :: r, b :: t, c :: u, h1, h2 => by
    have h1' : (decide (b < a) || ((b == a) && PySem.Spec.ltCps t r)) = false := h1
    have h2' : (decide (c < b) || ((c == b) && PySem.Spec.ltCps u t)) = false := h2
    show (decide (c < a) || ((c == a) && PySem.Spec.ltCps u r)) = false
    simp at h1' h2' ⊢
    refine ⟨by omega, fun e => ?_⟩
    subst e
    have e2 : b = c := by omega
    subst e2
    exact cps_trans (h1'.2 rfl) (h2'.2 rfl)
theorem str_ext {a b : Str} (h : a.cps.toList = b.cps.toList) : a = b := by
  obtain ⟨⟨a⟩⟩ := a
  obtain ⟨⟨b⟩⟩ := b
  have h' : a = b := h
  rw [h']
def leS (a b : Str) : Prop := PySem.Spec.ltCps b.cps.toList a.cps.toList = false
theorem rising_leS : ∀ {d : Str} {ds : List Str}, PyProof.Rows.risingS d ds = true → (d :: ds).Pairwise leS
  | d, [], _ => List.pairwise_singleton _ _
  | d, x :: r, h => by
    have h' : (!PySem.Spec.ltCps x.cps.toList d.cps.toList && PyProof.Rows.risingS x r) = true := h
    rw [Bool.and_eq_true, Bool.not_eq_true'] at h'
    have ih := rising_leS h'.2
    refine List.pairwise_cons.mpr ⟨fun y hy => ?_, ih⟩
    rcases List.mem_cons.mp hy with e | e
    · exact e ▸ h'.1
    · exact cps_trans h'.1 ((List.pairwise_cons.mp ih).1 y e)
theorem sorted_leS : ∀ {ds : List Str}, PyProof.Rows.sortedS ds = true → ds.Pairwise leS
  | [], _ => List.Pairwise.nil
  | d :: r, h => rising_leS h
theorem leS_eq : ∀ {cs ds : List Str}, cs.Pairwise leS → ds.Pairwise leS → cs.Perm ds → cs = ds
  | [], ds, _, _, h => (List.nil_perm.mp h).symm ▸ rfl
  | c :: r, [], _, _, h => nomatch (List.perm_nil.mp h)
  | c :: r, d :: t, p, q, h => by
    have p' := List.pairwise_cons.mp p
    have q' := List.pairwise_cons.mp q
    have e : c = d := by
      rcases List.mem_cons.mp (h.mem_iff.mp List.mem_cons_self) with e | m1
      · exact e
      · rcases List.mem_cons.mp (h.mem_iff.mpr List.mem_cons_self) with e | m2
        · exact e.symm
        · exact str_ext (cps_anti (q'.1 c m1) (p'.1 d m2))
    subst e
    rw [leS_eq p'.2 q'.2 (List.Perm.cons_inv h)]
theorem sorted_eq {cs ds ks : List Str} (p1 : cs.Perm ks) (s1 : PyProof.Rows.sortedS cs = true) (p2 : ds.Perm ks) (s2 : PyProof.Rows.sortedS ds = true) : cs = ds :=
  leS_eq (sorted_leS s1) (sorted_leS s2) (p1.trans p2.symm)
/-! ### things by index, lists and tuples -/
def rIxLT (K : PySem.W.Frag) : R2 := fun x y H Q => ∃ p xs i v, x = .ref p ∧ y = .int i ∧ (SqL K H p xs ∨ SqT K H p xs) ∧ atI xs i = some v ∧ Q v H
theorem ix_lt {X : Cx} : IxR X (rIxLT X.K) := by
  intro value slice pins s σ H x y v u Q I rx ry h hs
  obtain ⟨p, xs, i, z, e1, e2, hq, he, q⟩ := h
  rcases hq with hq | hq
  · exact ix_list value slice pins s σ H x y v u Q I rx ry ⟨p, xs, i, z, e1, e2, hq, he, q⟩ hs
  · exact ix_tup value slice pins s σ H x y v u Q I rx ry ⟨p, xs, i, z, e1, e2, hq, he, q⟩ hs
/-- isinstance(v, (tuple, list)) -/
def IsSeq (K : PySem.W.Frag) (H : Hp) (v : V) (c : Bool) : Prop := ∃ t, TyX K H v t ∧ PySem.W.kitAny K t [.type "tuple", .type "list"] = some c
theorem isSeq_ty {K : PySem.W.Frag} {H : Hp} {v : V} {a : String} {x y c : Bool} (h : TyX K H v (.type a)) (h1 : kitB a "tuple" = some x) (h2 : kitB a "list" = some y) (e : c = (x || y)) : IsSeq K H v c := by
  subst e
  exact ⟨_, h, kitAny_cons (kit_ty h1) (fun q => kitAny_cons (kit_ty h2) (fun q2 => by rw [q, q2]; exact kitAny_nil) fun q2 => by rw [q2, Bool.or_true]) fun q => by rw [q, Bool.true_or]⟩
/-- a value that is no list, no tuple and no dict -/
structure Leaf (K : PySem.W.Frag) (H : Hp) (v : V) : Prop where
  seq : IsSeq K H v false
  dict : Isi K H v "dict" false
  bool : ∃ c, Isi K H v "bool" c
section
variable {K : PySem.W.Frag} {T : List Addr → Hp → Addr → Prop} {B : List Addr} {H H' : Hp} {m m' n n' : Nat} {v : V}
theorem leaf_non : Leaf K H .non := ⟨isSeq_ty (.base .non) (x := false) (y := false) (by decide) (by decide) rfl, isi_ty (.base .non) (by decide), _, isi_ty (.base .non) (r := false) (by decide)⟩
theorem leaf_bl (b : Bool) : Leaf K H (.bl b) := ⟨isSeq_ty (.base (.bl b)) (x := false) (y := false) (by decide) (by decide) rfl, isi_ty (.base (.bl b)) (by decide), _, isi_ty (.base (.bl b)) (r := true) (by decide)⟩
theorem leaf_int (b : Int) : Leaf K H (.int b) := ⟨isSeq_ty (.base (.int b)) (x := false) (y := false) (by decide) (by decide) rfl, isi_ty (.base (.int b)) (by decide), _, isi_ty (.base (.int b)) (r := false) (by decide)⟩
theorem leaf_str (b : Str) : Leaf K H (.str b) := ⟨isSeq_ty (.base (.str b)) (x := false) (y := false) (by decide) (by decide) rfl, isi_ty (.base (.str b)) (by decide), _, isi_ty (.base (.str b)) (r := false) (by decide)⟩
theorem leaf_own (O : Own K T) {a : Addr} (t : T B H a) : Leaf K H (.ref a) := by
  obtain ⟨u, hu, k⟩ := O.ty t
  exact ⟨⟨u, hu, kitAny_cons (k "tuple" (by decide)) (fun _ => kitAny_cons (k "list" (by decide)) (fun _ => kitAny_nil) fun q => Bool.noConfusion q) fun q => Bool.noConfusion q⟩, ⟨u, hu, k "dict" (by decide)⟩, _, ⟨u, hu, k "bool" (by decide)⟩⟩
end
/-- equality of a thing of one's own kind with itself -/
def rEqO (T : List Addr → Hp → Addr → Prop) : R2 := fun x y H Q => ∃ B a, x = .ref a ∧ y = .ref a ∧ T B H a ∧ ∀ H', Same H H' → Q (.bl true) H'
/-- two lists or two tuples -/
structure Seq2 (T : List Addr → Hp → Addr → Prop) (K : PySem.W.Frag) (B : List Addr) (Hv Hc H0 H : Hp) (m n : Nat) (a b : Addr) (xs ys : List V) : Prop where
  len : xs.length = ys.length
  few : xs.length ≤ m
  dat : ∀ x ∈ xs, Dat T B Hv m n x
  cop : ∀ (i : Nat) (x y : V), xs[i]? = some x → ys[i]? = some y → Cop T Hv Hc H0 n x y
  sq : ∀ H9, Same H H9 → (SqL K H9 a xs ∨ SqT K H9 a xs) ∧ (SqL K H9 b ys ∨ SqT K H9 b ys) ∧ IsSeq K H9 (.ref a) true ∧ Isi K H9 (.ref a) "dict" false ∧ Isi K H9 (.ref b) "dict" false
  ty : ∃ ct cl, ∀ H9, Same H H9 → Isi K H9 (.ref a) "tuple" ct ∧ Isi K H9 (.ref b) "tuple" ct ∧ Isi K H9 (.ref a) "list" cl ∧ Isi K H9 (.ref b) "list" cl
theorem three {K : PySem.W.Frag} {T : List Addr → Hp → Addr → Prop} (O : Own K T) {B : List Addr} {Hv Hc H0 H : Hp} {m n : Nat} {v u : V} (sb : Ob B Hv H) (d : Dat T B Hv m (n + 1) v) (cp : Cop T Hv Hc H0 (n + 1) v u) (stand : ∀ b o, Hc b = none → H0 b = some o → H b = some o) :
    (∃ a b kvs ls, v = .ref a ∧ u = .ref b ∧ a ∉ B ∧ Hv a = some (.dK kvs) ∧ Hc b = none ∧ H b = some (.dK ls) ∧ 20 * kvs.length ≤ m ∧ (kvs.map (·.1)).Nodup ∧ (∀ p ∈ kvs, ∃ s : Str, p.1 = Sum.inr s ∧ s.length ≤ m ∧ PyData.strOk s = true) ∧ ls.map (·.1) = kvs.map (·.1) ∧
      ∀ (i : Nat) (x y : Key × V), kvs[i]? = some x → ls[i]? = some y → Cop T Hv Hc H0 n x.2 y.2) ∨
    (∃ a b xs ys, v = .ref a ∧ u = .ref b ∧ Seq2 T K B Hv Hc H0 H m n a b xs ys) ∨
    (u = v ∧ ∀ H9, Same H H9 → Leaf K H9 v ∧ (scal v v = true ∨ ∃ a, v = .ref a ∧ T B H9 a)) := by
  cases d with
  | non => cases cp; exact .inr (.inr ⟨rfl, fun H9 s => ⟨leaf_non, .inl rfl⟩⟩)
  | bl b => cases cp; exact .inr (.inr ⟨rfl, fun H9 s => ⟨leaf_bl b, .inl rfl⟩⟩)
  | int b => cases cp; exact .inr (.inr ⟨rfl, fun H9 s => ⟨leaf_int b, .inl rfl⟩⟩)
  | str b => cases cp; exact .inr (.inr ⟨rfl, fun H9 s => ⟨leaf_str b, .inl rfl⟩⟩)
  | own t =>
    cases cp with
    | own _ => exact .inr (.inr ⟨rfl, fun H9 s => ⟨leaf_own O (O.mono (sb.same s) t), .inr ⟨_, rfl, O.mono (sb.same s) t⟩⟩⟩)
    | tup e => exact (O.tup t e).elim
    | lst e => exact (O.lst t e).elim
    | dic e => exact (O.dK t e).elim
  | @tup _ a xs ne e l p =>
    cases cp with
    | own t => exact (O.tup t e).elim
    | @tup _ _ b _ ys e' nb f le cs =>
      obtain rfl := tup_same e e'
      have f' := stand _ _ nb f
      refine .inr (.inl ⟨a, b, xs, ys, rfl, rfl, le, l, p, cs, fun H9 s => ?_, true, false, fun H9 s => ?_⟩)
      · have g := s _ _ (sb _ _ ne e)
        exact ⟨.inr (SqT.of g), .inr (SqT.of (s _ _ f')), isSeq_ty (.base (.tup g)) (x := true) (y := false) (by decide) (by decide) rfl, isi_ty (.base (.tup g)) (by decide), isi_ty (.base (.tup (s _ _ f'))) (by decide)⟩
      · have g := s _ _ (sb _ _ ne e)
        exact ⟨isi_ty (.base (.tup g)) (by decide), isi_ty (.base (.tup (s _ _ f'))) (by decide), isi_ty (.base (.tup g)) (by decide), isi_ty (.base (.tup (s _ _ f'))) (by decide)⟩
    | lst e' => rw [e] at e'; cases e'
    | dic e' => rw [e] at e'; cases e'
  | @lst _ a xs ne e l p =>
    cases cp with
    | own t => exact (O.lst t e).elim
    | @lst _ _ b xs' ys e' nb f le cs =>
      have ex : xs = xs' := by
        rw [e] at e'
        injection e' with e'
        injection e'
      subst ex
      have f' := stand _ _ nb f
      refine .inr (.inl ⟨a, b, xs, ys, rfl, rfl, le, l, p, cs, fun H9 s => ?_, false, true, fun H9 s => ?_⟩)
      · have g := s _ _ (sb _ _ ne e)
        exact ⟨.inl (SqL.of g), .inl (SqL.of (s _ _ f')), isSeq_ty (.base (.lst g)) (x := false) (y := true) (by decide) (by decide) rfl, isi_ty (.base (.lst g)) (by decide), isi_ty (.base (.lst (s _ _ f'))) (by decide)⟩
      · have g := s _ _ (sb _ _ ne e)
        exact ⟨isi_ty (.base (.lst g)) (by decide), isi_ty (.base (.lst (s _ _ f'))) (by decide), isi_ty (.base (.lst g)) (by decide), isi_ty (.base (.lst (s _ _ f'))) (by decide)⟩
    | tup e' => rw [e] at e'; cases e'
    | dic e' => rw [e] at e'; cases e'
  | @dic _ a kvs ne e l nd ks p =>
    cases cp with
    | own t => exact (O.dK t e).elim
    | tup e' => rw [e] at e'; cases e'
    | lst e' => rw [e] at e'; cases e'
    | @dic _ _ b kvs' ls e' nb f kk cs =>
      obtain rfl : kvs = kvs' := dK_same e e'
      exact .inl ⟨a, b, kvs, ls, rfl, rfl, ne, e, nb, stand _ _ nb f, l, nd, ks, kk, cs⟩
theorem keys_of : ∀ {kvs : List (Key × V)} {m : Nat}, (∀ p ∈ kvs, ∃ s : Str, p.1 = Sum.inr s ∧ s.length ≤ m ∧ PyData.strOk s = true) → ∃ ks : List Str, kvs.map (·.1) = ks.map Sum.inr ∧ ks.length = kvs.length ∧ ∀ k ∈ ks, PyData.strOk k = true
  | [], _, _ => ⟨[], rfl, rfl, fun k h => nomatch h⟩
  | p :: r, m, h => by
    obtain ⟨s, e, _, o⟩ := h p List.mem_cons_self
    obtain ⟨ks, e2, l, o2⟩ := keys_of (m := m) fun q hq => h q (List.mem_cons_of_mem _ hq)
    refine ⟨s :: ks, by rw [List.map_cons, List.map_cons, e, e2], by rw [List.length_cons, List.length_cons, l], fun k hk => ?_⟩
    rcases List.mem_cons.mp hk with z | z
    · exact z ▸ o
    · exact o2 k z
def spSame (T : List Addr → Hp → Addr → Prop) (n : Nat) : Sp := fun vs H Q _ => ∃ (v u : V) (B : List Addr) (Hv Hc H0 : Hp) (m : Nat), vs = [v, u] ∧ Ob B Hv H ∧ m ≤ 1000 ∧ Dat T B Hv m n v ∧ Cop T Hv Hc H0 n v u ∧
  (∀ b o, Hc b = none → H0 b = some o → H b = some o) ∧ (∀ b, Hc b = none → Hv b = none) ∧ ∀ H', Same H H' → Q (.bl true) H'
section
variable {P : Program} {w : World} {K : PySem.W.Frag} {mg : Str → Option Value} {base : Heap} {T : List Addr → Hp → Addr → Prop} {fI fL : Addr}
abbrev nSame : List Str := ["one", "other", "key", "k"]
theorem scSame : FnScope nSame ["one", "other"] (defScope sSame) := ⟨rfl, rfl, rfl, by decide +kernel, rfl, by decide +kernel, by decide +kernel⟩
theorem ok_same (O : Own K T) {f : Addr} {fd : FuncData} (F : Fun K "_law_same" "_law_same" sSame f fd) (X : WTxt mg fI fL) (mli : mg "list" = none) (msor : mg "sorted" = none) (mc : mg "_law_same" = some (.ref f)) (b : Binds K fd ["one", "other"] [])
    (hO : ∀ X : Cx, X.prog = P → X.w = w → X.K = K → X.mg = mg → X.base = base → Room 2 X.A → OpR X (compareOp .Eq) (rEqO T)) :
    ∀ n, FnOk P w K mg base CX0 (n + 3) f fd ["one", "other"] (spSame T n)
  | 0 => by
    refine F.ok scSame (fun vs H Q E h => ?_) (fun cdv A outer s H vs Q E hr h => ?_)
    · obtain ⟨v, u, B, Hv, Hc, H0, m, rfl, _⟩ := h
      rfl
    · obtain ⟨v, u, B, Hv, Hc, H0, m, rfl, sb, hm, d, _⟩ := h
      cases d
  | n + 1 => by
    have G : FnOk P w K mg base CX0 (n + 3) f fd ["one", "other"] (spSame T n) := ok_same O F X mli msor mc b hO n
    refine F.ok scSame (fun vs H Q E h => ?_) (fun cdv A outer s H vs Q E hr h => ?_)
    · obtain ⟨v, u, B, Hv, Hc, H0, m, rfl, _⟩ := h
      rfl
    · obtain ⟨v, u, B, Hv, Hc, H0, m, rfl, sb, hm, d, cp, stand, new, k⟩ := h
      have hr0 : Room 2 _ := hr.mono (by omega)
      refine ⟨_, pss_cons (ps_if (PW.pt (pw_or (pt_val (pe_isi (N := "dict") (pv 0) X.isin X.dict)) (pw_or1 (pt_val (pe_isi (N := "dict") (pv 1) X.isin X.dict)))))
          (pss_cons (ps_if (PW.pt (pw_or (pt_not (pt_val (pe_isi (N := "dict") (pv 0) X.isin X.dict))) (pw_or (pt_not (pt_val (pe_isi (N := "dict") (pv 1) X.isin X.dict)))
              (pw_or1 (pt_cmpR (op_neD hr.units) (pe_callB (call_sortedD rfl) (by rfl) msor (by decide +kernel) (pa_cons (pv 0) pa_nil)) (pe_callB (call_sortedD rfl) (by rfl) msor (by decide +kernel) (pa_cons (pv 1) pa_nil)) (nomark _)))))) (pss_one (ps_ret pe_bl)) pss_nil)
          (pss_one (ps_ret (pe_callB (cr_all rfl) (by rfl) X.all (by decide +kernel) (pa_cons (pe_lock (pe_lc (own := [("key", 2)]) (g := gName 2) (tt := tYes) rfl scSame.nd (pi_keys (pv 0))
            (blkOk_by (N := nSame) (sc := defScope sSame) (by decide +kernel)) (fun _ _ _ _ _ => pg_name (i := 2) scSame.nd rfl (Or.inl rfl)) (fun _ _ _ _ _ => pts_nil)
            (fun _ _ _ _ _ => pe_call G hr rfl mc F.kp b .nil pass0 (pa_cons (pe_dget (hu_of hr) (pv 0) (pv 2) (fun _ _ => rfl)) (pa_cons (pe_dget (hu_of hr) (pv 1) (pv 2) (fun _ _ => rfl)) pa_nil))))) pa_nil))))) pss_nil)
        (pss_cons (ps_if (PW.pt (pw_or (pt_val (pe_callB call_isiT (by rfl) X.isin (by decide +kernel) (pa_cons (pv 0) (pa_cons (pe_tup (pa_cons (pe_bltn (v := .ty "tuple") (by rfl) X.tup (by decide +kernel) rfl) (pa_cons (pe_bltn (v := .ty "list") (by rfl) mli (by decide +kernel) rfl) pa_nil))) pa_nil))))
            (pw_or1 (pt_val (pe_callB call_isiT (by rfl) X.isin (by decide +kernel) (pa_cons (pv 1) (pa_cons (pe_tup (pa_cons (pe_bltn (v := .ty "tuple") (by rfl) X.tup (by decide +kernel) rfl) (pa_cons (pe_bltn (v := .ty "list") (by rfl) mli (by decide +kernel) rfl) pa_nil))) pa_nil)))))))
          (pss_cons (ps_if (PW.pt (pw_or (pt_cmpR op_ne (pe_isi (N := "tuple") (pv 0) X.isin X.tup) (pe_isi (N := "tuple") (pv 1) X.isin X.tup) (nomark _)) (pw_or1 (pt_cmpR op_ne (pe_isi (N := "list") (pv 0) X.isin mli) (pe_isi (N := "list") (pv 1) X.isin mli) (nomark _))))) (pss_one (ps_ret pe_bl)) pss_nil)
          (pss_one (ps_ret (pe_and (pe_cmpR op_eq (pe_callB call_len_seq (by rfl) X.len PySem.boot_len (pa_cons (pv 0) pa_nil)) (pe_callB call_len_seq (by rfl) X.len PySem.boot_len (pa_cons (pv 1) pa_nil)) (nomark _))
            (pe_one (pe_callB (cr_all rfl) (by rfl) X.all (by decide +kernel) (pa_cons (pe_lc (own := [("k", 3)]) (g := gName 3) (tt := tYes) rfl scSame.nd
            (pi_range1 rfl X.range (pa_cons (pe_callB call_len_seq (by rfl) X.len PySem.boot_len (pa_cons (pv 0) pa_nil)) pa_nil))
            (blkOk_by (N := nSame) (sc := defScope sSame) (by decide +kernel)) (fun _ _ _ _ _ => pg_name (i := 3) scSame.nd rfl (Or.inl rfl)) (fun _ _ _ _ _ => pts_nil)
            (fun _ _ _ _ _ => pe_call G hr rfl mc F.kp b .nil pass0 (pa_cons (pe_ix (r := rIxLT K) ix_lt (pv 0) (pv 3) (fun _ _ => rfl)) (pa_cons (pe_ix (r := rIxLT K) ix_lt (pv 1) (pv 3) (fun _ _ => rfl)) pa_nil)))) pa_nil))))))) pss_nil)
        (pss_cons (ps_if (PW.pt (pw_or (pt_cmp (pc_isN (pv 0)) rfl) (pw_or1 (pt_cmp (pc_isN (pv 1)) rfl)))) (pss_one (ps_ret (pe_and (pe_cmp (pc_isN (pv 0)) rfl) (pe_one (pe_cmp (pc_isN (pv 1)) rfl))))) pss_nil)
        (pss_one (ps_ret (pe_and (pe_cmpR op_eq (pe_isi (N := "bool") (pv 0) X.isin X.bool) (pe_isi (N := "bool") (pv 1) X.isin X.bool) (nomark _)) (pe_one (pe_cmpR (op_eq.or (hO _ rfl rfl rfl rfl rfl hr0)) (pv 0) (pv 1) (nomark _)))))))), ?_⟩
      rcases three O sb d cp stand with ⟨a, b', kvs, ls, rfl, rfl, na, e0, nb, f1, hl, nd, hks, kk, cs⟩ | ⟨a, b', xs, ys, rfl, rfl, S⟩ | ⟨rfl, lf⟩
      · have e1 := sb _ _ na e0
        have nab : b' ≠ a := fun q => by
          have := new _ nb
          rw [q, e0] at this
          cases this
        obtain ⟨ks, ek, lk, ok⟩ := keys_of hks
        have i1 : ∀ {H9 : Hp}, Same H H9 → Isi K H9 (.ref a) "dict" true := fun s => isi_ty (.base (.dK (s _ _ e1))) (by decide)
        have i2 : ∀ {H9 : Hp}, Same H H9 → Isi K H9 (.ref b') "dict" true := fun s => isi_ty (.base (.dK (s _ _ f1))) (by decide)
        refine ⟨_, rfl, _, i1 (Same.refl _), _, rfl, iteT (iteT ⟨_, rfl, _, i1 (Same.refl _), _, rfl, iteF ⟨_, rfl, _, i2 (Same.refl _), _, rfl, iteF ?_⟩⟩)⟩
        refine ⟨_, rfl, a, kvs, ks, rfl, .inl e1, ek, by omega, fun ys1 p1 pm1 st1 hp1 => ?_⟩
        have s1 : Same H (upd H p1 (.lst (ys1.map V.str))) := fun b o e => by
          rw [upd_ne (ne_of_none e hp1)]
          exact e
        have g1 : (upd H p1 (.lst (ys1.map V.str))) p1 = some (.lst (ys1.map V.str)) := upd_same
        generalize upd H p1 (.lst (ys1.map V.str)) = H1 at s1 g1
        refine ⟨_, rfl, b', ls, ks, rfl, .inl (s1 _ _ f1), kk.trans ek, by omega, fun ys2 p2 pm2 st2 hp2 => ?_⟩
        have s2 : Same H1 (upd H1 p2 (.lst (ys2.map V.str))) := fun b o e => by
          rw [upd_ne (ne_of_none e hp2)]
          exact e
        have g2 : (upd H1 p2 (.lst (ys2.map V.str))) p2 = some (.lst (ys2.map V.str)) := upd_same
        generalize upd H1 p2 (.lst (ys2.map V.str)) = H2 at s2 g2
        have s12 := s1.trans s2
        obtain rfl : ys1 = ys2 := sorted_eq pm1 st1 pm2 st2
        have oky : ∀ y ∈ ys1, PyData.strOk y = true := fun y hy => ok y (pm1.mem_iff.mp hy)
        refine ⟨_, _, dp_strs (SqL.of (s2 _ _ g1)), dp_strs (SqL.of g2), shaped_strs oky, shaped_strs oky, _, rfl, ?_⟩
        rw [show PyData.eqv (.list (ys1.map PyData.str)) (.list (ys1.map PyData.str)) = true from (eqv_strs ys1 ys1).trans (decide_eq_true rfl)]
        refine iteF ?_
        have e2 := s12 _ _ e1
        have f2 := s12 _ _ f1
        refine ⟨a, _, e2, True.intro, fun od => ?_⟩
        have kid := Dat.kids O e0 _ d
        have sf : Ob (a :: B) Hv (upd H2 a (.frz od (.dK kvs))) := fun b o nb e => by
          have q : b ≠ a ∧ b ∉ B := by simpa using nb
          rw [upd_ne q.1]
          exact s12 _ _ (sb _ _ q.2 e)
        have h1 : (upd H2 a (.frz od (.dK kvs))) a = some (.frz od (.dK kvs)) := upd_same
        have f3 : (upd H2 a (.frz od (.dK kvs))) b' = some (.dK ls) := (upd_ne nab).trans f2
        have stf : ∀ b o, Hc b = none → H0 b = some o → (upd H2 a (.frz od (.dK kvs))) b = some o := fun b o hb e => by
          have q : b ≠ a := fun z => by
            have := new _ hb
            rw [z, e0] at this
            cases this
          rw [upd_ne q]
          exact s12 _ _ (stand _ _ hb e)
        have un2 : ∀ {H9 : Hp}, Same (upd H2 a (.frz od (.dK kvs))) H9 → Same H (upd H9 a (.dK kvs)) := fun s1 b o e => by
          by_cases q : b = a
          · subst q
            rw [e1] at e
            rw [upd_same]
            exact e
          · rw [upd_ne q]
            refine s1 _ _ ?_
            rw [upd_ne q]
            exact s12 _ _ e
        generalize upd H2 a (.frz od (.dK kvs)) = Hf at sf h1 f3 stf un2
        refine ⟨_, rfl, a, od, rfl, .inl ⟨kvs, h1, fun D hD => ?_⟩⟩
        refine lc_bools (walk_keys (kvs := kvs) (d := a) (o := od)) (fun i => True) hD (by omega) (fun H s => s _ _ h1) ?_ ?_
        · rintro i x H3 H' kk' hi s3 ⟨rfl, ky, vy, hx, rfl⟩ h
          have hmem := List.mem_of_getElem? hx
          have ndl : (ls.map (·.1)).Nodup := kk ▸ nd
          obtain ⟨uy, hy⟩ : ∃ uy, ls[i]? = some (ky, uy) := by
            have q : (ls.map (·.1))[i]? = some ky := by rw [kk, List.getElem?_map, hx]; rfl
            rw [List.getElem?_map] at q
            cases hl2 : ls[i]? with
            | none => rw [hl2] at q; cases q
            | some z =>
              rw [hl2] at q
              obtain ⟨z1, z2⟩ := z
              cases q
              exact ⟨z2, rfl⟩
          refine ⟨rfl, _, rfl, _, rfl, a, vy, rfl, ?_, _, rfl, _, rfl, b', uy, rfl, ?_, vy, uy, a :: B, Hv, Hc, H0, m, rfl, sf.same s3, hm, kid _ hmem, cs i _ _ hx hy, fun b o hb e => s3 _ _ (stf b o hb e), new, fun H4 s4 => h true H4 s4 (yea trivial)⟩
          · rw [← val_at nd hx]
            exact .inl ⟨kvs, ky, .inr ⟨od, s3 _ _ h1⟩, rfl, rfl⟩
          · rw [← val_at ndl hy]
            exact .inl ⟨ls, ky, .inl (s3 _ _ f3), rfl, rfl⟩
        · rintro H3 bs s3 hD3 hb
          have nDa : D ≠ a := fun q => by
            rw [q, h1] at hD
            cases hD
          have hb' : bs.all id = true := hb.mpr fun _ _ => trivial
          refine ⟨s3 _ _ h1, D, bs, rfl, SqL.of ((upd_ne nDa).trans hD3), ?_⟩
          rw [hb']
          exact k _ (un2 s3)
      · obtain ⟨ct, cl, ty⟩ := S.ty
        have z0 := S.sq _ (Same.refl _)
        refine ⟨_, rfl, _, z0.2.2.2.1, _, rfl, iteF ⟨_, rfl, _, z0.2.2.2.2, _, rfl, iteF ?_⟩⟩
        refine ⟨_, rfl, (by show 2 ≤ sizeLine; decide), fun p hp => ?_⟩
        have s1 : Same H (upd H p (.tup [.ty "tuple", .ty "list"])) := fun b o e => by
          rw [upd_ne (ne_of_none e hp)]
          exact e
        have g1 : (upd H p (.tup [.ty "tuple", .ty "list"])) p = some (.tup [.ty "tuple", .ty "list"]) := upd_same
        generalize upd H p (.tup [.ty "tuple", .ty "list"]) = H1 at s1 g1
        have z1 := S.sq _ s1
        obtain ⟨t, ht, kt⟩ := z1.2.2.1
        obtain ⟨t1, t2, t3, t4⟩ := ty _ s1
        refine ⟨_, p, _, t, _, true, rfl, g1, .cons (.ty _) (.cons (.ty _) .nil), ht, kt, _, rfl, iteT (iteT ⟨_, rfl, _, t1, _, rfl, _, t2, ?_, _, rfl, ?_⟩)⟩
        · cases ct <;> rfl
        rw [show decide (V.bl ct = V.bl ct) = true from decide_eq_true rfl]
        refine iteF ⟨_, rfl, _, t3, _, rfl, _, t4, ?_, _, rfl, ?_⟩
        · cases cl <;> rfl
        rw [show decide (V.bl cl = V.bl cl) = true from decide_eq_true rfl]
        refine iteF ⟨_, rfl, a, xs, rfl, z1.1, _, rfl, b', ys, rfl, z1.2.1, rfl, _, rfl, ?_⟩
        rw [show decide (V.int (xs.length : Int) = V.int (ys.length : Int)) = true from decide_eq_true (by rw [S.len])]
        have few := S.few
        refine iteT ⟨_, rfl, a, xs, rfl, z1.1, _, rfl, by omega, by omega, fun D hD => ?_⟩
        have en : (xs.length : Int).toNat = xs.length := Int.toNat_natCast _
        refine lc_bools (walk_range (n := (xs.length : Int).toNat)) (fun i => True) hD (by omega) (fun _ _ => trivial) ?_ ?_
        · rintro i x H3 H' kk' hi s3 ⟨rfl, rfl⟩ h
          have s13 := s1.trans s3
          have z3 := S.sq _ s13
          have hi1 : i < xs.length := by omega
          have hi2 : i < ys.length := S.len ▸ hi1
          have g1' : atI xs (0 + (i : Int)) = some xs[i] := at_nn (by omega) (by rw [show (0 + (i : Int)).toNat = i by omega]; exact List.getElem?_eq_getElem hi1)
          have g2' : atI ys (0 + (i : Int)) = some ys[i] := at_nn (by omega) (by rw [show (0 + (i : Int)).toNat = i by omega]; exact List.getElem?_eq_getElem hi2)
          exact ⟨rfl, _, rfl, _, rfl, a, xs, _, _, rfl, rfl, z3.1, g1', _, rfl, _, rfl, b', ys, _, _, rfl, rfl, z3.2.1, g2', xs[i], ys[i], B, Hv, Hc, H0, m, rfl, sb.same s13, hm, S.dat _ (List.getElem_mem hi1),
            S.cop i _ _ (List.getElem?_eq_getElem hi1) (List.getElem?_eq_getElem hi2), fun b o hb e => s13 _ _ (stand b o hb e), new, fun H4 s4 => h true H4 s4 (yea trivial)⟩
        · rintro H3 bs s3 hD3 hb
          have hb' : bs.all id = true := hb.mpr fun _ _ => trivial
          refine ⟨D, bs, rfl, SqL.of hD3, ?_⟩
          rw [hb']
          exact k _ (s1.trans s3)
      · have l0 := (lf _ (Same.refl _)).1
        refine ⟨_, rfl, _, l0.dict, _, rfl, iteF ⟨_, rfl, _, l0.dict, _, rfl, iteF ?_⟩⟩
        refine ⟨_, rfl, (by show 2 ≤ sizeLine; decide), fun p hp => ?_⟩
        have s1 : Same H (upd H p (.tup [.ty "tuple", .ty "list"])) := fun b o e => by
          rw [upd_ne (ne_of_none e hp)]
          exact e
        have g1 : (upd H p (.tup [.ty "tuple", .ty "list"])) p = some (.tup [.ty "tuple", .ty "list"]) := upd_same
        generalize upd H p (.tup [.ty "tuple", .ty "list"]) = H1 at s1 g1
        obtain ⟨t, ht, kt⟩ := (lf _ s1).1.seq
        refine ⟨_, p, _, t, _, false, rfl, g1, .cons (.ty _) (.cons (.ty _) .nil), ht, kt, _, rfl, iteF ⟨_, rfl, (by show 2 ≤ sizeLine; decide), fun q hq => ?_⟩⟩
        have s2 : Same H1 (upd H1 q (.tup [.ty "tuple", .ty "list"])) := fun b o e => by
          rw [upd_ne (ne_of_none e hq)]
          exact e
        have g2 : (upd H1 q (.tup [.ty "tuple", .ty "list"])) q = some (.tup [.ty "tuple", .ty "list"]) := upd_same
        generalize upd H1 q (.tup [.ty "tuple", .ty "list"]) = H2 at s2 g2
        have s12 := s1.trans s2
        obtain ⟨t', ht', kt'⟩ := (lf _ s12).1.seq
        refine ⟨_, q, _, t', _, false, rfl, g2, .cons (.ty _) (.cons (.ty _) .nil), ht', kt', _, rfl, iteF ⟨_, rfl, _, rfl, ?_⟩⟩
        obtain ⟨l2, eq2⟩ := lf _ s12
        obtain ⟨c, hc⟩ := l2.bool
        refine ite2 (fun e => ?_) (fun e => ?_)
        · refine iteT ⟨_, rfl, _, rfl, ?_⟩
          rw [if_pos e]
          refine ⟨_, rfl, ?_⟩
          show Q (.bl (decide (u = V.non))) H2
          rw [e]
          exact k _ s12
        · refine ⟨_, rfl, _, rfl, ?_⟩
          refine ite2 (fun e2 => (e e2).elim) (fun _ => ?_)
          refine ⟨_, rfl, _, hc, _, rfl, _, hc, ?_, _, rfl, ?_⟩
          · cases c <;> rfl
          rw [show decide (V.bl c = V.bl c) = true from decide_eq_true rfl]
          refine iteT ⟨_, rfl, _, rfl, ?_⟩
          rcases eq2 with q | ⟨a, rfl, q⟩
          · refine .inl ⟨q, ?_⟩
            rw [decide_eq_true rfl]
            exact k _ s12
          · exact .inr ⟨B, a, rfl, rfl, q, fun H9 s9 => k _ (s12.trans s9)⟩
end
end Wd

set_option Elab.async false
set_option linter.all false
set_option maxRecDepth 100000
set_option maxHeartbeats 4000000
namespace Wd
open PySem L2
/-! ### numbers -/
theorem op_powB {X : Cx} : OpR X (binaryOp .Pow) (rI (fun i j => 0 ≤ j ∧ (Builtin.Int.intBits i : Int) * j ≤ 2 ^ 27) fun i j => .int (i ^ j.toNat)) :=
  opI fun _ _ _ _ _ _ _ hc q => PyProof.Rows.pow_int hc.1 hc.2 q
abbrev ten61 : Int := 10 ^ 61
theorem ten61_pos : (0 : Int) < ten61 := by decide +kernel
theorem ten61_log : ten61.natAbs.log2 < 9000 := by decide +kernel
theorem great_pos : (0 : Int) < (10 ^ (60 : Int).toNat) ^ (10 : Int).toNat := by decide +kernel
theorem great_bits : (Builtin.Int.intBits (10 ^ (60 : Int).toNat) : Int) * 10 ≤ 2 ^ 27 := by decide +kernel
theorem log_of {t : Int} (h0 : 0 < t) (h : t ≤ ten61) : t.natAbs.log2 < 9000 := by
  have e : t.natAbs ≤ ten61.natAbs := by omega
  have z : t.natAbs ≠ 0 := by omega
  refine Nat.lt_of_le_of_lt ?_ ten61_log
  exact (Nat.le_log2 (by decide +kernel)).mpr (Nat.le_trans (Nat.log2_self_le z) e)
theorem modA (i : Int) : -(2 ^ 64) < i % 2305843009213693951 ∧ i % 2305843009213693951 < 2 ^ 64 := by omega
theorem modB (i : Int) : -(2 ^ 64) < i % 2305843009213693921 ∧ i % 2305843009213693921 < 2 ^ 64 := by omega
/-! ### the bag -/
/-- all but the object at B is as it was -/
def SB (B : Addr) (H H' : Hp) : Prop := ∀ b o, b ≠ B → H b = some o → H' b = some o
def BagAt (H : Hp) (B : Addr) : Prop := ∃ x y z : Int, H B = some (.lst [.int x, .int y, .int z])
theorem SB.refl (B : Addr) (H : Hp) : SB B H H := fun _ _ _ h => h
theorem SB.trans {B : Addr} {H H1 H2 : Hp} (a : SB B H H1) (b : SB B H1 H2) : SB B H H2 := fun c o n h => b c o n (a c o n h)
theorem SB.upd {B : Addr} {H H1 : Hp} {o : HO} (a : SB B H H1) : SB B H (upd H1 B o) := fun c u n h => by
  rw [upd_ne n]
  exact a c u n h
theorem SB.new {B p : Addr} {H H1 : Hp} {o : HO} (a : SB B H H1) (hp : H1 p = none) : SB B H (L2.upd H1 p o) := fun c u n h => by
  have z := a c u n h
  rw [upd_ne (ne_of_none z hp)]
  exact z
theorem SB.of {B : Addr} {H H' : Hp} (a : Same H H') : SB B H H' := fun b o _ h => a b o h
/-- the object p, new since H, is changed -/
theorem SB.own {B p : Addr} {H H1 : Hp} {o : HO} (a : SB B H H1) (hp : H p = none) : SB B H (L2.upd H1 p o) := fun c u n h => by
  rw [upd_ne (ne_of_none h hp)]
  exact a c u n h
theorem BagAt.new {B p : Addr} {H : Hp} {o : HO} (a : BagAt H B) (hp : H p = none) : BagAt (upd H p o) B := by
  obtain ⟨x, y, z, h⟩ := a
  exact ⟨x, y, z, by rw [upd_ne (ne_of_none h hp)]; exact h⟩
theorem BagAt.other {B p : Addr} {H : Hp} {o : HO} (a : BagAt H B) (hp : B ≠ p) : BagAt (upd H p o) B := by
  obtain ⟨x, y, z, h⟩ := a
  exact ⟨x, y, z, by rw [upd_ne hp]; exact h⟩
theorem BagAt.nn {B : Addr} {H : Hp} (a : BagAt H B) : H B ≠ none := by
  obtain ⟨x, y, z, h⟩ := a
  rw [h]
  exact fun q => nomatch q
theorem BagAt.ne {B p : Addr} {H : Hp} (a : BagAt H B) (hp : H p = none) : p ≠ B := fun e => a.nn (by rw [← e]; exact hp)
/-! ### promises -/
def spStart (K : PySem.W.Frag) : Sp := fun vs H Q _ => ∃ (a : Addr) (ns : List Int), ∃ at_ : Nat, vs = [.ref a, .int (at_ : Int)] ∧ SqL K H a (ns.map V.int) ∧
  ∀ H' B, Same H H' → H B = none → BagAt H' B → Q (.ref B) H'
def spThrow : Sp := fun vs H Q _ => ∃ (B : Addr) (t : Int), vs = [.ref B, .int t] ∧ BagAt H B ∧ 0 < t ∧ t ≤ ten61 ∧
  ∀ r H', 0 ≤ r → r < t → SB B H H' → BagAt H' B → Q (.int r) H'
def spPickS : Sp := fun vs H Q _ => ∃ (B : Addr) (z : Str), vs = [.ref B, .str z] ∧ BagAt H B ∧ 0 < z.length ∧ z.length ≤ 100 ∧
  ∀ c H', c ∈ z.cps.toList → SB B H H' → BagAt H' B → Q (.str ⟨#[c]⟩) H'
def spPickL : Sp := fun vs H Q _ => ∃ (B L : Addr) (ys : List V), vs = [.ref B, .ref L] ∧ BagAt H B ∧ B ≠ L ∧ H L = some (.lst ys) ∧ 0 < ys.length ∧ ys.length ≤ 100 ∧
  ∀ y H', y ∈ ys → SB B H H' → BagAt H' B → Q y H'
def spValue : Sp := fun vs H Q _ => ∃ B : Addr, vs = [.ref B] ∧ BagAt H B ∧ ∀ i H', -ten60 < i → i < ten60 → SB B H H' → BagAt H' B → Q (.int i) H'
structure TxtA (mg : Str → Option Value) (fT : Addr) : Prop where
  len : mg "len" = none
  int : mg "int" = none
  abs : mg "abs" = none
  max : mg "max" = none
  thr : mg "_law_throw" = some (.ref fT)
section
variable {P : Program} {w : World} {K : PySem.W.Frag} {mg : Str → Option Value} {base : Heap} {fT : Addr}
theorem scStart : FnScope ["script", "at", "cell", "great", "mixed"] ["script", "at"] (defScope sStart) := ⟨rfl, rfl, rfl, by decide +kernel, rfl, by decide +kernel, by decide +kernel⟩
theorem ok_start {f : Addr} {fd : FuncData} (F : Fun K "_law_start" "_law_start" sStart f fd) (T : TxtA mg fT) : FnOk P w K mg base CX0 1 f fd ["script", "at"] (spStart K) := by
  refine F.ok scStart (fun vs H Q E h => ?_) (fun cdv A outer s H vs Q E hr h => ?_)
  · obtain ⟨a, ns, at_, rfl, _⟩ := h
    rfl
  · obtain ⟨a, ns, at_, rfl, hS, k⟩ := h
    refine ⟨_, pss_cons (ps_set (i := 2) scStart.nd rfl (Or.inl rfl) (pe_ifExp (pt_cmpR op_lt (pv 1) (pe_callB call_len_seq (by rfl) T.len PySem.boot_len (pa_cons (pv 0) pa_nil)) (nomark _))
        (pe_ix ix_list (pv 0) (pv 1) (fun _ _ => rfl)) (pe_op op_add (pe_op op_mul pe_int (pv 1)) pe_int)))
      (pss_cons (ps_set (i := 3) scStart.nd rfl (Or.inl rfl) (pe_op op_mod (pe_callTy call_int1 (by rfl) T.int (by decide +kernel) (pa_cons (pe_callB call_abs (by rfl) T.abs (by decide +kernel) (pa_cons (pv 2) pa_nil)) pa_nil))
        (pe_op op_powB (pe_op op_pow pe_int pe_int) pe_int)))
      (pss_cons (ps_set (i := 4) scStart.nd rfl (Or.inl rfl) (pe_op op_add (pe_op op_mul (pe_op op_mod (pe_callTy call_int1 (by rfl) T.int (by decide +kernel) (pa_cons (pv 3) pa_nil)) pe_int) pe_int)
        (pe_callTy call_int1 (by rfl) T.int (by decide +kernel) (pa_cons (pe_cmpR op_lt (pv 2) pe_int (nomark _)) pa_nil))))
      (pss_one (ps_ret (pe_lst (pa_cons (pe_callB (call_max2 rfl) (by rfl) T.max (by decide +kernel) (pa_cons pe_int (pa_cons (pe_op op_sub (pv 3) (pe_op op_pow pe_int pe_int)) pa_nil)))
        (pa_cons (pe_op op_mod (pe_callTy call_int1 (by rfl) T.int (by decide +kernel) (pa_cons (pe_op op_add (pe_op op_add (pe_op op_mul (pv 4) pe_int) (pe_op op_mul pe_int (pv 1))) pe_int) pa_nil)) pe_int)
        (pa_cons pe_int pa_nil)))))))), ?_⟩
    refine ⟨_, rfl, _, rfl, a, _, rfl, .inl hS, _, _, rfl, rfl, _, rfl, ?_⟩
    refine ite2 (fun c => ?_) (fun _ => ?_)
    · obtain ⟨n0, hn⟩ : ∃ n0 : Int, (ns.map V.int)[at_]? = some (V.int n0) := by
        have c' := of_decide_eq_true c
        have c2 : at_ < (ns.map V.int).length := by omega
        rw [List.length_map] at c2
        exact ⟨ns[at_], by rw [List.getElem?_map, List.getElem?_eq_getElem c2]; rfl⟩
      refine ⟨_, rfl, _, rfl, a, _, _, _, rfl, rfl, hS, atI_nat (j := at_) hn, ?_⟩
      refine ⟨_, rfl, _, rfl, .inl ⟨_, rfl, _, _, rfl, rfl, ⟨by decide, by decide, by decide⟩, _, _, rfl, rfl, ⟨by decide, great_bits⟩, _, _, rfl, rfl, great_pos, ?_⟩⟩
      refine ⟨_, rfl, .inl ⟨_, rfl, _, _, rfl, rfl, (by show (0 : Int) < _; decide), _, _, rfl, rfl, .inr ⟨by decide, by decide⟩, _, rfl, _, _, rfl, rfl, .inr ⟨_, rfl, _, _, rfl, rfl, ?_⟩⟩⟩
      refine ⟨_, rfl, _, _, rfl, rfl, ⟨by decide, by decide, by decide⟩, _, _, rfl, rfl, _, _, rfl, _, rfl, _, _, rfl, rfl, .inr ⟨by decide, by decide⟩, _, rfl, _, _, rfl, rfl, .inl ⟨by decide, by decide⟩, _, _, rfl, rfl, _, _, rfl, rfl,
        .inl ⟨_, rfl, _, _, rfl, rfl, (by show (0 : Int) < _; decide), (by show 3 ≤ sizeLine; decide), fun l hl => ?_⟩⟩
      exact k _ l (fun b o e => by rw [upd_ne (ne_of_none e hl)]; exact e) hl ⟨_, _, _, upd_same⟩
    · refine ⟨_, rfl, _, _, rfl, rfl, .inl ⟨by decide, by decide⟩, _, _, rfl, rfl, ?_⟩
      refine ⟨_, rfl, _, rfl, .inl ⟨_, rfl, _, _, rfl, rfl, ⟨by decide, by decide, by decide⟩, _, _, rfl, rfl, ⟨by decide, great_bits⟩, _, _, rfl, rfl, great_pos, ?_⟩⟩
      refine ⟨_, rfl, .inl ⟨_, rfl, _, _, rfl, rfl, (by show (0 : Int) < _; decide), _, _, rfl, rfl, .inr ⟨by decide, by decide⟩, _, rfl, _, _, rfl, rfl, .inr ⟨_, rfl, _, _, rfl, rfl, ?_⟩⟩⟩
      refine ⟨_, rfl, _, _, rfl, rfl, ⟨by decide, by decide, by decide⟩, _, _, rfl, rfl, _, _, rfl, _, rfl, _, _, rfl, rfl, .inr ⟨by decide, by decide⟩, _, rfl, _, _, rfl, rfl, .inl ⟨by decide, by decide⟩, _, _, rfl, rfl, _, _, rfl, rfl,
        .inl ⟨_, rfl, _, _, rfl, rfl, (by show (0 : Int) < _; decide), (by show 3 ≤ sizeLine; decide), fun l hl => ?_⟩⟩
      exact k _ l (fun b o e => by rw [upd_ne (ne_of_none e hl)]; exact e) hl ⟨_, _, _, upd_same⟩
theorem scThrow : FnScope ["bag", "total", "found", "one", "two", "three"] ["bag", "total"] (defScope sThrow) := ⟨rfl, rfl, rfl, by decide +kernel, rfl, by decide +kernel, by decide +kernel⟩
theorem ok_throw {f : Addr} {fd : FuncData} (F : Fun K "_law_throw" "_law_throw" sThrow f fd) (T : TxtA mg fT) : FnOk P w K mg base CX0 1 f fd ["bag", "total"] spThrow := by
  refine F.ok scThrow (fun vs H Q E h => ?_) (fun cdv A outer s H vs Q E hr h => ?_)
  · obtain ⟨B, t, rfl, _⟩ := h
    rfl
  · obtain ⟨B, t, rfl, ⟨x, y, z, hB⟩, h0, ht, k⟩ := h
    refine ⟨_, pss_cons (ps_if (pt_cmpR op_gt (pe_ix ix_list (pv 0) pe_int (fun _ _ => rfl)) pe_int (nomark _))
        (pss_cons (ps_set (i := 2) scThrow.nd rfl (Or.inl rfl) (pe_op op_mod (pe_callTy call_int1 (by rfl) T.int (by decide +kernel) (pa_cons (pe_ix ix_list (pv 0) pe_int (fun _ _ => rfl)) pa_nil)) (pv 1)))
        (pss_cons (ps_asg (pe_op op_fdivW (pe_ix ix_list (pv 0) pe_int (fun _ _ => rfl)) (pv 1)) (pg_sub (pv 0) pe_int set_list))
        (pss_one (ps_ret (pv 2))))) pss_nil)
      (pss_cons (ps_asg (pe_op op_add (pe_ix ix_list (pv 0) pe_int (fun _ _ => rfl)) pe_int) (pg_sub (pv 0) pe_int set_list))
      (pss_cons (ps_set (i := 3) scThrow.nd rfl (Or.inl rfl) (pe_op op_mod (pe_callTy call_int1 (by rfl) T.int (by decide +kernel) (pa_cons (pe_op op_add (pe_ix ix_list (pv 0) pe_int (fun _ _ => rfl)) (pe_op op_mul pe_int (pe_ix ix_list (pv 0) pe_int (fun _ _ => rfl)))) pa_nil)) pe_int))
      (pss_cons (ps_set (i := 4) scThrow.nd rfl (Or.inl rfl) (pe_op op_mod (pe_callTy call_int1 (by rfl) T.int (by decide +kernel) (pa_cons (pe_op op_add (pe_op op_mul (pv 3) (pv 3)) (pe_op op_mul pe_int (pe_ix ix_list (pv 0) pe_int (fun _ _ => rfl)))) pa_nil)) pe_int))
      (pss_cons (ps_set (i := 5) scThrow.nd rfl (Or.inl rfl) (pe_op op_mod (pe_callTy call_int1 (by rfl) T.int (by decide +kernel) (pa_cons (pe_op op_add (pe_op op_mul (pv 4) (pv 3)) pe_int) pa_nil)) pe_int))
      (pss_one (ps_ret (pe_op op_mod (pe_callTy call_int1 (by rfl) T.int (by decide +kernel) (pa_cons (pe_op op_fdiv (pv 5) pe_int) pa_nil)) (pv 1)))))))), ?_⟩
    refine ⟨_, rfl, B, _, _, _, rfl, rfl, SqL.of hB, atI_nat (j := 0) rfl, _, _, rfl, rfl, _, rfl, ?_⟩
    refine ite2 (fun c => ?_) (fun _ => ?_)
    · refine ⟨_, rfl, B, _, _, _, rfl, rfl, SqL.of hB, atI_nat (j := 0) rfl, .inl ⟨_, rfl, _, rfl, _, _, rfl, rfl, h0, ?_⟩⟩
      refine ⟨_, rfl, B, _, _, _, rfl, rfl, SqL.of hB, atI_nat (j := 0) rfl, _, rfl, _, _, rfl, rfl, ⟨h0, log_of h0 ht⟩, _, rfl, B, _, _, 0, rfl, rfl, hB, rfl, ?_⟩
      refine ⟨_, rfl, ?_⟩
      exact k _ _ (Int.emod_nonneg _ (by omega)) (Int.emod_lt_of_pos _ h0) (SB.refl _ _).upd ⟨_, _, _, upd_same⟩
    · refine ⟨_, rfl, B, _, _, _, rfl, rfl, SqL.of hB, atI_nat (j := 2) rfl, _, _, rfl, rfl, _, rfl, B, _, _, 2, rfl, rfl, hB, rfl, ?_⟩
      refine ⟨_, rfl, B, _, _, _, rfl, rfl, SqL.of upd_same, atI_nat (j := 1) rfl, _, rfl, B, _, _, _, rfl, rfl, SqL.of upd_same, atI_nat (j := 2) rfl, _, _, rfl, rfl, .inl ⟨by decide, by decide⟩, _, _, rfl, rfl,
        .inl ⟨_, rfl, _, _, rfl, rfl, (by show (0 : Int) < _; decide), ?_⟩⟩
      refine ⟨_, rfl, _, rfl, _, _, rfl, rfl, .inl (modA _), _, rfl, B, _, _, _, rfl, rfl, SqL.of upd_same, atI_nat (j := 2) rfl, _, _, rfl, rfl, .inl ⟨by decide, by decide⟩, _, _, rfl, rfl,
        .inl ⟨_, rfl, _, _, rfl, rfl, (by show (0 : Int) < _; decide), ?_⟩⟩
      refine ⟨_, rfl, _, rfl, _, _, rfl, rfl, .inl (modB _), _, _, rfl, rfl, .inl ⟨_, rfl, _, _, rfl, rfl, (by show (0 : Int) < _; decide), ?_⟩⟩
      refine ⟨_, rfl, _, _, rfl, rfl, ⟨by decide, by decide⟩, .inl ⟨_, rfl, _, rfl, _, _, rfl, rfl, h0, ?_⟩⟩
      exact k _ _ (Int.emod_nonneg _ (by omega)) (Int.emod_lt_of_pos _ h0) (SB.refl _ _).upd ⟨_, _, _, upd_same⟩
theorem t60 : (100 : Int) < ten60 := by decide +kernel
theorem scPick : FnScope ["bag", "items"] ["bag", "items"] (defScope sPick) := ⟨rfl, rfl, rfl, by decide +kernel, rfl, by decide +kernel, by decide +kernel⟩
theorem ok_pickS {f : Addr} {fd fdT : FuncData} (F : Fun K "_law_pick" "_law_pick" sPick f fd) (T : TxtA mg fT) (FT : Fun K "_law_throw" "_law_throw" sThrow fT fdT) (bT : Binds K fdT ["bag", "total"] []) :
    FnOk P w K mg base CX0 2 f fd ["bag", "items"] spPickS := by
  have G : FnOk P w K mg base CX0 1 fT fdT ["bag", "total"] spThrow := ok_throw FT T
  refine F.ok scPick (fun vs H Q E h => ?_) (fun cdv A outer s H vs Q E hr h => ?_)
  · obtain ⟨B, z, rfl, _⟩ := h
    rfl
  · obtain ⟨B, z, rfl, hB, h0, h1, k⟩ := h
    have hz : z.length ≤ sizeLine := Nat.le_of_lt (small1000 (by omega))
    refine ⟨_, pss_one (ps_ret (pe_ix ix_str (pv 1) (pe_call G hr rfl T.thr FT.kp bT .nil pass0 (pa_cons (pv 0) (pa_cons (pe_callB call_len_str (by rfl) T.len PySem.boot_len (pa_cons (pv 1) pa_nil)) pa_nil))) (fun _ _ => rfl))), ?_⟩
    refine ⟨_, rfl, _, rfl, _, rfl, z, rfl, hz, B, _, rfl, hB, by omega, ?_, fun r H' r0 r1 sb hB' => ?_⟩
    · exact Int.le_trans (by omega : (z.length : Int) ≤ 100) (by decide +kernel)
    · have hlt : r.toNat < z.cps.toList.length := by
        have e : z.cps.toList.length = z.length := by simp [Str.length]
        omega
      refine ⟨z, r, _, rfl, rfl, hz, ?_, k (z.cps.toList[r.toNat]'hlt) H' (List.getElem_mem hlt) sb hB'⟩
      exact at_nn r0 (by simp [hlt])
theorem ok_pickL {f : Addr} {fd fdT : FuncData} (F : Fun K "_law_pick" "_law_pick" sPick f fd) (T : TxtA mg fT) (FT : Fun K "_law_throw" "_law_throw" sThrow fT fdT) (bT : Binds K fdT ["bag", "total"] []) :
    FnOk P w K mg base CX0 2 f fd ["bag", "items"] spPickL := by
  have G : FnOk P w K mg base CX0 1 fT fdT ["bag", "total"] spThrow := ok_throw FT T
  refine F.ok scPick (fun vs H Q E h => ?_) (fun cdv A outer s H vs Q E hr h => ?_)
  · obtain ⟨B, L, ys, rfl, _⟩ := h
    rfl
  · obtain ⟨B, L, ys, rfl, hB, nBL, hL, h0, h1, k⟩ := h
    refine ⟨_, pss_one (ps_ret (pe_ix ix_list (pv 1) (pe_call G hr rfl T.thr FT.kp bT .nil pass0 (pa_cons (pv 0) (pa_cons (pe_callB call_len_seq (by rfl) T.len PySem.boot_len (pa_cons (pv 1) pa_nil)) pa_nil))) (fun _ _ => rfl))), ?_⟩
    refine ⟨_, rfl, _, rfl, _, rfl, L, _, rfl, .inl (SqL.of hL), B, _, rfl, hB, by omega, ?_, fun r H' r0 r1 sb hB' => ?_⟩
    · exact Int.le_trans (by omega : (ys.length : Int) ≤ 100) (by decide +kernel)
    · have hlt : r.toNat < ys.length := by omega
      refine ⟨L, _, r, _, rfl, rfl, SqL.of (sb _ _ nBL.symm hL), ?_, k (ys[r.toNat]'hlt) H' (List.getElem_mem _) sb hB'⟩
      exact at_nn r0 (by simp [hlt])
def spPickT (K : PySem.W.Frag) : Sp := fun vs H Q _ => ∃ (B L : Addr) (ys : List V), vs = [.ref B, .ref L] ∧ BagAt H B ∧ (∀ H', SB B H H' → SqT K H' L ys) ∧ 0 < ys.length ∧ ys.length ≤ 100 ∧
  ∀ y H', y ∈ ys → SB B H H' → BagAt H' B → Q y H'
theorem ok_pickT {f : Addr} {fd fdT : FuncData} (F : Fun K "_law_pick" "_law_pick" sPick f fd) (T : TxtA mg fT) (FT : Fun K "_law_throw" "_law_throw" sThrow fT fdT) (bT : Binds K fdT ["bag", "total"] []) :
    FnOk P w K mg base CX0 2 f fd ["bag", "items"] (spPickT K) := by
  have G : FnOk P w K mg base CX0 1 fT fdT ["bag", "total"] spThrow := ok_throw FT T
  refine F.ok scPick (fun vs H Q E h => ?_) (fun cdv A outer s H vs Q E hr h => ?_)
  · obtain ⟨B, L, ys, rfl, _⟩ := h
    rfl
  · obtain ⟨B, L, ys, rfl, hB, hL, h0, h1, k⟩ := h
    refine ⟨_, pss_one (ps_ret (pe_ix (r := rIxT K) ix_tup (pv 1) (pe_call G hr rfl T.thr FT.kp bT .nil pass0 (pa_cons (pv 0) (pa_cons (pe_callB call_len_seq (by rfl) T.len PySem.boot_len (pa_cons (pv 1) pa_nil)) pa_nil))) (fun _ _ => rfl))), ?_⟩
    refine ⟨_, rfl, _, rfl, _, rfl, L, _, rfl, .inr (hL H (SB.refl _ _)), B, _, rfl, hB, by omega, ?_, fun r H' r0 r1 sb hB' => ?_⟩
    · exact Int.le_trans (by omega : (ys.length : Int) ≤ 100) (by decide +kernel)
    · have hlt : r.toNat < ys.length := by omega
      refine ⟨L, _, r, _, rfl, rfl, hL H' sb, ?_, k (ys[r.toNat]'hlt) H' (List.getElem_mem _) sb hB'⟩
      exact at_nn r0 (by simp [hlt])
theorem scValue : FnScope ["bag", "way"] ["bag"] (defScope sValue) := ⟨rfl, rfl, rfl, by decide +kernel, rfl, by decide +kernel, by decide +kernel⟩
theorem ok_value {f : Addr} {fd fdT : FuncData} (F : Fun K "_law_value" "_law_value" sValue f fd) (T : TxtA mg fT) (FT : Fun K "_law_throw" "_law_throw" sThrow fT fdT) (bT : Binds K fdT ["bag", "total"] []) :
    FnOk P w K mg base CX0 2 f fd ["bag"] spValue := by
  have G : FnOk P w K mg base CX0 1 fT fdT ["bag", "total"] spThrow := ok_throw FT T
  refine F.ok scValue (fun vs H Q E h => ?_) (fun cdv A outer s H vs Q E hr h => ?_)
  · obtain ⟨B, rfl, _⟩ := h
    rfl
  · obtain ⟨B, rfl, hB, k⟩ := h
    refine ⟨_, pss_cons (ps_set (i := 1) scValue.nd rfl (Or.inl rfl) (pe_call G hr rfl T.thr FT.kp bT .nil pass0 (pa_cons (pv 0) (pa_cons pe_int pa_nil))))
      (pss_cons (ps_if (pt_cmpR op_lt (pv 1) pe_int (nomark _)) (pss_one (ps_ret (pe_call G hr rfl T.thr FT.kp bT .nil pass0 (pa_cons (pv 0) (pa_cons pe_int pa_nil))))) pss_nil)
      (pss_cons (ps_if (pt_cmpR op_eq (pv 1) pe_int (nomark _)) (pss_one (ps_ret (pe_op op_sub (pe_un un_neg pe_int) (pe_call G hr rfl T.thr FT.kp bT .nil pass0 (pa_cons (pv 0) (pa_cons pe_int pa_nil)))))) pss_nil)
      (pss_one (ps_ret (pe_op op_mul (pe_call G hr rfl T.thr FT.kp bT .nil pass0 (pa_cons (pv 0) (pa_cons (pe_op op_pow pe_int pe_int) pa_nil))) (pe_op op_sub pe_int (pe_op op_mul pe_int (pv 1)))))))), ?_⟩
    have t6 := t60
    refine ⟨_, rfl, B, _, rfl, hB, by decide, by decide +kernel, fun r H1 r0 r1 s1 b1 => ?_⟩
    refine ⟨_, rfl, _, _, rfl, rfl, _, rfl, ?_⟩
    refine ite2 (fun _ => ?_) (fun c1 => ?_)
    · exact ⟨_, rfl, B, _, rfl, b1, by decide, by decide +kernel, fun q H2 q0 q1 s2 b2 => k _ _ (by omega) (by omega) (s1.trans s2) b2⟩
    · have c1' : ¬ r < 5 := fun h => c1 (decide_eq_true h)
      refine ⟨_, rfl, rfl, _, rfl, ?_⟩
      refine ite2 (fun _ => ?_) (fun c2 => ?_)
      · exact ⟨_, rfl, _, rfl, B, _, rfl, b1, by decide, by decide +kernel, fun q H2 q0 q1 s2 b2 => ⟨_, _, rfl, rfl, k _ _ (by omega) (by omega) (s1.trans s2) b2⟩⟩
      · have c2' : r ≠ 5 := fun h => c2 (decide_eq_true (by rw [h]))
        refine ⟨_, rfl, _, _, rfl, rfl, ⟨by decide, by decide, by decide⟩, B, _, rfl, b1, by decide +kernel, by decide +kernel, fun q H2 q0 q1 s2 b2 => ?_⟩
        have q1' : q < ten60 := q1
        have r67 : 13 - 2 * r = 1 ∨ 13 - 2 * r = -1 := by omega
        refine ⟨_, rfl, _, _, rfl, rfl, .inl ⟨by decide, by decide⟩, _, _, rfl, rfl, _, _, rfl, rfl, .inr ⟨by omega, by omega⟩, k _ _ ?_ ?_ (s1.trans s2) b2⟩ <;>
        · show _ < _
          rcases r67 with e | e <;> rw [e] <;> omega
end
end Wd

set_option Elab.async false
set_option linter.all false
set_option maxRecDepth 100000
set_option maxHeartbeats 4000000
namespace Wd
open PySem L2 PyProof.Rows
/-- list(text) -/
theorem call_listS {X : Cx} (hc : X.calm = true) : CallR X (.type "list") (fun xs H Q => ∃ z : Str, xs = [.str z] ∧ z.length ≤ sizeLine ∧ ∀ l, H l = none → Q (.ref l) (upd H l (.lst (letV z.cps.toList)))) := by
  intro pins s σ H vs us Q I r h
  obtain ⟨z, rfl, hz, q⟩ := h
  cases r with
  | @cons _ u _ ur ru rr =>
    cases rr
    obtain ⟨t, rfl⟩ := ru
    have hn : H s.heap.objs.size = none := I.hok.fresh (Nat.le_refl _)
    refine call_list_str (prog := X.prog) (w := X.w) (I.ok.hd hc) z t (fun h' tk acc c kp at_ items => ?_) hz
    have ss : Vals (letV z.cps.toList) acc.toList := by
      rw [letV_sgn]
      refine vals_of_strs (strs_at (by simp [items.1]) fun j v e => ?_)
      obtain ⟨a, u, e1, e2⟩ := items.2 j v (by rw [← Array.getElem?_toList]; exact e)
      exact ⟨sgn a, u, by rw [List.getElem?_map, Array.getElem?_toList, e1]; rfl, e2⟩
    have len : (letV z.cps.toList).length ≤ sizeLine := by
      rw [letV, List.length_map, Array.length_toList]
      exact hz
    exact ⟨.ref s.heap.objs.size, upd H s.heap.objs.size (.lst (letV z.cps.toList)), I.laid (t' := tk) kp (Nat.le_refl _) (show ObjOk X.prog X.w _ _ _ (.lst (letV z.cps.toList)) from ⟨len, acc.toList, c, ss, at_⟩), rfl, q _ hn⟩
end Wd

set_option Elab.async false
set_option linter.all false
set_option maxRecDepth 100000
set_option maxHeartbeats 4000000
namespace Wd
open PySem L2
def spLetter : Sp := fun vs H Q _ => ∃ B : Addr, vs = [.ref B] ∧ BagAt H B ∧ ∀ c H', low c → SB B H H' → BagAt H' B → Q (.str (sgn c)) H'
def spLetters : Sp := fun vs H Q _ => ∃ (B : Addr) (most : Int), vs = [.ref B, .int most] ∧ BagAt H B ∧ 1 ≤ most ∧ most ≤ 5 ∧
  ∀ (t : Addr) (ds : List Nat) H', 1 ≤ ds.length → ds.length ≤ 26 → (∀ c ∈ ds, low c) → t ≠ B → H' t = some (.tup (letV ds)) → SB B H H' → BagAt H' B → Q (.ref t) H'
structure GTxt (mg : Str → Option Value) (fT fP : Addr) : Prop extends TxtA mg fT where
  pick : mg "_law_pick" = some (.ref fP)
  range : mg "range" = none
  sorted : mg "sorted" = none
  list : mg "list" = none
  tuple : mg "tuple" = none
theorem pe_popAt {X : Cx} {K : PySem.W.Frag} {o e : Expr} {es : List Expr} {to : TE} {t : TA} {apos cpos : Pos} (hK : X.K = K) (ho : PE X o to) (ha : PA X (e :: es) t)
    (hbase : attributeBase o "pop" X.env (eval o X.env) = eval o X.env := by rfl)
    (hfew : ((backTo cpos (starEach (e :: es) X.env)).all (fun x => !x.1) && (backToKw cpos (keywordEach [] X.env)).all (fun x => x.1.isSome) && decide ((e :: es).length + ([] : List Keyword).length + (if ([] : List Keyword).isEmpty then 0 else 1) < 30)) = true := by rfl)
    (hline : (apos.endLine == cpos.line) = true := by rfl) (he : starEach (e :: es) X.env = (false, eval e X.env) :: starEach es X.env := by rfl)
    (hpl : (backTo cpos (starEach es X.env)).any (·.1) = false := by rfl) : PE X (.Call (.Attribute o "pop" apos) (e :: es) [] cpos) (tBM K "list" rPopAt to t) := by
  subst hK
  exact pe_bm PySem.F.plainAttrs_list PySem.F.slot_list_pop PySem.F.type_list_pop mt_popAt ho ha hbase hfew hline he hpl
def rLenQ (K : PySem.W.Frag) : List V → Hp → VK → Prop := fun xs H Q => ∃ p ys, xs = [.ref p] ∧ (SqL K H p ys ∨ SqT K H p ys) ∧ Q (.int ys.length) H
theorem call_lenQ {X : Cx} : CallR X (.builtin "len") (rLenQ X.K) := call_len_seq
theorem letV_erase : ∀ (cs : List Nat) (k : Nat), (letV cs).eraseIdx k = letV (cs.eraseIdx k)
  | [], _ => rfl
  | _ :: _, 0 => rfl
  | c :: r, k + 1 => congrArg (V.str ⟨#[c]⟩ :: ·) (letV_erase r k)
theorem ab_low : ∀ c ∈ (Str.ofString "ab").cps.toList, low c := by unfold low; decide +kernel
theorem abc_low : ∀ c ∈ (Str.ofString "abc").cps.toList, low c := by unfold low; decide +kernel
theorem st_low : ∀ c ∈ (Str.ofString "st").cps.toList, low c := by unfold low; decide +kernel
theorem abcd_low : ∀ c ∈ (Str.ofString "abcd").cps.toList, low c := by unfold low; decide +kernel
theorem alpha_low : ∀ c ∈ (Str.ofString "abcdefghijklmnopqrstuvwxyz").cps.toList, low c := fun c h => (alpha_mem c).mp h
section
variable {P : Program} {w : World} {K : PySem.W.Frag} {mg : Str → Option Value} {base : Heap} {fT fP : Addr}
abbrev nLetters : List Str := ["bag", "most", "signs", "size", "turn"]
theorem scLetters : FnScope nLetters ["bag", "most"] (defScope sLetters) := ⟨rfl, rfl, rfl, by decide +kernel, rfl, by decide +kernel, by decide +kernel⟩
theorem ok_letters {f : Addr} {fd fdT : FuncData} (F : Fun K "_law_letters" "_law_letters" sLetters f fd) (X : GTxt mg fT fP) (FT : Fun K "_law_throw" "_law_throw" sThrow fT fdT) (bT : Binds K fdT ["bag", "total"] []) :
    FnOk P w K mg base CX0 2 f fd ["bag", "most"] spLetters := by
  have GT : FnOk P w K mg base CX0 1 fT fdT ["bag", "total"] spThrow := ok_throw FT X.toTxtA
  refine F.ok scLetters (fun vs H Q E h => ?_) (fun cdv A outer s H vs Q E hr h => ?_)
  · obtain ⟨B, most, rfl, _⟩ := h
    rfl
  · obtain ⟨B, most, rfl, hB, m1, m5, k⟩ := h
    refine ⟨_, pss_cons (ps_set (i := 2) scLetters.nd rfl (Or.inr rfl) (pe_callTy (call_listS rfl) (by rfl) X.list (by decide +kernel) (pa_cons pe_str pa_nil)))
      (pss_cons (ps_if (PW.pt (pw_and (pt_cmpR op_le (pv 1) pe_int (nomark _)) (pw_and1 (pt_cmpR op_gt (pe_call GT hr rfl X.thr FT.kp bT .nil pass0 (pa_cons (pv 0) (pa_cons pe_int pa_nil))) pe_int (nomark _)))))
        (pss_one (ps_set (i := 2) scLetters.nd rfl (Or.inr rfl) (pe_callTy (call_listS rfl) (by rfl) X.list (by decide +kernel) (pa_cons pe_str pa_nil)))) pss_nil)
      (pss_cons (ps_set (i := 3) scLetters.nd rfl (Or.inl rfl) (pe_op op_add pe_int (pe_call GT hr rfl X.thr FT.kp bT .nil pass0 (pa_cons (pv 0) (pa_cons (pv 1) pa_nil)))))
      (pss_one (ps_ret (pe_callTy call_tuple_of (by rfl) X.tuple (by decide +kernel) (pa_cons (pe_callB cr_sortedS (by rfl) X.sorted (by decide +kernel) (pa_cons (pe_lc (own := [("turn", 4)]) (g := gName 4) (tt := tYes) rfl scLetters.nd
          (pi_range1 rfl X.range (pa_cons (pv 3) pa_nil)) (blkOk_by (N := nLetters) (sc := defScope sLetters) (by decide +kernel)) (fun _ _ _ _ _ => pg_name (i := 4) scLetters.nd rfl (Or.inl rfl)) (fun _ _ _ _ _ => pts_nil)
          (fun _ _ _ _ _ => pe_popAt (K := K) rfl (pv 2)
            (pa_cons (pe_call GT hr rfl X.thr FT.kp bT .nil pass0 (pa_cons (pv 0) (pa_cons (pe_callB (r := rLenQ K) call_lenQ (by rfl) X.len PySem.boot_len (pa_cons (pv 2) pa_nil)) pa_nil))) pa_nil))) pa_nil)) pa_nil)))))), ?_⟩
    refine ⟨_, rfl, by decide, fun L0 hL0 => ?_⟩
    have c26 : (Str.ofString "abcdefghijklmnopqrstuvwxyz").cps.toList.length = 26 := by decide +kernel
    have c4 : (Str.ofString "abcd").cps.toList.length = 4 := by decide +kernel
    have b0 := hB.new (o := .lst (letV (Str.ofString "abcdefghijklmnopqrstuvwxyz").cps.toList)) hL0
    have sb0 := (SB.refl B H).new (o := .lst (letV (Str.ofString "abcdefghijklmnopqrstuvwxyz").cps.toList)) hL0
    have e0 : (upd H L0 (.lst (letV (Str.ofString "abcdefghijklmnopqrstuvwxyz").cps.toList))) L0 = some (.lst (letV (Str.ofString "abcdefghijklmnopqrstuvwxyz").cps.toList)) := upd_same
    have n0 : L0 ≠ B := hB.ne hL0
    generalize upd H L0 (.lst (letV (Str.ofString "abcdefghijklmnopqrstuvwxyz").cps.toList)) = H0 at b0 sb0 e0
    refine ⟨_, rfl, _, _, rfl, rfl, _, rfl, ?_⟩
    refine ite2 (fun g => ?_) (fun g => ?_)
    · have g' : most ≤ 4 := of_decide_eq_true g
      refine ⟨_, rfl, B, 3, rfl, b0, by decide, by decide +kernel, fun r H1 _ _ s1 b1 => ⟨_, _, rfl, rfl, _, rfl, ?_⟩⟩
      refine ite2 (fun _ => ?_) (fun _ => ?_)
      · refine ⟨_, rfl, by decide, fun L hL => ?_⟩
        have sb1 := (sb0.trans s1).new (o := .lst (letV (Str.ofString "abcd").cps.toList)) hL
        have hLn : H L = none := by
          cases e : H L with
          | none => rfl
          | some o => exact absurd ((sb0.trans s1) _ _ (b1.ne hL) e) (by rw [hL]; exact fun q => nomatch q)
        have hL1 : (upd H1 L (.lst (letV (Str.ofString "abcd").cps.toList))) L = some (.lst (letV (Str.ofString "abcd").cps.toList)) := upd_same
        have nLB : L ≠ B := b1.ne hL
        have b1 := b1.new (o := .lst (letV (Str.ofString "abcd").cps.toList)) hL
        have hlow := abcd_low
        have hc : most ≤ (Str.ofString "abcd").cps.toList.length := by omega
        have hc6 : (Str.ofString "abcd").cps.toList.length ≤ 26 := by omega
        generalize (Str.ofString "abcd").cps.toList = cs at sb1 hL1 b1 hlow hc hc6
        generalize upd H1 L (.lst (letV cs)) = H1 at sb1 hL1 b1
        refine ⟨_, rfl, _, rfl, B, most, rfl, b1, by omega, Int.le_trans (by omega : most ≤ 5) (by decide +kernel), fun r H2 r0 r1 s2 b2 => ?_⟩
        refine ⟨_, _, rfl, rfl, _, rfl, _, rfl, by omega, by omega, fun D hD => ?_⟩
        have hL2 : H2 L = some (.lst (letV cs)) := s2 _ _ nLB hL1
        have nLD : L ≠ D := ne_of_none hL2 hD
        have nDB : D ≠ B := b2.ne hD
        have hDn : H D = none := by
          cases e : H D with
          | none => rfl
          | some o => exact absurd ((sb1.trans s2) _ _ nDB e) (by rw [hD]; exact fun q => nomatch q)
        refine lc_range (lo := 0) (n := (1 + r).toNat) (fun i H' => SB B H H' ∧ BagAt H' B ∧ (∃ cs' : List Nat, H' L = some (.lst (letV cs')) ∧ cs'.length + i = cs.length ∧ ∀ c ∈ cs', low c) ∧ ∃ ds : List Nat, ds.length = i ∧ (∀ c ∈ ds, low c) ∧ H' D = some (.lst (letV ds)))
          ⟨(sb1.trans s2).new hD, b2.new hD, ⟨cs, (upd_ne nLD).trans hL2, rfl, hlow⟩, [], rfl, by simp, upd_same⟩ ?_ ?_
        · rintro i H' hi ⟨sb, bg, ⟨cs', hL', lc, low'⟩, ds, ld, lowd, hD'⟩
          have l1 : (letV cs').length = cs'.length := List.length_map _
          refine ⟨rfl, _, rfl, .inl ⟨rfl, _, SqL.of hL'⟩, _, rfl, _, rfl, L, _, rfl, .inl (SqL.of hL'), B, _, rfl, bg, by omega, ?_, fun q H3 q0 q1 s3 b3 => ?_⟩
          · exact Int.le_trans (by omega : ((letV cs').length : Int) ≤ 26) (by decide +kernel)
          · have hq : q.toNat < cs'.length := by omega
            have ix : ixN (letV cs').length q = some q.toNat := by
              unfold ixN
              rw [if_pos q0, if_pos q1]
            have hL3 := s3 _ _ nLB hL'
            have hD3 := s3 _ _ nDB hD'
            refine ⟨L, _, q, q.toNat, .str (sgn cs'[q.toNat]), rfl, rfl, hL3, by omega, by omega, (ixN_seq ix).1, by simp [letV, hq, sgn], _, (upd_ne nLD.symm).trans hD3, ?_, ?_⟩
            · rw [letV, List.length_map, ld]
              exact small1000 (by omega)
            · have er := letV_erase cs' q.toNat
              refine ⟨((sb.trans s3).own hLn).own hDn, ?_, ⟨cs'.eraseIdx q.toNat, ?_, ?_, fun c hc => low' c (List.mem_of_mem_eraseIdx hc)⟩, ds ++ [cs'[q.toNat]], by simp [ld], fun c hc => ?_, ?_⟩
              · exact (b3.other (Ne.symm nLB)).other (Ne.symm nDB)
              · rw [upd_ne nLD, upd_same, er]
              · rw [List.length_eraseIdx_of_lt hq]
                omega
              · rcases List.mem_append.mp hc with z | z
                · exact lowd c z
                · rw [List.mem_singleton.mp z]
                  exact low' _ (List.getElem_mem hq)
              · rw [upd_same, letV, letV, List.map_append]
                rfl
        · rintro H3 ⟨sb, bg, _, ds, ld, lowd, hD3⟩
          have hD4 : H3 D = some (.lst ((ds.map sgn).map V.str)) := by rw [← letV_sgn]; exact hD3
          have l2 : (ds.map sgn).length = ds.length := List.length_map _
          refine ⟨D, ds.map sgn, rfl, SqL.of hD4, by omega, fun ys p pm srt hp => ⟨p, _, rfl, .inl ⟨SqL.of upd_same, fun t ht => ?_⟩⟩⟩
          obtain ⟨es, rfl⟩ := sgns_of (cs := ds) fun y hy => pm.mem_iff.mp hy
          have l3 : es.length = ds.length := by
            have := pm.length_eq
            rw [List.length_map, List.length_map] at this
            exact this
          refine k t es _ (by omega) (by omega) (fun c hc => ?_) ((bg.new hp).ne ht) (upd_same.trans (by rw [letV_sgn])) ((sb.new hp).new ht) ((bg.new hp).new ht)
          obtain ⟨d, hd, e⟩ := List.mem_map.mp (pm.mem_iff.mp (List.mem_map.mpr ⟨c, hc, rfl⟩))
          exact sgn_inj e ▸ lowd d hd
      · have sb1 := sb0.trans s1
        have nLB := n0
        have hLn := hL0
        have hL1 := s1 _ _ n0 e0
        have hlow := alpha_low
        have hc : most ≤ (Str.ofString "abcdefghijklmnopqrstuvwxyz").cps.toList.length := by omega
        have hc6 : (Str.ofString "abcdefghijklmnopqrstuvwxyz").cps.toList.length ≤ 26 := by omega
        generalize (Str.ofString "abcdefghijklmnopqrstuvwxyz").cps.toList = cs at hL1 hlow hc hc6
        generalize L0 = L at hLn hL1 nLB
        refine ⟨_, rfl, _, rfl, B, most, rfl, b1, by omega, Int.le_trans (by omega : most ≤ 5) (by decide +kernel), fun r H2 r0 r1 s2 b2 => ?_⟩
        refine ⟨_, _, rfl, rfl, _, rfl, _, rfl, by omega, by omega, fun D hD => ?_⟩
        have hL2 : H2 L = some (.lst (letV cs)) := s2 _ _ nLB hL1
        have nLD : L ≠ D := ne_of_none hL2 hD
        have nDB : D ≠ B := b2.ne hD
        have hDn : H D = none := by
          cases e : H D with
          | none => rfl
          | some o => exact absurd ((sb1.trans s2) _ _ nDB e) (by rw [hD]; exact fun q => nomatch q)
        refine lc_range (lo := 0) (n := (1 + r).toNat) (fun i H' => SB B H H' ∧ BagAt H' B ∧ (∃ cs' : List Nat, H' L = some (.lst (letV cs')) ∧ cs'.length + i = cs.length ∧ ∀ c ∈ cs', low c) ∧ ∃ ds : List Nat, ds.length = i ∧ (∀ c ∈ ds, low c) ∧ H' D = some (.lst (letV ds)))
          ⟨(sb1.trans s2).new hD, b2.new hD, ⟨cs, (upd_ne nLD).trans hL2, rfl, hlow⟩, [], rfl, by simp, upd_same⟩ ?_ ?_
        · rintro i H' hi ⟨sb, bg, ⟨cs', hL', lc, low'⟩, ds, ld, lowd, hD'⟩
          have l1 : (letV cs').length = cs'.length := List.length_map _
          refine ⟨rfl, _, rfl, .inl ⟨rfl, _, SqL.of hL'⟩, _, rfl, _, rfl, L, _, rfl, .inl (SqL.of hL'), B, _, rfl, bg, by omega, ?_, fun q H3 q0 q1 s3 b3 => ?_⟩
          · exact Int.le_trans (by omega : ((letV cs').length : Int) ≤ 26) (by decide +kernel)
          · have hq : q.toNat < cs'.length := by omega
            have ix : ixN (letV cs').length q = some q.toNat := by
              unfold ixN
              rw [if_pos q0, if_pos q1]
            have hL3 := s3 _ _ nLB hL'
            have hD3 := s3 _ _ nDB hD'
            refine ⟨L, _, q, q.toNat, .str (sgn cs'[q.toNat]), rfl, rfl, hL3, by omega, by omega, (ixN_seq ix).1, by simp [letV, hq, sgn], _, (upd_ne nLD.symm).trans hD3, ?_, ?_⟩
            · rw [letV, List.length_map, ld]
              exact small1000 (by omega)
            · have er := letV_erase cs' q.toNat
              refine ⟨((sb.trans s3).own hLn).own hDn, ?_, ⟨cs'.eraseIdx q.toNat, ?_, ?_, fun c hc => low' c (List.mem_of_mem_eraseIdx hc)⟩, ds ++ [cs'[q.toNat]], by simp [ld], fun c hc => ?_, ?_⟩
              · exact (b3.other (Ne.symm nLB)).other (Ne.symm nDB)
              · rw [upd_ne nLD, upd_same, er]
              · rw [List.length_eraseIdx_of_lt hq]
                omega
              · rcases List.mem_append.mp hc with z | z
                · exact lowd c z
                · rw [List.mem_singleton.mp z]
                  exact low' _ (List.getElem_mem hq)
              · rw [upd_same, letV, letV, List.map_append]
                rfl
        · rintro H3 ⟨sb, bg, _, ds, ld, lowd, hD3⟩
          have hD4 : H3 D = some (.lst ((ds.map sgn).map V.str)) := by rw [← letV_sgn]; exact hD3
          have l2 : (ds.map sgn).length = ds.length := List.length_map _
          refine ⟨D, ds.map sgn, rfl, SqL.of hD4, by omega, fun ys p pm srt hp => ⟨p, _, rfl, .inl ⟨SqL.of upd_same, fun t ht => ?_⟩⟩⟩
          obtain ⟨es, rfl⟩ := sgns_of (cs := ds) fun y hy => pm.mem_iff.mp hy
          have l3 : es.length = ds.length := by
            have := pm.length_eq
            rw [List.length_map, List.length_map] at this
            exact this
          refine k t es _ (by omega) (by omega) (fun c hc => ?_) ((bg.new hp).ne ht) (upd_same.trans (by rw [letV_sgn])) ((sb.new hp).new ht) ((bg.new hp).new ht)
          obtain ⟨d, hd, e⟩ := List.mem_map.mp (pm.mem_iff.mp (List.mem_map.mpr ⟨c, hc, rfl⟩))
          exact sgn_inj e ▸ lowd d hd
    · have sb1 := sb0
      have nLB := n0
      have hLn := hL0
      have hL1 := e0
      have hlow := alpha_low
      have b1 := b0
      have hc : most ≤ (Str.ofString "abcdefghijklmnopqrstuvwxyz").cps.toList.length := by omega
      have hc6 : (Str.ofString "abcdefghijklmnopqrstuvwxyz").cps.toList.length ≤ 26 := by omega
      generalize (Str.ofString "abcdefghijklmnopqrstuvwxyz").cps.toList = cs at hL1 hlow hc hc6
      generalize L0 = L at hLn hL1 nLB
      refine ⟨_, rfl, _, rfl, B, most, rfl, b1, by omega, Int.le_trans (by omega : most ≤ 5) (by decide +kernel), fun r H2 r0 r1 s2 b2 => ?_⟩
      refine ⟨_, _, rfl, rfl, _, rfl, _, rfl, by omega, by omega, fun D hD => ?_⟩
      have hL2 : H2 L = some (.lst (letV cs)) := s2 _ _ nLB hL1
      have nLD : L ≠ D := ne_of_none hL2 hD
      have nDB : D ≠ B := b2.ne hD
      have hDn : H D = none := by
        cases e : H D with
        | none => rfl
        | some o => exact absurd ((sb1.trans s2) _ _ nDB e) (by rw [hD]; exact fun q => nomatch q)
      refine lc_range (lo := 0) (n := (1 + r).toNat) (fun i H' => SB B H H' ∧ BagAt H' B ∧ (∃ cs' : List Nat, H' L = some (.lst (letV cs')) ∧ cs'.length + i = cs.length ∧ ∀ c ∈ cs', low c) ∧ ∃ ds : List Nat, ds.length = i ∧ (∀ c ∈ ds, low c) ∧ H' D = some (.lst (letV ds)))
        ⟨(sb1.trans s2).new hD, b2.new hD, ⟨cs, (upd_ne nLD).trans hL2, rfl, hlow⟩, [], rfl, by simp, upd_same⟩ ?_ ?_
      · rintro i H' hi ⟨sb, bg, ⟨cs', hL', lc, low'⟩, ds, ld, lowd, hD'⟩
        have l1 : (letV cs').length = cs'.length := List.length_map _
        refine ⟨rfl, _, rfl, .inl ⟨rfl, _, SqL.of hL'⟩, _, rfl, _, rfl, L, _, rfl, .inl (SqL.of hL'), B, _, rfl, bg, by omega, ?_, fun q H3 q0 q1 s3 b3 => ?_⟩
        · exact Int.le_trans (by omega : ((letV cs').length : Int) ≤ 26) (by decide +kernel)
        · have hq : q.toNat < cs'.length := by omega
          have ix : ixN (letV cs').length q = some q.toNat := by
            unfold ixN
            rw [if_pos q0, if_pos q1]
          have hL3 := s3 _ _ nLB hL'
          have hD3 := s3 _ _ nDB hD'
          refine ⟨L, _, q, q.toNat, .str (sgn cs'[q.toNat]), rfl, rfl, hL3, by omega, by omega, (ixN_seq ix).1, by simp [letV, hq, sgn], _, (upd_ne nLD.symm).trans hD3, ?_, ?_⟩
          · rw [letV, List.length_map, ld]
            exact small1000 (by omega)
          · have er := letV_erase cs' q.toNat
            refine ⟨((sb.trans s3).own hLn).own hDn, ?_, ⟨cs'.eraseIdx q.toNat, ?_, ?_, fun c hc => low' c (List.mem_of_mem_eraseIdx hc)⟩, ds ++ [cs'[q.toNat]], by simp [ld], fun c hc => ?_, ?_⟩
            · exact (b3.other (Ne.symm nLB)).other (Ne.symm nDB)
            · rw [upd_ne nLD, upd_same, er]
            · rw [List.length_eraseIdx_of_lt hq]
              omega
            · rcases List.mem_append.mp hc with z | z
              · exact lowd c z
              · rw [List.mem_singleton.mp z]
                exact low' _ (List.getElem_mem hq)
            · rw [upd_same, letV, letV, List.map_append]
              rfl
      · rintro H3 ⟨sb, bg, _, ds, ld, lowd, hD3⟩
        have hD4 : H3 D = some (.lst ((ds.map sgn).map V.str)) := by rw [← letV_sgn]; exact hD3
        have l2 : (ds.map sgn).length = ds.length := List.length_map _
        refine ⟨D, ds.map sgn, rfl, SqL.of hD4, by omega, fun ys p pm srt hp => ⟨p, _, rfl, .inl ⟨SqL.of upd_same, fun t ht => ?_⟩⟩⟩
        obtain ⟨es, rfl⟩ := sgns_of (cs := ds) fun y hy => pm.mem_iff.mp hy
        have l3 : es.length = ds.length := by
          have := pm.length_eq
          rw [List.length_map, List.length_map] at this
          exact this
        refine k t es _ (by omega) (by omega) (fun c hc => ?_) ((bg.new hp).ne ht) (upd_same.trans (by rw [letV_sgn])) ((sb.new hp).new ht) ((bg.new hp).new ht)
        obtain ⟨d, hd, e⟩ := List.mem_map.mp (pm.mem_iff.mp (List.mem_map.mpr ⟨c, hc, rfl⟩))
        exact sgn_inj e ▸ lowd d hd
end
end Wd

set_option Elab.async false
set_option linter.all false
set_option maxRecDepth 100000
set_option maxHeartbeats 4000000
namespace Wd
open PySem L2
/-- a short text of letters -/
def LowT (z : Str) : Prop := (1 ≤ z.length ∧ z.length ≤ 8) ∧ ∀ c ∈ z.cps.toList, low c
theorem LowT.ok {z : Str} (h : LowT z) : PyData.strOk z = true := by
  unfold PyData.strOk
  rw [Array.all_eq_true']
  intro c hc
  have := h.2 c (by simpa using hc)
  unfold low at this
  simp
  omega
theorem cps_append (a b : Str) : (a ++ b).cps.toList = a.cps.toList ++ b.cps.toList := by
  show (a.cps ++ b.cps).toList = _
  simp
theorem join_sgn : ∀ ds : List Nat, (Txt.join (Str.ofString "") (ds.map sgn)).cps.toList = ds := by
  intro ds
  rw [show Txt.join (Str.ofString "") (ds.map sgn) = Str.join (Str.ofString "") (ds.map sgn) from StrLaws.glued_eq_join _ _]
  induction ds with
  | nil => rfl
  | cons a r ih =>
    cases r with
    | nil => rfl
    | cons b r =>
      show (sgn a ++ Str.ofString "" ++ Str.join (Str.ofString "") ((b :: r).map sgn)).cps.toList = _
      rw [cps_append, cps_append, ih]
      rfl
theorem len_cps (z : Str) : z.length = z.cps.toList.length := (Array.length_toList (xs := z.cps)).symm
theorem cutS_mem {z : Str} {lo hi : Option Int} {c : Nat} (h : c ∈ (cutS z lo hi).cps.toList) : c ∈ z.cps.toList := by
  have h' : c ∈ (z.cps.toList.drop (HT.sIx z.length 0 lo)).take (HT.sIx z.length z.length hi - HT.sIx z.length 0 lo) := by
    simpa [cutS] using h
  exact List.mem_of_mem_drop (List.mem_of_mem_take h')
theorem LowT.cut {z : Str} (h : ∀ c ∈ z.cps.toList, low c) {c : Nat} (hc : low c) : LowT (cutS z none (some 7) ++ sgn c) := by
  refine ⟨?_, fun d hd => ?_⟩
  · rw [len_cps, cps_append, List.length_append]
    have : (cutS z none (some 7)).cps.toList.length ≤ 7 := by
      have e : (cutS z none (some 7)).cps.toList = (z.cps.toList.drop (HT.sIx z.length 0 none)).take (HT.sIx z.length z.length (some 7) - HT.sIx z.length 0 none) := by simp [cutS]
      rw [e, List.length_take]
      have : HT.sIx z.length z.length (some 7) ≤ 7 := by
        show (HT.sIx z.length z.length (some 7)) ≤ 7
        unfold HT.sIx
        simp
        omega
      omega
    show 1 ≤ _ + 1 ∧ _ + 1 ≤ 8
    omega
  · rw [cps_append] at hd
    rcases List.mem_append.mp hd with q | q
    · exact h d (cutS_mem q)
    · have e : d = c := by simpa [sgn] using q
      exact e ▸ hc
theorem zzz_name : NameS (Str.ofString "zzz") := by
  refine ⟨by decide, by decide, ?_, by decide +kernel⟩
  unfold low
  decide +kernel
theorem sum_ones : ∀ {ys : List Str}, (∀ y ∈ ys, y.length = 1) → (ys.map (·.length)).sum = ys.length
  | [], _ => rfl
  | a :: r, h => by
    rw [List.map_cons, List.sum_cons, List.length_cons, sum_ones (fun y hy => h y (List.mem_cons_of_mem _ hy)), h a (List.mem_cons_self ..)]
    omega
theorem bag_nl {B L : Addr} {H : Hp} {ys : List Str} (b : BagAt H B) (h : H L = some (.lst (ys.map V.str))) : B ≠ L := by
  obtain ⟨x, y, z, hb⟩ := b
  intro e
  rw [← e, hb] at h
  cases ys with
  | nil => cases h
  | cons a r => cases h
def spName : Sp := fun vs H Q _ => ∃ (B L : Addr) (ks : List Str), vs = [.ref B, .ref L] ∧ BagAt H B ∧ H L = some (.lst (ks.map V.str)) ∧ ∀ z H', NameS z → SB B H H' → BagAt H' B → Q (.str z) H'
section
variable {P : Program} {w : World} {K : PySem.W.Frag} {mg : Str → Option Value} {base : Heap} {fT fP fW : Addr}
abbrev nName : List Str := ["bag", "known", "alphabet", "signs", "text", "name", "turn", "sign"]
theorem scName : FnScope nName ["bag", "known"] (defScope sName) := ⟨rfl, rfl, rfl, by decide +kernel, rfl, by decide +kernel, by decide +kernel⟩
theorem ok_name {f : Addr} {fd fdT fdP fdW : FuncData} (F : Fun K "_law_name" "_law_name" sName f fd) (T : GTxt mg fT fP) (wrds : mg "_law_words" = some (.ref fW)) (FT : Fun K "_law_throw" "_law_throw" sThrow fT fdT) (bT : Binds K fdT ["bag", "total"] [])
    (FP : Fun K "_law_pick" "_law_pick" sPick fP fdP) (bP : Binds K fdP ["bag", "items"] []) (FW : Fun K "_law_words" "_law_words" sWords fW fdW) (bW : Binds K fdW [] []) :
    FnOk P w K mg base CX0 3 f fd ["bag", "known"] spName := by
  have GT : FnOk P w K mg base CX0 1 fT fdT ["bag", "total"] spThrow := ok_throw FT T.toTxtA
  have GS : FnOk P w K mg base CX0 2 fP fdP ["bag", "items"] spPickS := ok_pickS FP T.toTxtA FT bT
  have GL : FnOk P w K mg base CX0 2 fP fdP ["bag", "items"] spPickL := ok_pickL FP T.toTxtA FT bT
  have GW : FnOk P w K mg base CX0 1 fW fdW [] spWords := ok_words FW
  refine F.ok scName (fun vs H Q E h => ?_) (fun cdv A outer s H vs Q E hr h => ?_)
  · obtain ⟨B, L, ks, rfl, _⟩ := h
    rfl
  · obtain ⟨B, L, ks, rfl, hB, hL, k⟩ := h
    have hr1 : Room 1 _ := hr.mono (by decide)
    refine ⟨_, pss_cons (ps_set (i := 2) scName.nd rfl (Or.inl rfl) pe_str)
      (pss_cons (ps_set (i := 3) scName.nd rfl (Or.inr rfl) (pe_call GL hr rfl T.pick FP.kp bP .nil pass0 (pa_cons (pv 0) (pa_cons (pe_lst (pa_cons (pv 2) (pa_cons pe_str (pa_cons pe_str pa_nil)))) pa_nil))))
      (pss_cons (ps_set (i := 4) scName.nd rfl (Or.inr rfl) (pe_join pe_str (pe_lc (own := [("turn", 6)]) (g := gName 6) (tt := tYes) rfl scName.nd
          (pi_range1 rfl T.range (pa_cons (pe_op op_add pe_int (pe_call GT hr1 rfl T.thr FT.kp bT .nil pass0 (pa_cons (pv 0) (pa_cons pe_int pa_nil)))) pa_nil))
          (blkOk_by (N := nName) (sc := defScope sName) (by decide +kernel)) (fun _ _ _ _ _ => pg_name (i := 6) scName.nd rfl (Or.inl rfl)) (fun _ _ _ _ _ => pts_nil)
          (fun _ _ _ _ _ => pe_call GS hr rfl T.pick FP.kp bP .nil pass0 (pa_cons (pv 0) (pa_cons (pv 3) pa_nil))))))
      (pss_cons (ps_for PassesOwn.never rfl (pi_list (pe_op op_cat (pe_lst (pa_cons (pv 4) pa_nil)) (pe_lc (own := [("sign", 7)]) (g := gName 7) (tt := tYes) rfl scName.nd (pi_str (pv 2))
          (blkOk_by (N := nName) (sc := defScope sName) (by decide +kernel)) (fun _ _ _ _ _ => pg_name (i := 7) scName.nd rfl (Or.inl rfl)) (fun _ _ _ _ _ => pts_nil)
          (fun _ _ _ _ _ => pe_op op_add_str (pe_slice sl_str (pv 4) po_none (po_some pe_int)) (pv 7))))) (pg_name (i := 5) scName.nd rfl (Or.inl rfl))
        (pss_one (ps_if (PW.pt (pw_and (pt_cmpR op_notIn_seq (pv 5) (pv 1) (by rfl)) (pw_and1 (pt_cmpR op_notIn_seq (pv 5) (pe_call0 GW hr1 rfl wrds FW.kp bW .nil pass0) (by rfl))))) (pss_one (ps_ret (pv 5))) pss_nil)))
      (pss_one (ps_ret pe_str))))), ?_⟩
    refine ⟨_, rfl, _, rfl, by show 3 ≤ sizeLine; decide, fun l hl => ?_⟩
    refine ⟨B, l, [_, _, _], rfl, hB.new hl, (hB.ne hl).symm, upd_same, by decide, by decide, fun y0 H1 hy s1 b1 => ?_⟩
    obtain ⟨y, rfl, hy1, hy2, hy3⟩ : ∃ y : Str, y0 = .str y ∧ 0 < y.length ∧ y.length ≤ 100 ∧ ∀ c ∈ y.cps.toList, low c := by
      simp only [List.mem_cons, List.not_mem_nil, or_false] at hy
      rcases hy with rfl | rfl | rfl
      · exact ⟨_, rfl, by decide, by decide, alpha_low⟩
      · exact ⟨_, rfl, by decide, by decide, ab_low⟩
      · exact ⟨_, rfl, by decide, by decide, st_low⟩
    have s1' : SB B H H1 := fun b o n e => s1 b o n (by rw [upd_ne (ne_of_none e hl)]; exact e)
    refine ⟨⟨_, rfl⟩, _, rfl, B, _, rfl, b1, by decide, by decide +kernel, fun r H2 r0 r1 s2 b2 => ?_⟩
    refine ⟨_, _, rfl, rfl, _, rfl, by omega, by omega, fun D hD => ?_⟩
    refine lc_range (lo := 0) (n := _) (fun i H' => SB B H2 H' ∧ BagAt H' B ∧ ∃ ds : List Nat, ds.length = i ∧ (∀ c ∈ ds, low c) ∧ H' D = some (.lst ((ds.map sgn).map V.str)))
      ⟨(SB.refl B H2).new hD, b2.new hD, [], rfl, (fun z h => by cases h), upd_same⟩ ?_ ?_
    · rintro i H' hi ⟨sb, bg, ds, el, e1, hD'⟩
      refine ⟨rfl, ?_⟩
      refine ⟨_, rfl, _, rfl, B, y, rfl, bg, hy1, hy2, fun c H3 hc s3 b3 => ?_⟩
      have nDB : D ≠ B := (b2.ne hD)
      refine ⟨_, s3 _ _ nDB hD', ?_, ?_⟩
      · rw [List.length_map, List.length_map, el]
        exact small1000 (by omega)
      · refine ⟨(sb.trans s3).own hD, b3.other nDB.symm, ds ++ [c], by simp [el], fun z hz => ?_, ?_⟩
        · rcases List.mem_append.mp hz with q | q
          · exact e1 z q
          · rw [List.mem_singleton.mp q]
            exact hy3 c hc
        · rw [upd_same, List.map_append, List.map_append] <;> rfl
    · rintro H3 ⟨s3, b3, ds, el, e1, hD3⟩
      have el9 : 1 ≤ ds.length ∧ ds.length ≤ 8 := by omega
      have one : ∀ z ∈ ds.map sgn, z.length = 1 := fun z hz => by
        obtain ⟨c, _, rfl⟩ := List.mem_map.mp hz
        rfl
      have zl : ((ds.map sgn).map (·.length)).sum + (ds.map sgn).length * (Str.ofString "").length ≤ 16777216 := by
        rw [sum_ones one, List.length_map]
        show ds.length + ds.length * 0 ≤ 16777216
        omega
      refine ⟨_, D, ds.map sgn, rfl, rfl, .inl (SqL.of hD3), zl, ?_⟩
      have tx := join_sgn ds
      have tl : (Txt.join (Str.ofString "") (ds.map sgn)).length = ds.length := by
        rw [len_cps, tx]
      have tlow : ∀ c ∈ (Txt.join (Str.ofString "") (ds.map sgn)).cps.toList, low c := by
        rw [tx]
        exact e1
      generalize ht : Txt.join (Str.ofString "") (ds.map sgn) = text at tl tlow
      have tz : text.length ≤ sizeLine := Nat.le_of_lt (small1000 (by omega))
      refine ⟨_, rfl, by show 1 ≤ sizeLine; decide, fun m hm => ?_⟩
      refine ⟨_, rfl, _, rfl, fun D2 hD2 => ?_⟩
      have nm2 : m ≠ D2 := fun e => by
        rw [← e, upd_same] at hD2
        cases hD2
      have hD2' : H3 D2 = none := by
        rw [upd_ne nm2.symm] at hD2
        exact hD2
      refine lc_it walk_str (fun i H' => ∃ zs : List Str, zs.length = i ∧ (∀ z ∈ zs, LowT z) ∧ H' = upd (upd H3 m (.lst [.str text])) D2 (.lst (zs.map V.str))) ⟨[], rfl, (fun z h => by cases h), rfl⟩ (fun _ _ _ _ => trivial) ?_ ?_
      · rintro i x H4 H5 hi ⟨zs, el, zlow, rfl⟩ ⟨rfl, c, hc, rfl⟩
        have hi26 : i < 26 := hi
        have lc : low c := alpha_low c (by
          have := Array.mem_of_getElem? hc
          simpa using this)
        refine ⟨rfl, ?_⟩
        refine ⟨_, rfl, _, rfl, text, rfl, tz, _, rfl, _, _, rfl, rfl, ?_, _, upd_same, ?_, ?_⟩
        · refine Nat.le_trans (Nat.add_le_add_right (cutS_length _ _ _) _) ?_
          exact Nat.le_of_lt (small1000 (by show text.length + 1 ≤ 1000; omega))
        · rw [List.length_map, el]
          exact small1000 (by omega)
        · refine ⟨zs ++ [cutS text none (some 7) ++ sgn c], by simp [el], fun z hz => ?_, ?_⟩
          · rcases List.mem_append.mp hz with q | q
            · exact zlow z q
            · rw [List.mem_singleton.mp q]
              exact LowT.cut tlow lc
          · rw [upd_upd, List.map_append]
            rfl
      · rintro H4 ⟨zs, el, zlow, rfl⟩
        have elz : zs.length = 26 := el
        refine ⟨m, D2, _, _, rfl, rfl, (upd_ne nm2).trans upd_same, upd_same, ?_, fun p hp => ?_⟩
        · rw [List.length_map, elz]
          show 1 + 26 ≤ sizeLine
          decide
        have npD : p ≠ D2 := fun e => by
          rw [e, upd_same] at hp
          cases hp
        have npm : p ≠ m := fun e => by
          rw [upd_ne npD, e, upd_same] at hp
          cases hp
        have hp3 : H3 p = none := by
          rw [upd_ne npD, upd_ne npm] at hp
          exact hp
        have nBp := b3.ne hp3
        have nL : B ≠ L := bag_nl hB hL
        have sAll : SB B H3 (upd (upd (upd H3 m (.lst [.str text])) D2 (.lst (zs.map V.str))) p (.lst ([V.str text] ++ zs.map V.str))) :=
          (((SB.refl B H3).new hm).new hD2).new hp
        have s3' : SB B H H3 := s1'.trans (s2.trans s3)
        have bAll : BagAt (upd (upd (upd H3 m (.lst [.str text])) D2 (.lst (zs.map V.str))) p (.lst ([V.str text] ++ zs.map V.str))) B :=
          ((b3.new hm).new hD2).new hp
        have all : ∀ z ∈ text :: zs, LowT z := fun z hz => by
          rcases List.mem_cons.mp hz with q | q
          · rw [q]
            exact ⟨by omega, tlow⟩
          · exact zlow z q
        generalize hH : upd (upd (upd H3 m (.lst [.str text])) D2 (.lst (zs.map V.str))) p (.lst ([V.str text] ++ zs.map V.str)) = H9 at sAll bAll
        have hp9 : H9 p = some (.lst ((text :: zs).map V.str)) := by
          rw [← hH, upd_same]
          rfl
        refine ⟨p, rfl, ⟨_, SqL.of hp9⟩, ?_⟩
        refine for_list (K := K) (a := p) (xs := (text :: zs).map V.str) (fun i σ H' => ∃ v : Option V, σ = [some (.ref B), some (.ref L), some (.str _), some (.str y), some (.str text), v, none, none] ∧ SB B H9 H' ∧ BagAt H' B)
          ⟨none, rfl, SB.refl B H9, bAll⟩ (fun i σ H' _ ⟨_, _, sb, _⟩ => SqL.of (sb _ _ nBp hp9)) ?_ ?_
        · rintro i x σ H' hi ⟨v, rfl, sb, bg⟩
          obtain ⟨z, hz, rfl⟩ : ∃ z : Str, z ∈ text :: zs ∧ x = V.str z := by
            obtain ⟨z, hz, e⟩ := List.mem_map.mp (List.mem_of_getElem? hi)
            exact ⟨z, hz, e.symm⟩
          have hL' : H' L = some (.lst (ks.map V.str)) := (s3'.trans (sAll.trans sb)) _ _ nL.symm hL
          refine ⟨_, rfl, _, rfl, L, _, rfl, .inl (SqL.of hL'), rfl, flat_strs _, _, rfl, ?_⟩
          refine ite2 (fun _ => ?_) (fun _ => ?_)
          · refine ⟨_, rfl, rfl, fun H7 l7 same _ hl7 => ⟨l7, _, rfl, .inl (SqL.of hl7), rfl, flat_strs _, _, rfl, ?_⟩⟩
            have bg7 : BagAt H7 B := by
              obtain ⟨a1, a2, a3, q⟩ := bg
              exact ⟨a1, a2, a3, same _ _ q⟩
            refine ite2 (fun c => ?_) (fun _ => ?_)
            · have nw : z ∉ words := fun q => by
                have i1 := (inV_words z words).mpr q
                rw [i1] at c
                exact Bool.noConfusion c
              have az := all z hz
              exact ⟨_, rfl, k _ _ ⟨az.1.1, az.1.2, az.2, nw⟩ (s3'.trans (sAll.trans (sb.trans (SB.of same)))) bg7⟩
            · exact ⟨_, rfl, sb.trans (SB.of same), bg7⟩
          · exact ⟨_, rfl, sb, bg⟩
        · rintro σ H' ⟨v, rfl, sb, bg⟩
          exact k _ _ zzz_name (s3'.trans (sAll.trans sb)) bg
end
end Wd

set_option Elab.async false
set_option linter.all false
set_option maxRecDepth 100000
set_option maxHeartbeats 4000000
namespace Wd
open PySem L2
theorem put_nodup {kvs : List (Key × V)} {k : Key} (v : V) (h : (kvs.map (·.1)).Nodup) : ((putK kvs k v).map (·.1)).Nodup := by
  cases e : valV kvs k with
  | none => exact nd_putK v h e
  | some u =>
    unfold putK
    rw [if_pos (by rw [valV_any, e]; rfl), List.map_map]
    have q : (kvs.map ((·.1) ∘ fun kv => if kv.1 = k then (kv.1, v) else kv)) = kvs.map (·.1) := List.map_congr_left fun p _ => by
      show (if p.1 = k then (p.1, v) else p).1 = p.1
      split <;> rfl
    rw [q]
    exact h
theorem put_mem {kvs : List (Key × V)} {k : Key} {v : V} {p : Key × V} (h : p ∈ putK kvs k v) : p ∈ kvs ∨ p = (k, v) := by
  unfold putK at h
  split at h
  · obtain ⟨q, hq, e⟩ := List.mem_map.mp h
    split at e
    · rename_i c
      exact .inr (by rw [← e, c])
    · exact .inl (e ▸ hq)
  · rcases List.mem_append.mp h with q | q
    · exact .inl q
    · exact .inr (List.mem_singleton.mp q)
theorem put_pos (kvs : List (Key × V)) (k : Key) (v : V) : 1 ≤ (putK kvs k v).length := by
  unfold putK
  split
  · rename_i h
    cases kvs with
    | nil => simp at h
    | cons p r => simp
  · simp
/-- the letters of a source, laid -/
def LetAt (B : Addr) (H : Hp) (v : V) : Prop := ∃ t ds, v = .ref t ∧ t ≠ B ∧ H t = some (.tup (letV ds)) ∧ 1 ≤ ds.length ∧ ds.length ≤ 26 ∧ ∀ c ∈ ds, low c
theorem LetAt.mono {B : Addr} {H H' : Hp} {v : V} (h : LetAt B H v) (s : SB B H H') : LetAt B H' v := by
  obtain ⟨t, ds, e, n, h, r⟩ := h
  exact ⟨t, ds, e, n, s _ _ n h, r⟩
def LayAt (B : Addr) (H : Hp) (d : Addr) (n0 n : Nat) : Prop := ∃ kvs : List (Key × V), H d = some (.dK kvs) ∧ n0 ≤ kvs.length ∧ kvs.length ≤ n ∧ (kvs.map (·.1)).Nodup ∧ ∀ p ∈ kvs, (∃ z, p.1 = Sum.inr z ∧ NameS z) ∧ LetAt B H p.2
def spLayout : Sp := fun vs H Q _ => ∃ (B : Addr) (so le : Int), vs = [.ref B, .int so, .int le] ∧ BagAt H B ∧ 1 ≤ so ∧ so ≤ 5 ∧ 1 ≤ le ∧ le ≤ 5 ∧ ∀ d H', d ≠ B → LayAt B H' d 1 5 → SB B H H' → BagAt H' B → Q (.ref d) H'
theorem keysLow : ∀ {kvs : List (Key × V)}, (∀ p ∈ kvs, ∃ z, p.1 = Sum.inr z ∧ NameS z) → ∃ ks : List Str, kvs.map (·.1) = ks.map Sum.inr ∧ ks.length = kvs.length
  | [], _ => ⟨[], rfl, rfl⟩
  | p :: r, h => by
    obtain ⟨z, e, _⟩ := h p List.mem_cons_self
    obtain ⟨ks, e2, l⟩ := keysLow fun q hq => h q (List.mem_cons_of_mem _ hq)
    exact ⟨z :: ks, by rw [List.map_cons, List.map_cons, e, e2], by rw [List.length_cons, List.length_cons, l]⟩
section
variable {P : Program} {w : World} {K : PySem.W.Frag} {mg : Str → Option Value} {base : Heap} {fT fP fW fN fL : Addr}
abbrev nLayout : List Str := ["bag", "sources", "letters", "found", "turn", "name"]
theorem scLayout : FnScope nLayout ["bag", "sources", "letters"] (defScope sLayout) := ⟨rfl, rfl, rfl, by decide +kernel, rfl, by decide +kernel, by decide +kernel⟩
theorem ok_layout {f : Addr} {fd fdT fdP fdW fdN fdL : FuncData} (F : Fun K "_law_layout" "_law_layout" sLayout f fd) (T : GTxt mg fT fP) (wrds : mg "_law_words" = some (.ref fW)) (mN : mg "_law_name" = some (.ref fN)) (mL : mg "_law_letters" = some (.ref fL))
    (FT : Fun K "_law_throw" "_law_throw" sThrow fT fdT) (bT : Binds K fdT ["bag", "total"] []) (FP : Fun K "_law_pick" "_law_pick" sPick fP fdP) (bP : Binds K fdP ["bag", "items"] []) (FW : Fun K "_law_words" "_law_words" sWords fW fdW) (bW : Binds K fdW [] [])
    (FN : Fun K "_law_name" "_law_name" sName fN fdN) (bN : Binds K fdN ["bag", "known"] []) (FL : Fun K "_law_letters" "_law_letters" sLetters fL fdL) (bL : Binds K fdL ["bag", "most"] []) :
    FnOk P w K mg base CX0 4 f fd ["bag", "sources", "letters"] spLayout := by
  have GT : FnOk P w K mg base CX0 1 fT fdT ["bag", "total"] spThrow := ok_throw FT T.toTxtA
  have GN : FnOk P w K mg base CX0 3 fN fdN ["bag", "known"] spName := ok_name FN T wrds FT bT FP bP FW bW
  have GL : FnOk P w K mg base CX0 2 fL fdL ["bag", "most"] spLetters := ok_letters FL T FT bT
  refine F.ok scLayout (fun vs H Q E h => ?_) (fun cdv A outer s H vs Q E hr h => ?_)
  · obtain ⟨B, so, le, rfl, _⟩ := h
    rfl
  · obtain ⟨B, so, le, rfl, hB, so1, so5, le1, le5, k⟩ := h
    have hr1 : Room 1 _ := hr.mono (by decide)
    have hr2 : Room 2 _ := hr.mono (by decide)
    refine ⟨_, pss_cons (ps_set (i := 3) scLayout.nd rfl (Or.inl rfl) pe_dnewK)
      (pss_cons (ps_for PassesOwn.never rfl (pi_range1 rfl T.range (pa_cons (pe_op op_add pe_int (pe_call GT hr1 rfl T.thr FT.kp bT .nil pass0 (pa_cons (pv 0) (pa_cons (pv 1) pa_nil)))) pa_nil)) (pg_name (i := 4) scLayout.nd rfl (Or.inl rfl))
        (pss_cons (ps_set (i := 5) scLayout.nd rfl (Or.inl rfl) (pe_call GN hr rfl mN FN.kp bN .nil pass0 (pa_cons (pv 0) (pa_cons (pe_callB (call_sortedD rfl) (by rfl) T.sorted (by decide +kernel) (pa_cons (pv 3) pa_nil)) pa_nil))))
        (pss_one (ps_dput (hu_of hr) (pv 3) (pv 5) (pe_call GL hr2 rfl mL FL.kp bL .nil pass0 (pa_cons (pv 0) (pa_cons (pv 2) pa_nil))) rfl))))
      (pss_one (ps_ret (pv 3)))), ?_⟩
    refine fun d hd => ?_
    have nd : d ≠ B := hB.ne hd
    have b0 := hB.new (o := .dK []) hd
    have sb0 := (SB.refl B H).new (o := .dK []) hd
    have e0 : (upd H d (.dK [])) d = some (.dK []) := upd_same
    generalize upd H d (.dK []) = H0 at b0 sb0 e0
    refine ⟨_, rfl, _, rfl, B, so, rfl, b0, by omega, Int.le_trans so5 (by decide +kernel), fun r H1 r0 r1 s1 b1 => ?_⟩
    refine ⟨_, _, rfl, rfl, _, rfl, by omega, by omega, ?_⟩
    refine for_range (lo := 0) (n := (1 + r).toNat) (fun i σ H' => SB B H H' ∧ BagAt H' B ∧ LayAt B H' d (if i = 0 then 0 else 1) i ∧ ∃ v4 v5, σ = [some (.ref B), some (.int so), some (.int le), some (.ref d), v4, v5])
      ⟨sb0.trans s1, b1, ⟨[], s1 _ _ nd e0, Nat.le_refl _, Nat.le_refl _, List.nodup_nil, fun p hp => nomatch hp⟩, _, _, rfl⟩ ?_ ?_
    · rintro i σ H2 hi ⟨sb, bg, ⟨kvs, hk, lk1, lk, ndk, gd⟩, v4, v5, rfl⟩
      obtain ⟨ks, ek, lks⟩ := keysLow fun p hp => (gd p hp).1
      refine ⟨_, rfl, _, rfl, d, kvs, ks, rfl, .inl hk, ek, by omega, fun ys p pm srt hp => ?_⟩
      have sb3 := sb.new (o := .lst (ys.map V.str)) hp
      have b3 := bg.new (o := .lst (ys.map V.str)) hp
      have hk3 : (upd H2 p (.lst (ys.map V.str))) d = some (.dK kvs) := (upd_ne (ne_of_none hk hp)).trans hk
      have gd3 : ∀ q ∈ kvs, LetAt B (upd H2 p (.lst (ys.map V.str))) q.2 := fun q hq => (gd q hq).2.mono ((SB.refl B H2).new hp)
      have ep : (upd H2 p (.lst (ys.map V.str))) p = some (.lst (ys.map V.str)) := upd_same
      generalize upd H2 p (.lst (ys.map V.str)) = H3 at sb3 b3 hk3 gd3 ep
      refine ⟨B, p, ys, rfl, b3, ep, fun z H4 hz s4 b4 => ?_⟩
      refine ⟨_, rfl, _, rfl, B, le, rfl, b4, le1, le5, fun t ds H5 ld1 ld lowd nt et s5 b5 => ?_⟩
      have hk5 := (s4.trans s5) _ _ nd hk3
      refine ⟨_, rfl, _, rfl, d, _, rfl, DPut.k (k := Sum.inr z) hk5 (small1000 (by omega)), ?_⟩
      have ntd : t ≠ d := fun q => by
        rw [q, hk5] at et
        cases et
      refine ⟨?_, b5.other (Ne.symm nd), ⟨_, upd_same, by rw [if_neg (by omega)]; exact put_pos _ _ _, ?_, put_nodup _ ndk, fun q hq => ?_⟩, _, _, rfl⟩
      · exact ((sb3.trans s4).trans s5).own hd
      · exact Nat.le_trans (length_putK _ _ _) (by omega)
      · rcases put_mem hq with m | rfl
        · obtain ⟨t', ds', e', n', h', r'⟩ := (gd3 q m).mono (s4.trans s5)
          refine ⟨(gd q m).1, t', ds', e', n', (upd_ne fun z => ?_).trans h', r'⟩
          rw [z, hk5] at h'
          cases h'
        · exact ⟨⟨z, rfl, hz⟩, t, ds, rfl, nt, (upd_ne ntd).trans et, ld1, ld, lowd⟩
    · rintro σ H2 ⟨sb, bg, ⟨kvs, hk, lk1, lk, ndk, gd⟩, v4, v5, rfl⟩
      exact ⟨_, rfl, k d H2 nd ⟨kvs, hk, by rw [if_neg (by omega)] at lk1; exact lk1, by omega, ndk, gd⟩ sb bg⟩
end
end Wd

set_option Elab.async false
set_option linter.all false
set_option maxRecDepth 100000
set_option maxHeartbeats 4000000
/-! the written dict of words -/
namespace Wd
open PySem PySem.Spec PyProof.Rows L2
theorem lit_at {P : Params} : ∀ {l : List DictEntry}, PySem.W.KeysLit P l → ∀ z : Str, ((l.find? (·.key.isStr z)).isSome = true ↔ ∃ e ∈ l, ∃ t, e.key = .str z t) ∧ l.any (·.refKey) = false
  | [], _, z => ⟨by simp, rfl⟩
  | e :: r, ⟨⟨x, t, q, _⟩, h⟩, z => by
    have ih := lit_at h z
    have rk : e.refKey = false := by
      unfold DictEntry.refKey
      rw [q]
    constructor
    · rw [List.find?_cons]
      by_cases c : x = z
      · have c1 : e.key.isStr z = true := by
          rw [q, c]
          exact beq_self_eq_true z
        rw [c1]
        exact ⟨fun _ => ⟨e, List.mem_cons_self, t, by rw [q, c]⟩, fun _ => rfl⟩
      · have c1 : e.key.isStr z = false := by
          rw [q]
          exact beq_eq_false_iff_ne.mpr c
        rw [c1]
        refine ih.1.trans ⟨fun ⟨e', m, w⟩ => ⟨e', List.mem_cons_of_mem _ m, w⟩, fun ⟨e', m, t', w⟩ => ?_⟩
        rcases List.mem_cons.mp m with m | m
        · rw [m, q] at w
          injection w with w1
          exact (c w1).elim
        · exact ⟨e', m, t', w⟩
    · rw [List.any_cons, rk, ih.2]
      rfl
theorem atxt_of {K : PySem.W.Frag} {w : World} {mg : Str → Option Value} {d : Addr} {ks : List Str} (g : ∃ u, mg "ARGUMENTS" = some u ∧ RelV (.ref d) u) (h : He.dicW K d = some (He.keysIn w.params ks))
    (hk : ∀ z : Str, z ∈ ks ↔ z ∈ words ∨ z = Str.ofString "+" ∨ z = Str.ofString "&") : ∃ es n, ATxt K w mg d es n := by
  obtain ⟨es, n, D⟩ := He.dicW_ok h
  refine ⟨es, n, g, D, fun z => ?_⟩
  obtain ⟨l1, l2⟩ := lit_at D.lit z
  have keys : es.toList.map He.keyOf = He.keysIn w.params ks := by
    have h' := h
    unfold He.dicW at h'
    rw [D.at_] at h'
    have low := D.low
    simp [low] at h'
    exact h'
  have mem : (∃ e ∈ es.toList, ∃ t, e.key = .str z t) ↔ z ∈ ks := by
    constructor
    · rintro ⟨e, he, t, q⟩
      have m : He.keyOf e ∈ He.keysIn w.params ks := keys ▸ List.mem_map.mpr ⟨e, he, rfl⟩
      have ke : He.keyOf e = some (z, e.hash) := by
        unfold He.keyOf
        rw [q]
      rw [ke] at m
      obtain ⟨k, hk', e'⟩ := List.mem_map.mp m
      have := (Prod.mk.inj (Option.some.inj e')).1
      exact this ▸ hk'
    · intro hz
      have m : some (z, PyData.keyHash w.params z) ∈ es.toList.map He.keyOf := keys ▸ List.mem_map.mpr ⟨z, hz, rfl⟩
      obtain ⟨e, he, q⟩ := List.mem_map.mp m
      unfold He.keyOf at q
      split at q
      · rename_i x t kq
        have := (Prod.mk.inj (Option.some.inj q)).1
        exact ⟨e, he, t, by rw [kq, this]⟩
      · cases q
  unfold PySem.W.nsIn
  rw [D.at_]
  dsimp only
  rw [← hk z, ← mem, ← l1]
  cases f : es.toList.find? (·.key.isStr z) with
  | some e => exact ⟨_, rfl, by simp⟩
  | none =>
    dsimp only
    rw [l2]
    exact ⟨none, rfl, by simp⟩
end Wd

set_option Elab.async false
set_option linter.all false
set_option maxRecDepth 100000
set_option maxHeartbeats 4000000
/-! tapes: their class, a row of events, a new tape, == -/
namespace Wd
open PySem PySem.Spec PyProof.Rows L2
/-- == by an own __eq__, against anything that is not asked first -/
theorem cmp_own {X : Cx} {CX : CXT} {n : Nat} {C f : Addr} {fd : FuncData} {ps : List Str} {sp : Sp} {E : XK} {a dx : Addr} {fs : List (Str × V)} {y : V} {v tb : Value} {pins : List (Addr × Obj)} {s : Shared} {σ : L2.St} {H : Hp} {Q : VK}
    (F : FnOk X.prog X.w X.K X.mg X.base CX n f fd ps sp) (hs : PySem.W.findIn X.K (.ref C) "__eq__" = some (some (.ref f))) (hf : PySem.W.isFn X.K (.ref f) = true) (hb : Binds X.K fd ps []) (hx : Passes CX X E) (hr : Room n X.A)
    (I : Inv X pins σ H s) (ha : H a = some (.ins C dx fs)) (ry : RelV y v) (ht : PySem.W.Looks (model X.prog X.w) s.heap (typeOf v) tb) (hn : PySem.W.notFirst X.K C tb = true)
    (hsp : sp [.ref a, y] H (fun z H' => ∃ b, z = .bl b ∧ Q (.bl b) H') E) : wpAny (model X.prog X.w) X.A (compareOp .Eq (.ref a) v) (EP X pins σ Q) X.xe s := by
  show wpAny (model X.prog X.w) X.A (richCompare .Eq (.ref a) v) _ _ _
  obtain ⟨mA, J, _⟩ := ins_get I.hok ha
  obtain ⟨od, J, _⟩ := J.look
  obtain ⟨m, hF⟩ := I.fr
  refine PySem.W.cmp_K (op := .Eq) (tb := tb) hr.units0 hF I.ok.mod.kin J ht hn hs hf ?_
  have hl := F.len _ _ _ _ hsp
  have r2 : Vals [V.ref a, y] [Value.ref a, v] := .cons rfl (.cons ry .nil)
  refine wpAny_call (codeAny_mono (F.run X.A X.stack s H ⟨[.ref a, v], []⟩ [.ref a, v] [.ref a, y] _ E hr I.env0 (by
    have := hb s [.ref a, v] I.kIn (by simpa using hl)
    simpa using this) r2 hsp) fun r s' hq => ?_)
  cases r with
  | error e => exact hx pins σ H s e s' I hq
  | ok fl =>
    cases fl with
    | ret w =>
      obtain ⟨z, H', I', rz, b, ez, q⟩ := I.after hq
      subst ez
      cases rz
      exact ⟨.bl b, H', I', rfl, q⟩
    | next => exact False.elim hq
    | brk => exact False.elim hq
    | cont => exact False.elim hq
/-- the same objects, item by item -/
def DSame : Eqv := fun x y _ => ∃ a : Addr, x = .ref a ∧ y = .ref a
theorem mon_same : Mon DSame := fun _ _ _ _ _ d => d
theorem eqG_same {X : Cx} : EqG X 0 DSame := by
  intro A pins s σ H x y u v sb I rx ry d
  obtain ⟨a, rfl, rfl⟩ := d
  cases rx
  cases ry
  exact SeqAt.EqAt.same (A := A) (s := s) (.ref a) X.prog X.w X.xe _ ⟨rfl, H, I, Ext.rfl'⟩
/-! ### the class -/
def tf (t : Addr) (k : Int) : List (Str × V) := putF "_last" (.int k) (putF "_events" (.ref t) [])
theorem el : ¬ (("_events" : Str) = "_last") := by decide +kernel
theorem tf_events (t : Addr) (k : Int) : (tf t k).lookup ("_events" : Str) = some (.ref t) := by
  unfold tf
  rw [lookup_putF, if_neg el, lookup_putF, if_pos rfl]
theorem tf_last (t : Addr) (k : Int) : (tf t k).lookup ("_last" : Str) = some (.int k) := by
  unfold tf
  rw [lookup_putF, if_pos rfl]
/-- what is asked of class Tape as the top has made it -/
structure TpTxt (K : PySem.W.Frag) (mg : Str → Option Value) (C fI fE : Addr) : Prop where
  cl : Cls K C
  nE : NoAttr K C "_events"
  nL : NoAttr K C "_last"
  mak : Mk K C fI
  mgC : mg "Tape" = some (.ref C)
  eqm : PySem.W.findIn K (.ref C) "__eq__" = some (some (.ref fE))
  eqf : PySem.W.isFn K (.ref fE) = true
  ca : PySem.W.findIn K (.ref C) "__class__" = some (some (.builtin "object.__class__"))
  cg : PySem.W.specialIn K (.builtin "object.__class__") "__get__" = some (some (.builtin "getset_descriptor.__get__"))
  ct : PySem.W.takesIn K (.builtin "object.__class__") = some true
  ob : PySem.W.mroIn K C (.type "object") = some true
  no : PySem.W.kitOne K (.ref C) (.type "int") = some false ∧ PySem.W.kitOne K (.ref C) (.type "bool") = some false ∧ PySem.W.kitOne K (.ref C) (.type "str") = some false ∧ PySem.W.kitOne K (.ref C) (.type "tuple") = some false ∧
    PySem.W.kitOne K (.ref C) (.type "list") = some false ∧ PySem.W.kitOne K (.ref C) (.type "dict") = some false
  kC : PySem.W.kitOne K (.ref C) (.ref C) = some true
  kS : PySem.W.kitOne K (.type "str") (.ref C) = some false
  nf : PySem.W.notFirst K C (.ref C) = true
  nfS : PySem.W.notFirst K C (.type "str") = true
/-- what isinstance and == ask of the class, all in one -/
def tapOk (K : PySem.W.Frag) (C : Addr) : Bool :=
  (PySem.W.kitOne K (.ref C) (.type "int") == some false) && (PySem.W.kitOne K (.ref C) (.type "bool") == some false) && (PySem.W.kitOne K (.ref C) (.type "str") == some false) && (PySem.W.kitOne K (.ref C) (.type "tuple") == some false) &&
  (PySem.W.kitOne K (.ref C) (.type "list") == some false) && (PySem.W.kitOne K (.ref C) (.type "dict") == some false) && (PySem.W.kitOne K (.ref C) (.ref C) == some true) && (PySem.W.kitOne K (.type "str") (.ref C) == some false) &&
  PySem.W.notFirst K C (.ref C) && PySem.W.notFirst K C (.type "str")
theorem tapOk_iff {K : PySem.W.Frag} {C : Addr} (h : tapOk K C = true) : (PySem.W.kitOne K (.ref C) (.type "int") = some false ∧ PySem.W.kitOne K (.ref C) (.type "bool") = some false ∧ PySem.W.kitOne K (.ref C) (.type "str") = some false ∧ PySem.W.kitOne K (.ref C) (.type "tuple") = some false ∧
    PySem.W.kitOne K (.ref C) (.type "list") = some false ∧ PySem.W.kitOne K (.ref C) (.type "dict") = some false) ∧ PySem.W.kitOne K (.ref C) (.ref C) = some true ∧ PySem.W.kitOne K (.type "str") (.ref C) = some false ∧
    PySem.W.notFirst K C (.ref C) = true ∧ PySem.W.notFirst K C (.type "str") = true := by
  unfold tapOk at h
  simp only [Bool.and_eq_true, beq_iff_eq] at h
  obtain ⟨⟨⟨⟨⟨⟨⟨⟨⟨h1, h2⟩, h3⟩, h4⟩, h5⟩, h6⟩, h7⟩, h8⟩, h9⟩, h10⟩ := h
  exact ⟨⟨h1, h2, h3, h4, h5, h6⟩, h7, h8, h9, h10⟩
theorem TpTxt.ty {K : PySem.W.Frag} {mg : Str → Option Value} {C fI fE : Addr} (Y : TpTxt K mg C fI fE) {H : Hp} {a dx : Addr} {fs : List (Str × V)} (e : H a = some (.ins C dx fs)) : TyX K H (.ref a) (.ref C) :=
  .base (.ins e Y.cl Y.ca Y.cg Y.ct Y.ob)
/-- a tape at a whose events stand at t -/
def TapeOf (K : PySem.W.Frag) (C : Addr) (B : List Addr) (H : Hp) (a : Addr) : Prop := a ∉ B ∧ ∃ dx t k xs, H a = some (.ins C dx (tf t k)) ∧
  ((∀ H', SqT K H' t xs) ∨ (t ∉ B ∧ H t = some (.tup xs))) ∧ ∀ x ∈ xs, ∃ e : Addr, x = .ref e
theorem own_tape {K : PySem.W.Frag} {mg : Str → Option Value} {C fI fE : Addr} (Y : TpTxt K mg C fI fE) : Own K (TapeOf K C) where
  mono := fun sb ⟨na, dx, t, k, xs, e, h, g⟩ => ⟨na, dx, t, k, xs, sb _ _ na e, h.elim .inl fun ⟨nt, h⟩ => .inr ⟨nt, sb _ _ nt h⟩, g⟩
  more := fun {B H a d} ⟨kvs, hd⟩ ⟨na, dx, t, k, xs, e, h, g⟩ => by
    refine ⟨?_, dx, t, k, xs, e, h.elim .inl fun ⟨nt, h⟩ => .inr ⟨?_, h⟩, g⟩
    · intro q
      rcases List.mem_cons.mp q with rfl | q
      · rw [hd] at e
        cases e
      · exact na q
    · intro q
      rcases List.mem_cons.mp q with rfl | q
      · rw [hd] at h
        cases h
      · exact nt q
  tup := fun ⟨na, dx, t, k, xs, e, _⟩ q => by
    rw [e] at q
    cases q
  lst := fun ⟨na, dx, t, k, xs, e, _⟩ q => by
    rw [e] at q
    cases q
  dK := fun ⟨na, dx, t, k, xs, e, _⟩ q => by
    rw [e] at q
    cases q
  ty := fun ⟨na, dx, t, k, xs, e, _⟩ => by
    refine ⟨.ref C, Y.ty e, fun n hn => ?_⟩
    obtain ⟨h1, h2, h3, h4, h5, h6⟩ := Y.no
    simp only [List.mem_cons, List.not_mem_nil, or_false] at hn
    rcases hn with rfl | rfl | rfl | rfl | rfl | rfl <;> assumption
/-! ### a row of events -/
theorem Dat.nin {K : PySem.W.Frag} {T : List Addr → Hp → Addr → Prop} {B : List Addr} {H : Hp} {m n : Nat} {a : Addr} {xs : List V} (O : Own K T) (d : Dat T B H m n (.ref a)) (h : H a = some (.tup xs)) : a ∉ B := by
  cases d with
  | own t => exact (O.tup t h).elim
  | tup ne e _ _ => exact ne
  | lst ne e _ _ => exact ne
  | dic ne e _ _ _ _ => exact ne
/-- the argument of a row: no tuple, or a tuple (of the heap or of the written part) of data -/
def TupArg (K : PySem.W.Frag) (T : List Addr → Hp → Addr → Prop) (B : List Addr) (H0 H : Hp) (m n : Nat) (v : V) : Option (List V) → Prop
  | none => Isi K H v "tuple" false
  | some xs => ∃ a : Addr, v = .ref a ∧ xs.length ≤ m ∧ (∀ x ∈ xs, Dat T B H0 m n x) ∧ ∀ H', Same H H' → Isi K H' v "tuple" true ∧ SqT K H' a xs
def Tm (H : Hp) (x : V) (i : Int) : Prop := ∃ (a : Addr) (r : List V), x = .ref a ∧ H a = some (.tup (.int i :: r))
def RowOf (H : Hp) (xs : List V) : Prop := (∀ x ∈ xs, IsEvent H x) ∧ ∀ (k : Nat) (x y : V) (i j : Int), xs[k]? = some x → xs[k + 1]? = some y → Tm H x i → Tm H y j → i ≤ j
def spRow (K : PySem.W.Frag) (T : List Addr → Hp → Addr → Prop) : Sp := fun vs H Q _ => ∃ (v : V) (B : List Addr) (H0 : Hp) (m n : Nat) (o : Option (List V)), vs = [v] ∧ Ob B H0 H ∧ m ≤ 1000 ∧ TupArg K T B H0 H m n v o ∧
  ∀ H' b, Same H H' → (b = true ↔ ∃ xs, o = some xs ∧ RowOf H0 xs) → Q (.bl b) H'
theorem ev_at {K : PySem.W.Frag} {T : List Addr → Hp → Addr → Prop} {B : List Addr} {H0 H : Hp} {m n : Nat} {x : V} (O : Own K T) (sb : Ob B H0 H) (d : Dat T B H0 m n x) (e : IsEvent H0 x) :
    ∃ (a : Addr) (i : Int) (u l w : V), x = .ref a ∧ H a = some (.tup [.int i, u, l, w]) ∧ H0 a = some (.tup [.int i, u, l, w]) ∧ 0 ≤ i ∧ i < ten60 := by
  obtain ⟨a, t, u, l, w, rfl, h, ⟨i, rfl, h0, h1⟩, _⟩ := e
  exact ⟨a, i, u, l, w, rfl, sb _ _ (d.nin O h) h, h, h0, h1⟩
section
variable {P : Program} {w : World} {K : PySem.W.Frag} {mg : Str → Option Value} {base : Heap} {T : List Addr → Hp → Addr → Prop} {fI fL fN fE fR C f1 f2 : Addr} {dA : Addr} {es : Array DictEntry} {nA : Nat}
abbrev nRow : List Str := ["value", "event", "k"]
theorem scRow : FnScope nRow ["value"] (defScope sIsRowOfEvents) := ⟨rfl, rfl, rfl, by decide +kernel, rfl, by decide +kernel, by decide +kernel⟩
theorem ok_row (O : Own K T) {f : Addr} {fd fdE : FuncData} (F : Fun K "is_row_of_events" "is_row_of_events" sIsRowOfEvents f fd) (X : WTxt mg fI fL) (mE : mg "is_event" = some (.ref fE))
    (kE : PySem.W.keepIn K (.ref fE) = true) (bE : Binds K fdE ["value"] []) (GE : FnOk P w K mg base CX0 3 fE fdE ["value"] (spIs T IsEvent)) :
    FnOk P w K mg base CX0 4 f fd ["value"] (spRow K T) := by
  refine F.ok scRow (fun vs H Q E h => ?_) (fun cdv A outer s H vs Q E hr h => ?_)
  · obtain ⟨v, B, H0, m, n, o, rfl, _⟩ := h
    rfl
  · obtain ⟨v, B, H0, m, n, o, rfl, sb, hm, arg, k⟩ := h
    refine ⟨_, pss_cons (ps_if (PW.pt (pw_or (pt_not (pt_val (pe_isi (N := "tuple") (pv 0) X.isin X.tup))) (pw_or1 (pt_not (pt_val (pe_callB (cr_all rfl) (by rfl) X.all (by decide +kernel) (pa_cons (pe_lc (own := [("event", 1)]) (g := gName 1) (tt := tYes) rfl scRow.nd (pi_tup (pv 0))
          (blkOk_by (N := nRow) (sc := defScope sIsRowOfEvents) (by decide +kernel)) (fun _ _ _ _ _ => pg_name (i := 1) scRow.nd rfl (Or.inl rfl)) (fun _ _ _ _ _ => pts_nil)
          (fun _ _ _ _ _ => pe_call GE hr rfl mE kE bE .nil pass0 (pa_cons (pv 1) pa_nil))) pa_nil))))))) (pss_one (ps_ret pe_bl)) pss_nil)
      (pss_one (ps_ret (pe_callB (cr_all rfl) (by rfl) X.all (by decide +kernel) (pa_cons (pe_lc (own := [("k", 2)]) (g := gName 2) (tt := tYes) rfl scRow.nd
          (pi_range1 rfl X.range (pa_cons (pe_op op_sub (pe_callB call_len_seq (by rfl) X.len PySem.boot_len (pa_cons (pv 0) pa_nil)) pe_int) pa_nil))
          (blkOk_by (N := nRow) (sc := defScope sIsRowOfEvents) (by decide +kernel)) (fun _ _ _ _ _ => pg_name (i := 2) scRow.nd rfl (Or.inl rfl)) (fun _ _ _ _ _ => pts_nil)
          (fun _ _ _ _ _ => pe_cmpR op_le (pe_ix (r := rIxT K) ix_tup (pe_ix (r := rIxT K) ix_tup (pv 0) (pv 2) (fun _ _ => rfl)) pe_int (fun _ _ => rfl))
            (pe_ix (r := rIxT K) ix_tup (pe_ix (r := rIxT K) ix_tup (pv 0) (pe_op op_add (pv 2) pe_int) (fun _ _ => rfl)) pe_int (fun _ _ => rfl)) (nomark _))) pa_nil)))), ?_⟩
    cases o with
    | none =>
      exact ⟨_, rfl, _, arg, _, rfl, iteT (k _ _ (Same.refl _) (nay fun ⟨xs, e, _⟩ => nomatch e))⟩
    | some xs =>
      obtain ⟨a, rfl, hl, hk, tp⟩ := arg
      refine ⟨_, rfl, _, (tp _ (Same.refl _)).1, _, rfl, iteF ⟨_, rfl, a, rfl, ⟨xs, (tp _ (Same.refl _)).2⟩, fun D hD => ?_⟩⟩
      refine lc_bools (walk_tup (K := K) (xs := xs) (a := a)) (fun i => ∃ x, xs[i]? = some x ∧ IsEvent H0 x) hD (by omega) (fun H s => (tp _ s).2) ?_ ?_
      · rintro i x H1 H' kk hi s1 ⟨rfl, hx⟩ h
        exact ⟨rfl, _, rfl, x, B, H0, m, n, rfl, sb.same s1, hm, hk x (List.mem_of_getElem? hx), fun H4 b s4 hb => h b H4 s4 (at_one hx hb)⟩
      · rintro H1 bs s1 hD1 hb
        refine ⟨D, bs, rfl, SqL.of hD1, _, rfl, ?_⟩
        cases hbs : bs.all id with
        | false =>
          refine iteT (k _ _ s1 (nay fun ⟨ys, e, g, _⟩ => ?_))
          cases e
          rw [hbs] at hb
          exact Bool.noConfusion (hb.mpr (all_at.mpr g))
        | true =>
          have ev := all_at.mp (hb.mp hbs)
          refine iteF ⟨_, rfl, a, _, rfl, .inr (tp _ s1).2, _, _, rfl, rfl, _, rfl, by omega, by omega, fun D2 hD2 => ?_⟩
          have en : ((xs.length : Int) - 1).toNat = xs.length - 1 := by omega
          refine lc_bools (walk_range (n := ((xs.length : Int) - 1).toNat)) (fun q => ∀ (x y : V) (i j : Int), xs[q]? = some x → xs[q + 1]? = some y → Tm H0 x i → Tm H0 y j → i ≤ j) hD2 (by omega) (fun _ _ => trivial) ?_ ?_
          · rintro i x H2 H' kk hi s2 ⟨rfl, rfl⟩ h
            have hi1 : i < xs.length := by omega
            have hi2 : i + 1 < xs.length := by omega
            have g1 := List.getElem?_eq_getElem hi1
            have g2 := List.getElem?_eq_getElem hi2
            have s12 := s1.trans s2
            obtain ⟨a1, t1, u1, l1, w1, e1, q1, p1, _⟩ := ev_at O (sb.same s12) (hk _ (List.getElem_mem hi1)) (ev _ (List.getElem_mem hi1))
            obtain ⟨a2, t2, u2, l2, w2, e2, q2, p2, _⟩ := ev_at O (sb.same s12) (hk _ (List.getElem_mem hi2)) (ev _ (List.getElem_mem hi2))
            rw [e1] at g1
            rw [e2] at g2
            refine ⟨rfl, _, rfl, _, rfl, a, _, _, _, rfl, rfl, (tp _ s12).2, at_nn (by omega) (by rw [show (0 + (i : Int)).toNat = i by omega]; exact g1), ?_⟩
            refine ⟨a1, _, _, _, rfl, rfl, SqT.of q1, atI_nat (j := 0) rfl, ?_⟩
            refine ⟨_, rfl, _, rfl, _, _, rfl, rfl, a, _, _, _, rfl, rfl, (tp _ s12).2, at_nn (by omega) (by rw [show (0 + (i : Int) + 1).toNat = i + 1 by omega]; exact g2), ?_⟩
            refine ⟨a2, _, _, _, rfl, rfl, SqT.of q2, atI_nat (j := 0) rfl, ?_⟩
            refine ⟨_, _, rfl, rfl, h _ _ (Same.refl _) (decide_eq_true_iff.trans ⟨fun q x y i' j' h1 h2 h3 h4 => ?_, fun q => q _ _ t1 t2 g1 g2 ⟨a1, _, rfl, p1⟩ ⟨a2, _, rfl, p2⟩⟩)⟩
            rw [g1] at h1
            rw [g2] at h2
            obtain ⟨b1, r1, z1, y1⟩ := h3
            obtain ⟨b2, r2, z2, y2⟩ := h4
            rw [← Option.some.inj h1] at z1
            rw [← Option.some.inj h2] at z2
            cases z1
            cases z2
            rw [p1] at y1
            rw [p2] at y2
            cases y1
            cases y2
            exact q
          · rintro H2 bs2 s2 hD2' hb2
            rw [en] at hb2
            refine ⟨D2, bs2, rfl, SqL.of hD2', k _ _ (s1.trans s2) (hb2.trans ⟨fun q => ⟨xs, rfl, ev, fun j x y i1 i2 h1 h2 => q j ?_ x y i1 i2 h1 h2⟩, fun ⟨ys, e, _, g⟩ j _ => ?_⟩)⟩
            · have := (List.getElem?_eq_some_iff.mp h2).1
              omega
            · cases e
              exact g j
/-! ### a new tape without a last time -/
def spNew (K : PySem.W.Frag) (T : List Addr → Hp → Addr → Prop) (C : Addr) : Sp := fun vs H Q _ => ∃ (p dx t : Addr) (B : List Addr) (H0 : Hp) (m n : Nat) (xs : List V), vs = [.ref p, .ref t, .non] ∧ H p = some (.ins C dx []) ∧ Ob B H0 H ∧ m ≤ 1000 ∧ TupArg K T B H0 H m n (.ref t) (some xs) ∧ RowOf H0 xs ∧
  ∀ k H', (∀ b o, b ≠ p → H b = some o → H' b = some o) → H' p = some (.ins C dx (tf t k)) → Q .non H'
theorem scInit : FnScope ["self", "events", "last", "least"] ["self", "events", "last"] (defScope cTape_init) := ⟨rfl, rfl, rfl, by decide +kernel, rfl, by decide +kernel, by decide +kernel⟩
theorem ok_new (O : Own K T) {f : Addr} {fd fdR fdI : FuncData} {dvs : List V} {kws : List (Str × V)} (F : FunD K "__init__" "Tape.__init__" (defArgs cTape_init) (defBody cTape_init) (defScope cTape_init) dvs kws f fd) (Y : TpTxt K mg C f1 f2) (X : WTxt mg fI fL)
    (mR : mg "is_row_of_events" = some (.ref fR)) (kR : PySem.W.keepIn K (.ref fR) = true) (bR : Binds K fdR ["value"] []) (GR : FnOk P w K mg base CX0 4 fR fdR ["value"] (spRow K T))
    (FI : Fun K "is_integer" "is_integer" sIsInteger fI fdI) (bI : Binds K fdI ["value"] []) :
    FnOk P w K mg base CX0 5 f fd ["self", "events", "last"] (spNew K T C) := by
  have GI : FnOk P w K mg base CX0 1 fI fdI ["value"] (spIs T fun _ => IsInt) := ok_is_integer O FI X
  refine F.ok scInit (fun vs H Q E h => ?_) (fun cdv A outer s H vs Q E hr h => ?_)
  · obtain ⟨p, dx, t, B, H0, m, n, xs, rfl, _⟩ := h
    rfl
  · obtain ⟨p, dx, t, B, H0, m, n, xs, rfl, hp, sb, hm, arg, row, k⟩ := h
    have hr1 : Room 1 _ := hr.mono (by decide)
    refine ⟨_, PSs.nox (pss_cons (ps_if (pt_not (pt_val (pe_call GR hr rfl mR kR bR .nil pass0 (pa_cons (pv 1) pa_nil)))) (pss_one ps_never) pss_nil)
      (pss_cons (ps_set (i := 3) scInit.nd rfl (Or.inl rfl) (pe_ifExp (pt_cmpR op_gt (pe_callB call_len_seq (by rfl) X.len PySem.boot_len (pa_cons (pv 1) pa_nil)) pe_int (nomark _))
          (pe_ix (r := rIxT K) ix_tup (pe_ix (r := rIxT K) ix_tup (pv 1) (pe_un un_neg pe_int) (fun _ _ => rfl)) pe_int (fun _ _ => rfl)) pe_int))
      (pss_cons (ps_if (PW.pt (pw_and (pt_cmp (pc_notN (pv 2)) rfl) (pw_and1 (PW.pt (pw_or (pt_not (pt_val (pe_call GI hr1 rfl X.fi FI.kp bI .nil pass0 (pa_cons (pv 2) pa_nil)))) (pw_or1 (pt_cmpR op_lt (pv 2) (pv 3) (nomark _)))))))) (pss_one ps_never) pss_nil)
      (pss_cons (ps_fld (pv 0) (pv 1) rfl)
      (pss_one (ps_fld (pv 0) (pe_ifExp (pt_cmp (pc_isN (pv 2)) rfl) (pv 3) (pv 2)) rfl)))))), ?_⟩
    refine ⟨_, rfl, .ref t, B, H0, m, n, some xs, rfl, sb, hm, arg, fun H1 b s1 hb => ⟨b, rfl, ?_⟩⟩
    obtain rfl : b = true := hb.mpr ⟨xs, rfl, row⟩
    obtain ⟨a, ea, hl, hk, tp⟩ := arg
    cases ea
    have sq := (tp _ s1).2
    refine iteF ⟨_, rfl, t, xs, rfl, .inr sq, _, _, rfl, rfl, _, rfl, ?_⟩
    have fin : ∀ i : Int, (∃ b, (fun (k : Bool) => V.bl k) b = .bl (!decide (V.non = V.non)) ∧ b = false) → True := fun _ _ => trivial
    have hp1 := s1 _ _ hp
    have done : ∀ i : Int, Q .non (upd (upd H1 p (.ins C dx (putF "_events" (.ref t) []))) p (.ins C dx (tf t i))) := fun i => by
      refine k i _ (fun b o nb e => ?_) upd_same
      rw [upd_ne nb, upd_ne nb]
      exact s1 _ _ e
    refine ite2 (fun c => ?_) (fun c => ?_)
    · have c' : 0 < xs.length := by
        have := of_decide_eq_true c
        omega
      obtain ⟨ws, y, ew⟩ : ∃ ws y, xs = ws ++ [y] := ⟨xs.dropLast, xs.getLast (fun q => by rw [q] at c'; cases c'), (List.dropLast_concat_getLast _).symm⟩
      have lw : xs.length = ws.length + 1 := by rw [ew]; simp
      have ly : xs[ws.length]? = some y := by rw [ew]; simp
      have my := List.mem_of_getElem? ly
      obtain ⟨a1, t1, u1, l1, w1, rfl, q1, p1, _⟩ := ev_at O (sb.same s1) (hk _ my) (row.1 _ my)
      have q : atI xs (-1) = some (.ref a1) := by
        unfold atI ixN
        rw [if_neg (by decide), if_pos (by omega)]
        show xs[((xs.length : Int) + -1).toNat]? = _
        rw [show ((xs.length : Int) + -1).toNat = ws.length by omega]
        exact ly
      refine ⟨_, rfl, _, rfl, t, xs, -1, _, rfl, rfl, sq, q, a1, _, _, _, rfl, rfl, SqT.of q1, atI_nat (j := 0) rfl, ?_⟩
      refine ⟨_, rfl, _, rfl, iteF ?_⟩
      exact ⟨_, rfl, _, rfl, p, C, dx, _, rfl, hp1, Y.cl, Y.nE, (by show 0 < 1000; decide), _, rfl, _, rfl, iteT ⟨_, rfl, _, rfl, p, C, dx, _, rfl, upd_same, Y.cl, Y.nL, (by show 1 < 1000; decide), done t1⟩⟩
    · refine ⟨_, rfl, _, rfl, iteF ?_⟩
      exact ⟨_, rfl, _, rfl, p, C, dx, _, rfl, hp1, Y.cl, Y.nE, (by show 0 < 1000; decide), _, rfl, _, rfl, iteT ⟨_, rfl, _, rfl, p, C, dx, _, rfl, upd_same, Y.cl, Y.nL, (by show 1 < 1000; decide), done 0⟩⟩
/-! ### == of tapes -/
def spTEq (K : PySem.W.Frag) (C : Addr) : Sp := fun vs H Q _ => ∃ (a dx t : Addr) (k : Int) (y : V), vs = [.ref a, y] ∧ H a = some (.ins C dx (tf t k)) ∧
  ((∃ ty, TyX K H y ty ∧ PySem.W.kitOne K ty (.ref C) = some false ∧ Q (.bl false) H) ∨
    (y = .ref a ∧ ∃ xs, SqT K H t xs ∧ (∀ x ∈ xs, ∃ e : Addr, x = .ref e) ∧ ∀ H', Same H H' → Q (.bl true) H'))
theorem scEq : FnScope ["self", "other"] ["self", "other"] (defScope cTape_eq) := ⟨rfl, rfl, rfl, by decide +kernel, rfl, by decide +kernel, by decide +kernel⟩
theorem ok_teq {f : Addr} {fd : FuncData} (F : Fun K "__eq__" "Tape.__eq__" cTape_eq f fd) (Y : TpTxt K mg C f1 f2) (isin : mg "isinstance" = none) : FnOk P w K mg base CX0 2 f fd ["self", "other"] (spTEq K C) := by
  refine F.ok scEq (fun vs H Q E h => ?_) (fun cdv A outer s H vs Q E hr h => ?_)
  · obtain ⟨a, dx, t, k, y, rfl, _⟩ := h
    rfl
  · obtain ⟨a, dx, t, k, y, rfl, ha, h⟩ := h
    refine ⟨_, pss_one (ps_ret (pe_and (pe_callB call_isi (by rfl) isin (by decide +kernel) (pa_cons (pv 1) (pa_cons (pe_gcon rfl ⟨_, Y.mgC, (show RelV (.ref C) (.ref C) from rfl)⟩) pa_nil)))
      (pe_and (pe_cmpR (op_eqG (rcG_tup mon_same eqG_same) hr) (pe_fld (pv 0) rfl) (pe_fld (pv 1) rfl) (nomark _)) (pe_one (pe_cmpR op_eq (pe_fld (pv 0) rfl) (pe_fld (pv 1) rfl) (nomark _)))))), ?_⟩
    rcases h with ⟨ty, hty, kf, q⟩ | ⟨rfl, xs, sq, rf, q⟩
    · exact ⟨_, rfl, y, .ref C, ty, .ref C, false, rfl, .own C, hty, kf, false, rfl, iteF q⟩
    · refine ⟨_, rfl, .ref a, .ref C, .ref C, .ref C, true, rfl, .own C, Y.ty ha, Y.kC, true, rfl, iteT ?_⟩
      refine ⟨_, rfl, a, C, dx, _, _, rfl, ha, Y.cl, Y.nE, tf_events t k, _, rfl, a, C, dx, _, _, rfl, ha, Y.cl, Y.nE, tf_events t k, ⟨t, t, xs, xs, rfl, rfl, sq, sq, rfl, fun i x y h1 h2 => ?_⟩, fun H1 e1 => ?_⟩
      · rw [h1] at h2
        cases h2
        obtain ⟨e, rfl⟩ := rf x (List.mem_of_getElem? h1)
        exact ⟨e, rfl, rfl⟩
      · have ha1 := e1 _ _ ha
        refine ⟨true, rfl, iteT ⟨_, rfl, a, C, dx, _, _, rfl, ha1, Y.cl, Y.nL, tf_last t k, _, rfl, a, C, dx, _, _, rfl, ha1, Y.cl, Y.nL, tf_last t k, rfl, ?_⟩⟩
        rw [decide_eq_true rfl]
        exact q _ e1
theorem op_eqO {X : Cx} {fd : FuncData} (Y : TpTxt K mg C f1 f2) (G : FnOk P w K mg base CX0 2 f2 fd ["self", "other"] (spTEq K C)) (b : Binds K fd ["self", "other"] []) (e1 : X.prog = P) (e2 : X.w = w) (e3 : X.K = K) (e4 : X.mg = mg) (e5 : X.base = base) (hr : Room 2 X.A) : OpR X (compareOp .Eq) (rEqO (TapeOf K C)) := by
  subst e1 e2 e3 e4 e5
  intro pins s σ H x y v u Q I rx ry ⟨B, a, ex, ey, ⟨na, dx, t, k, xs, e, h, g⟩, q⟩
  subst ex ey
  cases rx
  cases ry
  obtain ⟨mA, J, _⟩ := ins_get I.hok e
  obtain ⟨od, J, _⟩ := J.look
  refine cmp_own (E := E0) (y := .ref a) (tb := .ref C) G Y.eqm Y.eqf b pass0 hr I e rfl J.type Y.nf ?_
  exact ⟨a, dx, t, k, _, rfl, e, .inr ⟨rfl, xs, h.elim (fun h => h H) fun ⟨_, h⟩ => SqT.of h, g, fun H' s' => ⟨true, rfl, q H' s'⟩⟩⟩
end
end Wd

set_option Elab.async false
set_option linter.all false
set_option maxRecDepth 100000
set_option maxHeartbeats 4000000
/-! tapes as lists of events -/
namespace Wd
open PySem PySem.Spec PyProof.Rows L2
abbrev noT : List Addr → Hp → Addr → Prop := fun _ _ _ => False
theorem own_no {K : PySem.W.Frag} : Own K noT := ⟨fun _ h => h, fun _ h => h, fun h => h.elim, fun h => h.elim, fun h => h.elim, fun h => h.elim⟩
/-! ### what stays: tuples and made instances -/
def Kp (H H' : Hp) : Prop := (∀ a xs, H a = some (.tup xs) → H' a = some (.tup xs)) ∧ ∀ a C dx fs, H a = some (.ins C dx fs) → H' a = some (.ins C dx fs)
section
variable {H H' H1 H2 : Hp} {B : Addr}
theorem Kp.refl (H : Hp) : Kp H H := ⟨fun _ _ h => h, fun _ _ _ _ h => h⟩
theorem Kp.of (s : Same H H') : Kp H H' := ⟨fun _ _ h => s _ _ h, fun _ _ _ _ h => s _ _ h⟩
theorem Kp.trans (a : Kp H H1) (b : Kp H1 H2) : Kp H H2 := ⟨fun _ _ h => b.1 _ _ (a.1 _ _ h), fun _ _ _ _ h => b.2 _ _ _ _ (a.2 _ _ _ _ h)⟩
theorem Kp.sb (b : BagAt H B) (s : SB B H H') : Kp H H' := by
  obtain ⟨x, y, z, e⟩ := b
  refine ⟨fun a xs h => s _ _ (fun q => ?_) h, fun a C dx fs h => s _ _ (fun q => ?_) h⟩ <;>
  · rw [q, e] at h
    cases h
end
/-! ### events -/
structure Ev where
  t : Int
  s : Str
  l : Nat
  v : Int
def Ev.vs (e : Ev) : List V := [.int e.t, .str e.s, .str ⟨#[e.l]⟩, .int e.v]
def Near (e : Ev) : Prop := 0 ≤ e.t ∧ NameS e.s ∧ low e.l ∧ -ten60 < e.v ∧ e.v < ten60
def RowOk (es : List Ev) : Prop := (∀ e ∈ es, e.t < ten60) ∧ es.Pairwise fun a b => a.t ≤ b.t
def lastOf (es : List Ev) : Int := (es.getLast?.map Ev.t).getD 0
def EvAt (H : Hp) (x : V) (e : Ev) : Prop := ∃ a : Addr, x = .ref a ∧ H a = some (.tup e.vs)
/-- at t a tuple of xs is to be read, now and later -/
def TupS (K : PySem.W.Frag) (H : Hp) (t : Addr) (xs : List V) : Prop := H t = some (.tup xs) ∨ (xs = [] ∧ ∀ H', SqT K H' t [] ∧ TyX K H' (.ref t) (.type "tuple"))
def Evs (K : PySem.W.Frag) (H : Hp) (t : Addr) (es : List Ev) : Prop := ∃ xs, TupS K H t xs ∧ Paired (EvAt H) xs es
def TapeAt (K : PySem.W.Frag) (C : Addr) (H : Hp) (a : Addr) (es : List Ev) (k : Int) : Prop := ∃ dx t, H a = some (.ins C dx (tf t k)) ∧ Evs K H t es
/-- a good tape -/
structure Good (es : List Ev) (k : Int) : Prop where
  near : ∀ e ∈ es, Near e
  row : RowOk es
  lo : lastOf es ≤ k
  hi : k < ten60
  few : es.length ≤ 300
section
variable {K : PySem.W.Frag} {H H' : Hp} {t a C : Addr} {xs : List V} {es : List Ev} {e : Ev} {x : V} {k : Int}
theorem EvAt.mono (kp : Kp H H') (h : EvAt H x e) : EvAt H' x e := let ⟨a, q, h⟩ := h; ⟨a, q, kp.1 _ _ h⟩
theorem TupS.mono (kp : Kp H H') (h : TupS K H t xs) : TupS K H' t xs := h.elim (fun h => .inl (kp.1 _ _ h)) .inr
theorem TupS.sq (h : TupS K H t xs) : SqT K H t xs := h.elim SqT.of fun ⟨e, h⟩ => e ▸ (h H).1
theorem TupS.ty (h : TupS K H t xs) : TyX K H (.ref t) (.type "tuple") := h.elim (fun h => .base (.tup h)) fun ⟨_, h⟩ => (h H).2
theorem TupS.isi (h : TupS K H t xs) : Isi K H (.ref t) "tuple" true := isi_ty h.ty (by decide)
theorem Evs.mono (kp : Kp H H') (h : Evs K H t es) : Evs K H' t es := let ⟨xs, h, p⟩ := h; ⟨xs, h.mono kp, Paired.mono (fun _ _ q => q.mono kp) p⟩
theorem TapeAt.mono (kp : Kp H H') (h : TapeAt K C H a es k) : TapeAt K C H' a es k := let ⟨dx, t, h, v⟩ := h; ⟨dx, t, kp.2 _ _ _ _ h, v.mono kp⟩
theorem paired_get {α β : Type} {F : α → β → Prop} : ∀ {l : List α} {r : List β} {i : Nat} {x : α}, Paired F l r → l[i]? = some x → ∃ y, r[i]? = some y ∧ F x y
  | _, _, i, x, .nil, h => by simp at h
  | _, _, 0, x, .cons f p, h => by
    simp at h
    exact ⟨_, rfl, h ▸ f⟩
  | _, _, i + 1, x, .cons f p, h => by
    simp at h
    obtain ⟨y, h1, h2⟩ := paired_get p h
    exact ⟨y, by simpa using h1, h2⟩
theorem paired_getR {α β : Type} {F : α → β → Prop} : ∀ {l : List α} {r : List β} {i : Nat} {y : β}, Paired F l r → r[i]? = some y → ∃ x, l[i]? = some x ∧ F x y
  | _, _, i, x, .nil, h => by simp at h
  | _, _, 0, x, .cons f p, h => by
    simp at h
    exact ⟨_, rfl, h ▸ f⟩
  | _, _, i + 1, x, .cons f p, h => by
    simp at h
    obtain ⟨y, h1, h2⟩ := paired_getR p h
    exact ⟨y, by simpa using h1, h2⟩
theorem paired_of {α β : Type} {F : α → β → Prop} : ∀ {l : List α} {r : List β}, l.length = r.length → (∀ (i : Nat) x y, l[i]? = some x → r[i]? = some y → F x y) → Paired F l r
  | [], [], _, _ => .nil
  | x :: l, y :: r, h, f => .cons (f 0 x y rfl rfl) (paired_of (by simpa using h) fun i a b h1 h2 => f (i + 1) a b (by simpa using h1) (by simpa using h2))
theorem lows_ok {s : Str} (h : ∀ c ∈ s.cps.toList, low c) : PyData.strOk s = true := by
  unfold PyData.strOk
  rw [Array.all_eq_true']
  intro c hc
  have := h c (Array.mem_toList_iff.mpr hc)
  unfold low at this
  simp
  omega
theorem srt_iff : ∀ {es : List Ev}, (∀ (k : Nat) (a b : Ev), es[k]? = some a → es[k + 1]? = some b → a.t ≤ b.t) ↔ es.Pairwise fun a b => a.t ≤ b.t
  | [] => ⟨fun _ => .nil, fun _ k a b h => by simp at h⟩
  | a :: l => by
    rw [List.pairwise_cons, ← srt_iff]
    constructor
    · intro h
      have tl : ∀ (k : Nat) (x y : Ev), l[k]? = some x → l[k + 1]? = some y → x.t ≤ y.t := fun k x y h1 h2 => h (k + 1) x y (by simpa using h1) (by simpa using h2)
      refine ⟨fun b hb => ?_, tl⟩
      cases l with
      | nil => cases hb
      | cons c m =>
        have h0 : a.t ≤ c.t := h 0 a c rfl rfl
        rcases List.mem_cons.mp hb with rfl | hb
        · exact h0
        · have := (List.pairwise_cons.mp (srt_iff.mp tl)).1 b hb
          omega
    · rintro ⟨h1, h2⟩ k x y e1 e2
      cases k with
      | zero =>
        simp at e1 e2
        subst e1
        exact h1 y (List.mem_of_getElem? e2)
      | succ k =>
        simp at e1 e2
        exact h2 k x y e1 e2
theorem Near.dat (n : Near e) : ∀ z ∈ e.vs, Dat noT [] H 600 1 z := by
  intro z hz
  simp only [Ev.vs, List.mem_cons, List.not_mem_nil, or_false] at hz
  obtain ⟨_, ⟨_, l8, lo, _⟩, ll, _⟩ := n
  rcases hz with rfl | rfl | rfl | rfl
  · exact .int _
  · exact .str _ (by omega) (lows_ok lo)
  · refine .str _ (by show 1 ≤ 600; decide) (lows_ok fun c hc => ?_)
    have hc' : c ∈ [e.l] := hc
    rw [List.mem_singleton.mp hc']
    exact ll
  · exact .int _
theorem EvAt.event (h : EvAt H x e) (n : Near e) : IsEvent H x ↔ e.t < ten60 := by
  obtain ⟨a, rfl, h⟩ := h
  obtain ⟨t0, ns, ll, v0, v1⟩ := n
  constructor
  · rintro ⟨b, t, u, l, w, eb, h', ⟨i, rfl, i0, i1⟩, _⟩
    cases eb
    cases tup_same h h'
    exact i1
  · intro t1
    exact ⟨a, _, _, _, _, rfl, h, ⟨e.t, rfl, t0, t1⟩, ⟨e.s, rfl, ns⟩, ⟨e.l, rfl, ll⟩, ⟨e.v, rfl, v0, v1⟩⟩
theorem EvAt.tm (h : EvAt H x e) {i : Int} : Tm H x i ↔ i = e.t := by
  obtain ⟨a, rfl, h⟩ := h
  constructor
  · rintro ⟨b, r, eb, h'⟩
    cases eb
    cases tup_same h h'
    rfl
  · rintro rfl
    exact ⟨a, _, rfl, h⟩
theorem row_iff (p : Paired (EvAt H) xs es) (n : ∀ e ∈ es, Near e) : RowOf H xs ↔ RowOk es := by
  unfold RowOf RowOk
  rw [← srt_iff]
  constructor
  · rintro ⟨h1, h2⟩
    refine ⟨fun e he => ?_, fun k a b e1 e2 => ?_⟩
    · obtain ⟨i, hi⟩ := List.getElem?_of_mem he
      obtain ⟨x, hx, q⟩ := paired_getR p hi
      exact (q.event (n e he)).mp (h1 x (List.mem_of_getElem? hx))
    · obtain ⟨x, hx, q⟩ := paired_getR p e1
      obtain ⟨y, hy, r⟩ := paired_getR p e2
      exact h2 k x y _ _ hx hy (q.tm.mpr rfl) (r.tm.mpr rfl)
  · rintro ⟨h1, h2⟩
    refine ⟨fun x hx => ?_, fun k x y i j e1 e2 t1 t2 => ?_⟩
    · obtain ⟨i, hi⟩ := List.getElem?_of_mem hx
      obtain ⟨e, he, q⟩ := paired_get p hi
      have me := List.mem_of_getElem? he
      exact (q.event (n e me)).mpr (h1 e me)
    · obtain ⟨e, he, q⟩ := paired_get p e1
      obtain ⟨f, hf, r⟩ := paired_get p e2
      rw [q.tm.mp t1, r.tm.mp t2]
      exact h2 k e f he hf
end
/-- the promise of is_row_of_events for tuples of events, whatever their times -/
def spRowE (K : PySem.W.Frag) : Sp := fun vs H Q _ => ∃ (t : Addr) (es : List Ev), vs = [.ref t] ∧ Evs K H t es ∧ (∀ e ∈ es, Near e) ∧ es.length ≤ 600 ∧ ∀ H' b, Same H H' → (b = true ↔ RowOk es) → Q (.bl b) H'
theorem row_imp {K : PySem.W.Frag} (vs : List V) (H : Hp) (Q : VK) (E : XK) (h : spRowE K vs H Q E) : spRow K noT vs H Q E := by
  obtain ⟨t, es, rfl, ⟨xs, ts, p⟩, n, l, k⟩ := h
  refine ⟨.ref t, [], H, 600, 2, some xs, rfl, Ob.refl _ _, by decide, ⟨t, rfl, by rw [p.length]; exact l, fun x hx => ?_, fun H' s => ?_⟩, fun H' b s hb => k H' b s (hb.trans ?_)⟩
  · obtain ⟨i, hi⟩ := List.getElem?_of_mem hx
    obtain ⟨e, he, a, rfl, h⟩ := paired_get p hi
    exact .tup (by simp) h (by show 4 ≤ 600; decide) (n e (List.mem_of_getElem? he)).dat
  · have := ts.mono (Kp.of s)
    exact ⟨this.isi, this.sq⟩
  · rw [← row_iff p n]
    exact ⟨fun ⟨ys, e, r⟩ => by cases e; exact r, fun r => ⟨xs, rfl, r⟩⟩
/-! ### integers -/
def IntV (K : PySem.W.Frag) (H : Hp) (v : V) : Prop := (∃ i, v = .int i) ∨ ((∀ i, v ≠ .int i) ∧ ((Isi K H v "int" true ∧ Isi K H v "bool" true) ∨ Isi K H v "int" false))
def spInt (K : PySem.W.Frag) : Sp := fun vs H Q _ => ∃ v : V, vs = [v] ∧ IntV K H v ∧ ∀ b, (b = true ↔ IsInt v) → Q (.bl b) H
def Btw (v : V) (lo hi : Int) : Prop := ∃ i, v = .int i ∧ -ten60 < i ∧ i < ten60 ∧ lo ≤ i ∧ i ≤ hi
def spBet (K : PySem.W.Frag) : Sp := fun vs H Q _ => ∃ (v : V) (lo hi : Int), vs = [v, .int lo, .int hi] ∧ IntV K H v ∧ ∀ b, (b = true ↔ Btw v lo hi) → Q (.bl b) H
section
variable {P : Program} {w : World} {K : PySem.W.Frag} {mg : Str → Option Value} {base : Heap} {fI fL fN fE fR C CIT f1 f2 : Addr}
theorem ok_int {f : Addr} {fd : FuncData} (F : Fun K "is_integer" "is_integer" sIsInteger f fd) (X : WTxt mg fI fL) : FnOk P w K mg base CX0 1 f fd ["value"] (spInt K) := by
  refine F.ok scIsInteger (fun vs H Q E h => ?_) (fun cdv A outer s H vs Q E hr h => ?_)
  · obtain ⟨v, rfl, _⟩ := h
    rfl
  · obtain ⟨v, rfl, iv, k⟩ := h
    refine ⟨_, pss_one (ps_ret (pe_and (pe_isi (N := "int") (pv 0) X.isin X.int) (pe_and (pe_not (pe_isi (N := "bool") (pv 0) X.isin X.bool)) (pe_one (pe_chain op_lt op_lt (pe_un un_neg (pe_gcon rfl X.ie)) (pv 0) (pe_gcon rfl X.ie)))))), ?_⟩
    have no : (∀ i, v ≠ .int i) → (false = true ↔ IsInt v) := fun h => nay fun ⟨i, e, _⟩ => h i e
    rcases iv with ⟨i, rfl⟩ | ⟨ni, ⟨i1, i2⟩ | i1⟩
    · refine ⟨_, rfl, true, isi_ty (.base (.int i)) (by decide), _, rfl, iteT ⟨_, rfl, false, isi_ty (.base (.int i)) (by decide), _, rfl, _, rfl, iteT ⟨_, rfl, _, rfl, _, _, rfl, rfl, _, rfl, ?_⟩⟩⟩
      refine ite2 (fun c => ?_) (fun c => ?_)
      · refine ⟨_, _, rfl, rfl, k _ ?_⟩
        rw [decide_eq_true_iff]
        exact ⟨fun h => ⟨i, rfl, of_decide_eq_true c, h⟩, fun ⟨j, e, _, h⟩ => by cases e; exact h⟩
      · refine k _ (nay fun ⟨j, e, h, _⟩ => ?_)
        cases e
        exact (c (decide_eq_true h)).elim
    · exact ⟨_, rfl, _, i1, _, rfl, iteT ⟨_, rfl, _, i2, _, rfl, _, rfl, iteF (k _ (no ni))⟩⟩
    · exact ⟨_, rfl, _, i1, _, rfl, iteF (k _ (no ni))⟩
theorem scBetween : FnScope ["value", "least", "most"] ["value", "least", "most"] (defScope sIsBetween) := ⟨rfl, rfl, rfl, by decide +kernel, rfl, by decide +kernel, by decide +kernel⟩
theorem ok_bet {f : Addr} {fd fdI : FuncData} (F : Fun K "is_between" "is_between" sIsBetween f fd) (X : WTxt mg fI fL) (FI : Fun K "is_integer" "is_integer" sIsInteger fI fdI) (bI : Binds K fdI ["value"] []) :
    FnOk P w K mg base CX0 2 f fd ["value", "least", "most"] (spBet K) := by
  have GI : FnOk P w K mg base CX0 1 fI fdI ["value"] (spInt K) := ok_int FI X
  refine F.ok scBetween (fun vs H Q E h => ?_) (fun cdv A outer s H vs Q E hr h => ?_)
  · obtain ⟨v, lo, hi, rfl, _⟩ := h
    rfl
  · obtain ⟨v, lo, hi, rfl, iv, k⟩ := h
    refine ⟨_, pss_one (ps_ret (pe_and (pe_call GI hr rfl X.fi FI.kp bI .nil pass0 (pa_cons (pv 0) pa_nil)) (pe_one (pe_chain op_le op_le (pv 1) (pv 0) (pv 2))))), ?_⟩
    refine ⟨_, rfl, v, rfl, iv, fun b hb => ⟨b, rfl, ?_⟩⟩
    cases b with
    | false => exact iteF (k _ (nay fun ⟨i, e, h1, h2, _⟩ => Bool.noConfusion (hb.mpr ⟨i, e, h1, h2⟩)))
    | true =>
      obtain ⟨i, rfl, h1, h2⟩ := hb.mp rfl
      refine iteT ⟨_, rfl, _, rfl, _, _, rfl, rfl, _, rfl, ?_⟩
      refine ite2 (fun c => ?_) (fun c => ?_)
      · refine ⟨_, rfl, _, _, rfl, rfl, k _ ?_⟩
        rw [decide_eq_true_iff]
        exact ⟨fun q => ⟨i, rfl, h1, h2, of_decide_eq_true c, q⟩, fun ⟨j, e, _, _, _, q⟩ => by cases e; exact q⟩
      · refine k _ (nay fun ⟨j, e, _, _, q, _⟩ => c ?_)
        cases e
        exact decide_eq_true q
/-! ### a new tape -/
def spInitT (K : PySem.W.Frag) (C CIT : Addr) : Sp := fun vs H Q E => ∃ (p dx t : Addr) (es : List Ev) (lv : V), vs = [.ref p, .ref t, lv] ∧ H p = some (.ins C dx []) ∧ Evs K H t es ∧ (∀ e ∈ es, Near e) ∧ es.length ≤ 600 ∧ (lv = .non ∨ ∃ k, lv = .int k) ∧
  (∀ k H', RowOk es → (lv = .non ∧ k = lastOf es ∨ lv = .int k ∧ lastOf es ≤ k ∧ k < ten60) → (∀ b o, b ≠ p → H b = some o → H' b = some o) → H' p = some (.ins C dx (tf t k)) → Q .non H') ∧
  (∀ H', Same H H' → ¬ (RowOk es ∧ (lv = .non ∨ ∃ k, lv = .int k ∧ lastOf es ≤ k ∧ k < ten60)) → E (.ref CIT) none H')
/-- an own error without an __init__ of its own -/
structure ErrT (K : PySem.W.Frag) (mg : Str → Option Value) (x : Str) (C : Addr) : Prop where
  g : mg x = some (.ref C)
  x : PySem.W.excIn K C [.type "ValueError", .type "Exception", .type "BaseException", .type "object"] "ValueError.__new__" = true
  k : PySem.W.keepIn K (.ref C) = true
  b : PySem.W.subIn K (.ref C) (.type "BaseException") = some true
  t : PySem.W.typeIn K (.ref C) = some (.type "type")
theorem lastOf_nonneg {es : List Ev} (n : ∀ e ∈ es, Near e) : 0 ≤ lastOf es := by
  unfold lastOf
  cases h : es.getLast? with
  | none => exact Int.le_refl _
  | some e => exact (n e (List.mem_of_getLast? h)).1
theorem ok_init {f : Addr} {fd fdR fdI : FuncData} {dvs : List V} {kws : List (Str × V)} (F : FunD K "__init__" "Tape.__init__" (defArgs cTape_init) (defBody cTape_init) (defScope cTape_init) dvs kws f fd) (Y : TpTxt K mg C f1 f2) (X : WTxt mg fI fL)
    (T : ErrT K mg "InvalidTape" CIT) (mR : mg "is_row_of_events" = some (.ref fR)) (kR : PySem.W.keepIn K (.ref fR) = true) (bR : Binds K fdR ["value"] []) (GR : FnOk P w K mg base CX0 4 fR fdR ["value"] (spRow K noT))
    (FI : Fun K "is_integer" "is_integer" sIsInteger fI fdI) (bI : Binds K fdI ["value"] []) :
    FnOk P w K mg base (L2.CX P w) 5 f fd ["self", "events", "last"] (spInitT K C CIT) := by
  have GI : FnOk P w K mg base CX0 1 fI fdI ["value"] (spInt K) := ok_int FI X
  have GE : FnOk P w K mg base CX0 4 fR fdR ["value"] (spRowE K) := GR.imp row_imp
  refine F.ok scInit (fun vs H Q E h => ?_) (fun cdv A outer s H vs Q E hr h => ?_)
  · obtain ⟨p, dx, t, es, lv, rfl, _⟩ := h
    rfl
  · obtain ⟨p, dx, t, es, lv, rfl, hp, ev, near, few, lvs, k, no⟩ := h
    have hr1 : Room 1 _ := hr.mono (by decide)
    refine ⟨_, pss_cons (ps_if (pt_not (pt_val (pe_call GE hr rfl mR kR bR .nil pass0 (pa_cons (pv 1) pa_nil)))) (pss_one (ps_raise rfl (takes_of rfl rfl rfl rfl) (pmk_own PySem.F.excBase_ValueError T.x T.g T.k (raises_own T.b T.t) rfl))) pss_nil)
      (pss_cons (ps_set (i := 3) scInit.nd rfl (Or.inl rfl) (pe_ifExp (pt_cmpR op_gt (pe_callB call_len_seq (by rfl) X.len PySem.boot_len (pa_cons (pv 1) pa_nil)) pe_int (nomark _))
          (pe_ix (r := rIxT K) ix_tup (pe_ix (r := rIxT K) ix_tup (pv 1) (pe_un un_neg pe_int) (fun _ _ => rfl)) pe_int (fun _ _ => rfl)) pe_int))
      (pss_cons (ps_if (PW.pt (pw_and (pt_cmp (pc_notN (pv 2)) rfl) (pw_and1 (PW.pt (pw_or (pt_not (pt_val (pe_call GI hr1 rfl X.fi FI.kp bI .nil pass0 (pa_cons (pv 2) pa_nil)))) (pw_or1 (pt_cmpR op_lt (pv 2) (pv 3) (nomark _)))))))) (pss_one (ps_raise rfl (takes_of rfl rfl rfl rfl) (pmk_own PySem.F.excBase_ValueError T.x T.g T.k (raises_own T.b T.t) rfl))) pss_nil)
      (pss_cons (ps_fld (pv 0) (pv 1) rfl)
      (pss_one (ps_fld (pv 0) (pe_ifExp (pt_cmp (pc_isN (pv 2)) rfl) (pv 3) (pv 2)) rfl))))), ?_⟩
    refine ⟨_, rfl, t, es, rfl, ev, near, few, fun H1 b s1 hb => ⟨b, rfl, ?_⟩⟩
    cases b with
    | false => exact iteT (no H1 s1 fun q => Bool.noConfusion (hb.mpr q.1))
    | true =>
      have row := hb.mp rfl
      obtain ⟨xs, ts, pr⟩ := ev.mono (Kp.of s1)
      have lx : xs.length = es.length := pr.length
      refine iteF ⟨_, rfl, t, xs, rfl, .inr ts.sq, _, _, rfl, rfl, _, rfl, ?_⟩


      have hp1 := s1 _ _ hp
      have done : ∀ i : Int, (lv = .non ∧ i = lastOf es ∨ lv = .int i ∧ lastOf es ≤ i ∧ i < ten60) → Q .non (upd (upd H1 p (.ins C dx (putF "_events" (.ref t) []))) p (.ins C dx (tf t i))) := fun i hi => by
        refine k i _ row hi (fun b o nb e => ?_) upd_same
        rw [upd_ne nb, upd_ne nb]
        exact s1 _ _ e
      have l0 := lastOf_nonneg near
      refine ite2 (fun c => ?_) (fun c => ?_)
      · have c' : 0 < es.length := by
          have := of_decide_eq_true c
          omega
        obtain ⟨ws, y, ew⟩ : ∃ ws y, es = ws ++ [y] := ⟨es.dropLast, es.getLast (fun q => by rw [q] at c'; cases c'), (List.dropLast_concat_getLast _).symm⟩
        have lw : es.length = ws.length + 1 := by rw [ew]; simp
        have ly : es[ws.length]? = some y := by rw [ew]; simp
        have el : y.t = lastOf es := by rw [ew]; simp [lastOf]
        obtain ⟨x, hx, a1, rfl, q1⟩ := paired_getR pr ly
        have q : atI xs (-1) = some (.ref a1) := by
          unfold atI ixN
          rw [if_neg (by decide), if_pos (by omega)]
          show xs[((xs.length : Int) + -1).toNat]? = _
          rw [show ((xs.length : Int) + -1).toNat = ws.length by omega]
          exact hx
        refine ⟨_, rfl, _, rfl, t, xs, -1, _, rfl, rfl, ts.sq, q, a1, _, _, _, rfl, rfl, SqT.of q1, atI_nat (j := 0) rfl, ?_⟩
        rcases lvs with rfl | ⟨kk, rfl⟩
        · refine ⟨_, rfl, _, rfl, iteF ?_⟩
          exact ⟨_, rfl, _, rfl, p, C, dx, _, rfl, hp1, Y.cl, Y.nE, (by show 0 < 1000; decide), _, rfl, _, rfl, iteT ⟨_, rfl, _, rfl, p, C, dx, _, rfl, upd_same, Y.cl, Y.nL, (by show 1 < 1000; decide), done y.t (.inl ⟨rfl, el⟩)⟩⟩
        · refine ⟨_, rfl, _, rfl, iteT ⟨_, rfl, _, rfl, .inl ⟨kk, rfl⟩, fun b hb => ⟨b, rfl, ?_⟩⟩⟩
          cases b with
          | false =>
            refine iteT (no H1 s1 fun ⟨_, z⟩ => ?_)
            rcases z with z | ⟨k', z, h1, h2⟩
            · cases z
            · cases z
              exact Bool.noConfusion (hb.mpr ⟨kk, rfl, by omega, h2⟩)
          | true =>
            obtain ⟨j, ej, j1, j2⟩ := hb.mp rfl
            cases ej
            refine iteF ⟨_, rfl, _, rfl, _, _, rfl, rfl, _, rfl, ?_⟩
            refine ite2 (fun c2 => ?_) (fun c2 => ?_)
            · have c3 : kk < y.t := of_decide_eq_true c2
              refine no H1 s1 fun ⟨_, z⟩ => ?_
              rcases z with z | ⟨k', z, h1, h2⟩
              · cases z
              · cases z
                omega
            · have c3 : ¬ kk < y.t := fun h => c2 (decide_eq_true h)
              exact ⟨_, rfl, _, rfl, p, C, dx, _, rfl, hp1, Y.cl, Y.nE, (by show 0 < 1000; decide), _, rfl, _, rfl, iteF ⟨_, rfl, _, rfl, p, C, dx, _, rfl, upd_same, Y.cl, Y.nL, (by show 1 < 1000; decide), done kk (.inr ⟨rfl, by omega, j2⟩)⟩⟩
      · have e0 : es = [] := by
          cases es with
          | nil => rfl
          | cons a l =>
            refine (c (decide_eq_true ?_)).elim
            rw [lx]
            show (0 : Int) < ((l.length + 1 : Nat) : Int)
            omega
        have el : (0 : Int) = lastOf es := by rw [e0]; rfl
        rcases lvs with rfl | ⟨kk, rfl⟩
        · refine ⟨_, rfl, _, rfl, iteF ?_⟩
          exact ⟨_, rfl, _, rfl, p, C, dx, _, rfl, hp1, Y.cl, Y.nE, (by show 0 < 1000; decide), _, rfl, _, rfl, iteT ⟨_, rfl, _, rfl, p, C, dx, _, rfl, upd_same, Y.cl, Y.nL, (by show 1 < 1000; decide), done 0 (.inl ⟨rfl, el⟩)⟩⟩
        · refine ⟨_, rfl, _, rfl, iteT ⟨_, rfl, _, rfl, .inl ⟨kk, rfl⟩, fun b hb => ⟨b, rfl, ?_⟩⟩⟩
          cases b with
          | false =>
            refine iteT (no H1 s1 fun ⟨_, z⟩ => ?_)
            rcases z with z | ⟨k', z, h1, h2⟩
            · cases z
            · cases z
              exact Bool.noConfusion (hb.mpr ⟨kk, rfl, by omega, h2⟩)
          | true =>
            obtain ⟨j, ej, j1, j2⟩ := hb.mp rfl
            cases ej
            refine iteF ⟨_, rfl, _, rfl, _, _, rfl, rfl, _, rfl, ?_⟩
            refine ite2 (fun c2 => ?_) (fun c2 => ?_)
            · have c3 : kk < 0 := of_decide_eq_true c2
              refine no H1 s1 fun ⟨_, z⟩ => ?_
              rcases z with z | ⟨k', z, h1, h2⟩
              · cases z
              · cases z
                omega
            · have c3 : ¬ kk < 0 := fun h => c2 (decide_eq_true h)
              exact ⟨_, rfl, _, rfl, p, C, dx, _, rfl, hp1, Y.cl, Y.nE, (by show 0 < 1000; decide), _, rfl, _, rfl, iteF ⟨_, rfl, _, rfl, p, C, dx, _, rfl, upd_same, Y.cl, Y.nL, (by show 1 < 1000; decide), done kk (.inr ⟨rfl, by omega, j2⟩)⟩⟩
end
end Wd

set_option Elab.async false
set_option linter.all false
set_option maxRecDepth 100000
set_option maxHeartbeats 4000000
namespace Wd
open PySem PySem.Spec PyProof.Rows L2
theorem kp_lst {H : Hp} {D : Addr} {xs ys : List V} (h : H D = some (.lst xs)) : Kp H (upd H D (.lst ys)) := by
  refine ⟨fun a zs e => ?_, fun a C dx fs e => ?_⟩ <;>
  · rw [upd_ne fun q => by rw [q, h] at e; cases e]
    exact e
/-- a list of what is kept of a walk -/
theorem lc_keep {J : It} {n : Nat} {G : Hp → Prop} {Y : Nat → Hp → V → Hp → Prop} (w : Walk J n G Y) (c : Nat → Bool) (R : Nat → Hp → V → Prop) (hR : ∀ i H H' y, Kp H H' → R i H y → R i H' y) {g : TG} {te : TE} {tt : TT} {vs : List Nat} {σ : L2.St} {H1 : Hp} {D : Addr} {Qd : Hp → Prop}
    (hD : H1 D = none) (hn : n ≤ 1000) (hG : ∀ H, Same H1 H → G H)
    (hs : ∀ i x H H' (kT : VK) (kF : Hp → Prop), i < n → Same H1 H → Y i H x H' → (c i = true → ∀ y H4, Same H H4 → R i H4 y → kT y H4) → (c i = false → ∀ H3, Same H H3 → kF H3) →
      g x (wipe σ vs) H' fun σ2 H2 => wipe σ2 vs = wipe σ vs ∧ tt σ2 H2 fun b H3 => if b = true then te σ2 H3 kT else kF H3)
    (hd : ∀ H ys, Same H1 H → H D = some (.lst ys) → ys.length ≤ n → Paired (fun y i => R i H y) ys ((List.range n).filter c) → Qd H) :
    ∃ W : Nat → Nat → Hp → Prop, (∃ m, W 0 m (upd H1 D (.lst []))) ∧ ∀ i m H, W i m H →
      (J.stop i H ∧ Qd H) ∨ (J.go i H ∧ ∃ Nx : Hp → Prop, (∀ H', Nx H' → ∃ m', m' < m ∧ W (i + 1) m' H') ∧ ∀ x H', J.yld i H x H' → g x (wipe σ vs) H' fun σ2 H2 => wipe σ2 vs = wipe σ vs ∧ tt σ2 H2 fun b H3 =>
        if b = true then te σ2 H3 fun y H4 => ∃ acc, H4 D = some (.lst acc) ∧ acc.length < sizeLine ∧ Nx (upd H4 D (.lst (acc ++ [y]))) else Nx H3) := by
  have past : ∀ {H : Hp} {o : HO}, Same H1 H → Same H1 (upd H D o) := fun s b u e => by
    rw [upd_ne (ne_of_none e hD)]
    exact s _ _ e
  refine lc_it w (fun i H => Same H1 H ∧ ∃ ys, H D = some (.lst ys) ∧ ys.length ≤ i ∧ Paired (fun y j => R j H y) ys ((List.range i).filter c)) ⟨past (Same.refl _), [], upd_same, Nat.zero_le _, .nil⟩ (fun i H _ ⟨s, _⟩ => hG H s) ?_
    (fun H ⟨s, ys, d, l, p⟩ => hd H ys s d l p)
  rintro i x H H' hi ⟨s, ys, d, l, p⟩ y
  refine hs i x H H' _ _ hi s y (fun ci z H4 s4 r => ⟨ys, s4 _ _ d, small1000 (by omega), past (s.trans s4), ys ++ [z], upd_same, by simp; omega, ?_⟩) fun ci H3 s3 => ⟨s.trans s3, ys, s3 _ _ d, by omega, ?_⟩
  · have kp : Kp H4 (upd H4 D (.lst (ys ++ [z]))) := kp_lst (s4 _ _ d)
    rw [List.range_succ, List.filter_append, show List.filter c [i] = [i] by simp [ci]]
    exact Paired.snoc (Paired.mono (fun a j q => hR j _ _ a ((Kp.of s4).trans kp) q) p) (hR i _ _ z kp r)
  · rw [List.range_succ, List.filter_append, show List.filter c [i] = [] by simp [ci], List.append_nil]
    exact Paired.mono (fun a j q => hR j _ _ a (Kp.of s3) q) p
/-- .. of all of it -/
theorem lc_each {J : It} {n : Nat} {G : Hp → Prop} {Y : Nat → Hp → V → Hp → Prop} (w : Walk J n G Y) (R : Nat → Hp → V → Prop) (hR : ∀ i H H' y, Kp H H' → R i H y → R i H' y) {g : TG} {te : TE} {vs : List Nat} {σ : L2.St} {H1 : Hp} {D : Addr} {Qd : Hp → Prop}
    (hD : H1 D = none) (hn : n ≤ 1000) (hG : ∀ H, Same H1 H → G H)
    (hs : ∀ i x H H' (kT : VK), i < n → Same H1 H → Y i H x H' → (∀ y H4, Same H H4 → R i H4 y → kT y H4) → g x (wipe σ vs) H' fun σ2 H2 => wipe σ2 vs = wipe σ vs ∧ te σ2 H2 kT)
    (hd : ∀ H ys, Same H1 H → H D = some (.lst ys) → ys.length = n → (∀ (i : Nat) y, ys[i]? = some y → R i H y) → Qd H) :
    ∃ W : Nat → Nat → Hp → Prop, (∃ m, W 0 m (upd H1 D (.lst []))) ∧ ∀ i m H, W i m H →
      (J.stop i H ∧ Qd H) ∨ (J.go i H ∧ ∃ Nx : Hp → Prop, (∀ H', Nx H' → ∃ m', m' < m ∧ W (i + 1) m' H') ∧ ∀ x H', J.yld i H x H' → g x (wipe σ vs) H' fun σ2 H2 => wipe σ2 vs = wipe σ vs ∧ tYes σ2 H2 fun b H3 =>
        if b = true then te σ2 H3 fun y H4 => ∃ acc, H4 D = some (.lst acc) ∧ acc.length < sizeLine ∧ Nx (upd H4 D (.lst (acc ++ [y]))) else Nx H3) := by
  refine lc_keep w (fun _ => true) R hR hD hn hG (fun i x H H' kT kF hi s y h _ => hs i x H H' kT hi s y (h rfl)) fun H ys s d _ p => ?_
  rw [show (List.range n).filter (fun _ => true) = List.range n by simp] at p
  refine hd H ys s d (by rw [p.length]; simp) fun i y e => ?_
  obtain ⟨j, e2, r⟩ := paired_get p e
  rw [List.getElem?_range] at e2
  · cases e2
    exact r
  · have := (List.getElem?_eq_some_iff.mp e2).1
    simpa using this
end Wd

set_option Elab.async false
set_option linter.all false
set_option maxRecDepth 100000
set_option maxHeartbeats 4000000
/-! the methods of tapes -/
namespace Wd
open PySem PySem.Spec PyProof.Rows L2
/-! ### == of events as data -/
def evD (e : Ev) : PyData := .tuple [.int e.t, .str e.s, .str ⟨#[e.l]⟩, .int e.v]
theorem dp_ev {K : PySem.W.Frag} {H : Hp} {x : V} {e : Ev} (h : EvAt H x e) : Dp K H x (evD e) := by
  obtain ⟨a, rfl, h⟩ := h
  exact .tup (SqT.of h) (.cons (.int _) (.cons (.str _) (.cons (.str _) (.cons (.int _) .nil))))
theorem dp_evs {K : PySem.W.Frag} {H : Hp} : ∀ {xs : List V} {es : List Ev}, Paired (EvAt H) xs es → DpAll K H xs (es.map evD)
  | _, _, .nil => .nil
  | _, _, .cons h p => .cons (dp_ev h) (dp_evs p)
theorem sign_ok {c : Nat} (h : low c) : PyData.strOk ⟨#[c]⟩ = true := lows_ok fun d hd => by
  have hd' : d ∈ [c] := hd
  rw [List.mem_singleton.mp hd']
  exact h
theorem lay_evs : ∀ {es : List Ev}, (∀ e ∈ es, Near e) → PyData.canLayAll0 (es.map evD) = true ∧ PyData.depthAll (es.map evD) ≤ 1
  | [], _ => ⟨rfl, Nat.zero_le _⟩
  | e :: l, h => by
    obtain ⟨h1, h2⟩ := lay_evs (es := l) fun x hx => h x (List.mem_cons_of_mem _ hx)
    obtain ⟨_, ⟨_, _, lo, _⟩, ll, _⟩ := h e (List.mem_cons_self ..)
    constructor
    · show ((true && (PyData.strOk e.s && (PyData.strOk ⟨#[e.l]⟩ && (true && true)))) && PyData.canLayAll0 (l.map evD)) = true
      rw [h1, lows_ok lo, sign_ok ll]
      rfl
    · show max (max 0 (max 0 (max 0 (max 0 0))) + 1) (PyData.depthAll (l.map evD)) ≤ 1
      omega
theorem shaped_evs {es : List Ev} (h : ∀ e ∈ es, Near e) : SeqAt.shaped (.tuple (es.map evD)) = true := by
  obtain ⟨h1, h2⟩ := lay_evs h
  unfold SeqAt.shaped
  rw [Bool.and_eq_true]
  exact ⟨h1, decide_eq_true (by show PyData.depthAll _ + 1 ≤ 64; omega)⟩
theorem evD_iff {e f : Ev} : PyData.eqv (evD e) (evD f) = true ↔ e = f := by
  show ((e.t == f.t) && ((e.s == f.s) && (((⟨#[e.l]⟩ : Str) == ⟨#[f.l]⟩) && ((e.v == f.v) && true)))) = true ↔ _
  simp only [Bool.and_eq_true, beq_iff_eq, Bool.and_true]
  constructor
  · rintro ⟨h1, h2, h3, h4⟩
    cases e
    cases f
    simp only at h1 h2 h3 h4
    subst h1 h2 h4
    injection h3 with h3
    simp at h3
    rw [h3]
  · rintro rfl
    exact ⟨rfl, rfl, rfl, rfl⟩
theorem evsD_iff : ∀ {es fs : List Ev}, PyData.eqvAll (es.map evD) (fs.map evD) = true ↔ es = fs
  | [], [] => ⟨fun _ => rfl, fun _ => rfl⟩
  | [], f :: fs => ⟨fun h => (nomatch h), fun h => (nomatch h)⟩
  | e :: es, [] => ⟨fun h => (nomatch h), fun h => (nomatch h)⟩
  | e :: es, f :: fs => by
    show (PyData.eqv (evD e) (evD f) && PyData.eqvAll (es.map evD) (fs.map evD)) = true ↔ _
    rw [Bool.and_eq_true, evD_iff, evsD_iff, List.cons.injEq]
/-! ### promises -/
def spLenT (K : PySem.W.Frag) (C : Addr) : Sp := fun vs H Q _ => ∃ a es k, vs = [.ref a] ∧ TapeAt K C H a es k ∧ Q (.int es.length) H
def spItemT (K : PySem.W.Frag) (C : Addr) : Sp := fun vs H Q _ => ∃ a es k, ∃ i : Nat, ∃ e, vs = [.ref a, .int i] ∧ TapeAt K C H a es k ∧ es.length ≤ 600 ∧ es[i]? = some e ∧ ∀ x, EvAt H x e → Q x H
def spEqT (K : PySem.W.Frag) (C : Addr) : Sp := fun vs H Q _ => ∃ a b es fs k j, vs = [.ref a, .ref b] ∧ TapeAt K C H a es k ∧ TapeAt K C H b fs j ∧ (∀ e ∈ es, Near e) ∧ (∀ e ∈ fs, Near e) ∧ ∀ r, (r = true ↔ es = fs ∧ k = j) → Q (.bl r) H
/-- what the makers of tapes ask -/
structure TNew (P : Program) (w : World) (K : PySem.W.Frag) (mg : Str → Option Value) (base : Heap) (C CIT f1 f2 t0 : Addr) (fdN : FuncData) : Prop where
  y : TpTxt K mg C f1 f2
  g : FnOk P w K mg base (L2.CX P w) 5 f1 fdN ["self", "events", "last"] (spInitT K C CIT)
  k2 : ∃ g, KBn K fdN ["self", "events", "last"] 2 ["last"] g fun vs zs => vs ++ zs
  k1 : ∃ g, KBn K fdN ["self", "events", "last"] 1 ["last"] g fun vs zs => vs ++ (.ref t0 :: zs)
  b0 : ∃ ds, Vals [.ref t0, .non] ds ∧ Binds K fdN ["self", "events", "last"] ds
  z : ∀ H', SqT K H' t0 [] ∧ TyX K H' (.ref t0) (.type "tuple")
/-- an own error that keeps its one argument -/
structure ErrE (P : Program) (w : World) (K : PySem.W.Frag) (mg : Str → Option Value) (base : Heap) (x f : Str) (C : Addr) (BN BI initId newId : String) (bN bmB : List Value) (ps : List Str) : Prop where
  g : mg x = some (.ref C)
  FN : ExcBaseFacts BN newId initId bN
  U : Ek.Above bmB BN BI
  T : Ek.EC K C bmB newId
  b : PySem.W.subIn K (.ref C) (.type "BaseException") = some true
  t : PySem.W.typeIn K (.ref C) = some (.type "type")
  i : ∃ fI fd, PySem.W.findIn K (.ref C) "__init__" = some (some (.ref fI)) ∧ PySem.W.typeIn K (.ref fI) = some (.type "function") ∧ FnOk P w K mg base CX0 1 fI fd ps (Ek.spInitX C f) ∧ Binds K fd ps []
/-- what an error told under E: its own dict holds the value -/
def Told (E : XK) (H : Hp) (C : Addr) (f : Str) (y : V) : Prop := ∀ d H', H d = none → Same H H' → H' d = some (.xd [(f, y)]) → E (.ref C) (some d) H'
section
variable {P : Program} {w : World} {K : PySem.W.Frag} {mg : Str → Option Value} {base : Heap} {fI fL fB C CIT CIN CIO CUI f1 f2 t0 : Addr}
theorem scLen : FnScope ["self"] ["self"] (defScope cTape_len) := ⟨rfl, rfl, rfl, by decide +kernel, rfl, by decide +kernel, by decide +kernel⟩
theorem ok_len {f : Addr} {fd : FuncData} (F : Fun K "__len__" "Tape.__len__" cTape_len f fd) (Y : TpTxt K mg C f1 f2) (ml : mg "len" = none) : FnOk P w K mg base CX0 1 f fd ["self"] (spLenT K C) := by
  refine F.ok scLen (fun vs H Q E h => ?_) (fun cdv A outer s H vs Q E hr h => ?_)
  · obtain ⟨a, es, k, rfl, _⟩ := h
    rfl
  · obtain ⟨a, es, k, rfl, ⟨dx, t, ha, xs, ts, p⟩, q⟩ := h
    refine ⟨_, pss_one (ps_ret (pe_callB call_len_seq (by rfl) ml PySem.boot_len (pa_cons (pe_fld (pv 0) rfl) pa_nil))), ?_⟩
    refine ⟨_, rfl, a, C, dx, _, _, rfl, ha, Y.cl, Y.nE, tf_events t k, t, xs, rfl, .inr ts.sq, ?_⟩
    rw [p.length]
    exact q
theorem scItem : FnScope ["self", "index"] ["self", "index"] (defScope cTape_getitem) := ⟨rfl, rfl, rfl, by decide +kernel, rfl, by decide +kernel, by decide +kernel⟩
theorem ok_item {f : Addr} {fd fdB : FuncData} (F : Fun K "__getitem__" "Tape.__getitem__" cTape_getitem f fd) (Y : TpTxt K mg C f1 f2) (ml : mg "len" = none) (mB : mg "is_between" = some (.ref fB)) (kB : PySem.W.keepIn K (.ref fB) = true) (bB : Binds K fdB ["value", "least", "most"] [])
    (GB : FnOk P w K mg base CX0 2 fB fdB ["value", "least", "most"] (spBet K)) : FnOk P w K mg base CX0 3 f fd ["self", "index"] (spItemT K C) := by
  refine F.ok scItem (fun vs H Q E h => ?_) (fun cdv A outer s H vs Q E hr h => ?_)
  · obtain ⟨a, es, k, i, e, rfl, _⟩ := h
    rfl
  · obtain ⟨a, es, k, i, e, rfl, ⟨dx, t, ha, xs, ts, p⟩, few, he, q⟩ := h
    refine ⟨_, PSs.nox (pss_cons (ps_if (pt_not (pt_val (pe_call GB hr rfl mB kB bB .nil pass0 (pa_cons (pv 1) (pa_cons pe_int (pa_cons (pe_op op_sub (pe_callB call_len_seq (by rfl) ml PySem.boot_len (pa_cons (pe_fld (pv 0) rfl) pa_nil)) pe_int) pa_nil)))))) (pss_one ps_never) pss_nil)
      (pss_one (ps_ret (pe_ix (r := rIxT K) ix_tup (pe_fld (pv 0) rfl) (pv 1) (fun _ _ => rfl))))), ?_⟩
    have hi := (List.getElem?_eq_some_iff.mp he).1
    have pl := p.length
    refine ⟨_, rfl, _, rfl, a, C, dx, _, _, rfl, ha, Y.cl, Y.nE, tf_events t k, t, xs, rfl, .inr ts.sq, _, _, rfl, rfl, ?_⟩
    refine ⟨.int i, _, _, rfl, .inl ⟨_, rfl⟩, fun b hb => ⟨b, rfl, ?_⟩⟩
    have i60 : (i : Int) < ten60 := Int.lt_trans (by omega : (i : Int) < 1000) (by decide +kernel)
    obtain rfl : b = true := hb.mpr ⟨i, rfl, Int.lt_of_lt_of_le (by decide +kernel : -ten60 < 0) (by omega), i60, by omega, by omega⟩
    obtain ⟨x, hx, r⟩ := paired_getR p he
    exact iteF ⟨_, rfl, a, C, dx, _, _, rfl, ha, Y.cl, Y.nE, tf_events t k, _, rfl, t, xs, _, x, rfl, rfl, ts.sq, atI_nat hx, q x r⟩
theorem ok_eqT {f : Addr} {fd : FuncData} (F : Fun K "__eq__" "Tape.__eq__" cTape_eq f fd) (Y : TpTxt K mg C f1 f2) (isin : mg "isinstance" = none) : FnOk P w K mg base CX0 1 f fd ["self", "other"] (spEqT K C) := by
  refine F.ok scEq (fun vs H Q E h => ?_) (fun cdv A outer s H vs Q E hr h => ?_)
  · obtain ⟨a, b, es, fs, k, j, rfl, _⟩ := h
    rfl
  · obtain ⟨a, b, es, fs, k, j, rfl, ⟨dx, t, ha, xs, ts, p⟩, ⟨dy, u, hb, ys, us, r⟩, n1, n2, q⟩ := h
    refine ⟨_, pss_one (ps_ret (pe_and (pe_callB call_isi (by rfl) isin (by decide +kernel) (pa_cons (pv 1) (pa_cons (pe_gcon rfl ⟨_, Y.mgC, (show RelV (.ref C) (.ref C) from rfl)⟩) pa_nil)))
      (pe_and (pe_cmpR (op_eqD hr.units) (pe_fld (pv 0) rfl) (pe_fld (pv 1) rfl) (nomark _)) (pe_one (pe_cmpR op_eq (pe_fld (pv 0) rfl) (pe_fld (pv 1) rfl) (nomark _)))))), ?_⟩
    refine ⟨_, rfl, .ref b, .ref C, .ref C, .ref C, true, rfl, .own C, Y.ty hb, Y.kC, true, rfl, iteT ?_⟩
    refine ⟨_, rfl, a, C, dx, _, _, rfl, ha, Y.cl, Y.nE, tf_events t k, _, rfl, b, C, dy, _, _, rfl, hb, Y.cl, Y.nE, tf_events u j, _, _, .tup ts.sq (dp_evs p), .tup us.sq (dp_evs r), shaped_evs n1, shaped_evs n2, _, rfl, ?_⟩
    show if PyData.eqvAll (es.map evD) (fs.map evD) = true then _ else _
    refine ite2 (fun c => ?_) (fun c => ?_)
    · refine ⟨_, rfl, a, C, dx, _, _, rfl, ha, Y.cl, Y.nL, tf_last t k, _, rfl, b, C, dy, _, _, rfl, hb, Y.cl, Y.nL, tf_last u j, rfl, q _ ?_⟩
      rw [decide_eq_true_iff]
      exact ⟨fun h => ⟨evsD_iff.mp c, by cases h; rfl⟩, fun h => by rw [h.2]⟩
    · refine q _ (nay fun h => c (evsD_iff.mpr h.1))
end
end Wd

set_option Elab.async false
set_option linter.all false
set_option maxRecDepth 100000
set_option maxHeartbeats 4000000
/-! tapes: >> and + -/
namespace Wd
open PySem PySem.Spec PyProof.Rows L2
theorem fresh {H : Hp} {p : Addr} {o : HO} (hp : H p = none) : Same H (upd H p o) := fun b u e => by
  rw [upd_ne (ne_of_none e hp)]
  exact e
def Ev.by (e : Ev) (d : Int) : Ev := { e with t := e.t + d }
def shift (es : List Ev) (d : Int) : List Ev := es.map fun e => e.by d
theorem lastOf_shift {es : List Ev} {d : Int} (h : es ≠ []) : lastOf (shift es d) = lastOf es + d := by
  obtain ⟨ws, y, rfl⟩ : ∃ ws y, es = ws ++ [y] := ⟨es.dropLast, es.getLast h, (List.dropLast_concat_getLast _).symm⟩
  simp [lastOf, shift, Ev.by]
theorem last_max : ∀ {es : List Ev}, (es.Pairwise fun a b => a.t ≤ b.t) → ∀ e ∈ es, e.t ≤ lastOf es := by
  intro es h e he
  obtain ⟨ws, y, rfl⟩ : ∃ ws y, es = ws ++ [y] := ⟨es.dropLast, es.getLast (fun q => by rw [q] at he; cases he), (List.dropLast_concat_getLast _).symm⟩
  have ly : lastOf (ws ++ [y]) = y.t := by simp [lastOf]
  rw [ly]
  rcases List.mem_append.mp he with q | q
  · exact (List.pairwise_append.mp h).2.2 e q y (List.mem_singleton.mpr rfl)
  · rw [List.mem_singleton.mp q]
    exact Int.le_refl _
theorem Good.lastN {es : List Ev} {k : Int} (g : Good es k) : 0 ≤ k := by
  have := lastOf_nonneg g.near
  have := g.lo
  omega
theorem near_shift {es : List Ev} {d : Int} (n : ∀ e ∈ es, Near e) (h : 0 ≤ d) : ∀ e ∈ shift es d, Near e := by
  intro e he
  obtain ⟨f, hf, rfl⟩ := List.mem_map.mp he
  obtain ⟨a, b, c, d', e'⟩ := n f hf
  exact ⟨by show 0 ≤ f.t + d; omega, b, c, d', e'⟩
theorem Good.shift {es : List Ev} {k d : Int} (g : Good es k) (h : 0 ≤ d) (h2 : k + d < ten60) : Good (shift es d) (k + d) where
  near := near_shift g.near h
  row := by
    refine ⟨fun e he => ?_, ?_⟩
    · obtain ⟨f, hf, rfl⟩ := List.mem_map.mp he
      have := last_max g.row.2 f hf
      have := g.lo
      show f.t + d < ten60
      omega
    · unfold Wd.shift
      rw [List.pairwise_map]
      exact g.row.2.imp fun {a b} h => by show a.t + d ≤ b.t + d; omega
  lo := by
    by_cases e : es = []
    · subst e
      have := g.lastN
      show (0 : Int) ≤ k + d
      omega
    · rw [lastOf_shift e]
      have := g.lo
      omega
  hi := h2
  few := by
    unfold Wd.shift
    rw [List.length_map]
    exact g.few
theorem shift_bad {es : List Ev} {k d : Int} (h2 : ten60 ≤ k + d) : ¬ (RowOk (shift es d) ∧ (V.int (k + d) = .non ∨ ∃ j, V.int (k + d) = .int j ∧ lastOf (shift es d) ≤ j ∧ j < ten60)) := by
  rintro ⟨_, h | ⟨j, h, _, q⟩⟩
  · cases h
  · cases h
    omega
/-- Tape(events, last = k), read -/
theorem new_reads {K : PySem.W.Frag} {C CIT t x dx : Addr} {H : Hp} {es : List Ev} {lv : V} {Q : VK} {E : XK} (hx : H x = none) (hd : H dx = none) (ne : dx ≠ x) (ev : Evs K H t es) (near : ∀ e ∈ es, Near e) (few : es.length ≤ 600) (lvs : lv = .non ∨ ∃ k, lv = .int k)
    (good : ∀ k, RowOk es → (lv = .non ∧ k = lastOf es ∨ lv = .int k ∧ lastOf es ≤ k ∧ k < ten60) → ∀ b H', Same H H' → TapeAt K C H' b es k → Q (.ref b) H')
    (bad : ¬ (RowOk es ∧ (lv = .non ∨ ∃ k, lv = .int k ∧ lastOf es ≤ k ∧ k < ten60)) → ∀ H', Same H H' → E (.ref CIT) none H') :
    spInitT K C CIT [.ref x, .ref t, lv] (upd (upd H dx (.own x)) x (.ins C dx [])) (fun v H3 => v = .non ∧ Q (.ref x) H3) E := by
  have s0 : Same H (upd (upd H dx (.own x)) x (.ins C dx [])) := (fresh hd).trans (fresh (by rw [upd_ne ne.symm]; exact hx))
  refine ⟨x, dx, t, es, lv, rfl, upd_same, ev.mono (Kp.of s0), near, few, lvs, fun k H' row hk keep e => ⟨rfl, ?_⟩, fun H' s' nb => bad nb H' (s0.trans s')⟩
  have s : Same H H' := Same.made hx hd fun b o q nb => keep b o nb q
  exact good k row hk x H' s ⟨dx, t, e, ev.mono (Kp.of s)⟩
def spShr (K : PySem.W.Frag) (C CIN CIT : Addr) : Sp := fun vs H Q E => ∃ a es k y, vs = [.ref a, y] ∧ TapeAt K C H a es k ∧ Good es k ∧ IntV K H y ∧
  (¬ (∃ i, y = .int i ∧ 0 ≤ i ∧ i < ten60) → Told E H CIN "value" y) ∧
  (∀ i, y = .int i → 0 ≤ i → i < ten60 → ten60 ≤ k + i → ∀ H', Same H H' → E (.ref CIT) none H') ∧
  (∀ i b H', y = .int i → 0 ≤ i → i < ten60 → k + i < ten60 → Same H H' → TapeAt K C H' b (shift es i) (k + i) → Q (.ref b) H')
section
variable {P : Program} {w : World} {K : PySem.W.Frag} {mg : Str → Option Value} {base : Heap} {fI fL fB C CIT CIN CIO CUI f1 f2 t0 : Addr}
abbrev rTail : List Value := [.type "RuntimeError", .type "Exception", .type "BaseException", .type "object"]
abbrev ErrN (P : Program) (w : World) (K : PySem.W.Frag) (mg : Str → Option Value) (base : Heap) (C : Addr) : Prop := ∃ BN BI initId newId, ∃ bN bmB, ErrE P w K mg base "InvalidNumber" "value" C BN BI initId newId bN bmB ["self", "value"]
abbrev nShr : List Str := ["self", "time", "events", "at", "source", "letter", "value"]
theorem scShr : FnScope nShr ["self", "time"] (defScope cTape_rshift) := ⟨rfl, rfl, rfl, by decide +kernel, rfl, by decide +kernel, by decide +kernel⟩
theorem ok_shr {f : Addr} {fd fdN fdI : FuncData} (F : Fun K "__rshift__" "Tape.__rshift__" cTape_rshift f fd) (N : TNew P w K mg base C CIT f1 f2 t0 fdN) (X : WTxt mg fI fL) (EN : ErrN P w K mg base CIN)
    (FI : Fun K "is_integer" "is_integer" sIsInteger fI fdI) (bI : Binds K fdI ["value"] []) :
    FnOk P w K mg base (L2.CX P w) 7 f fd ["self", "time"] (spShr K C CIN CIT) := by
  have GI : FnOk P w K mg base CX0 1 fI fdI ["value"] (spInt K) := ok_int FI X
  obtain ⟨g2, kb2⟩ := N.k2
  obtain ⟨BN, BI, initId, newId, bN, bmB, EN⟩ := EN
  obtain ⟨fJ, fdJ, iC, tI, GJ, bJ⟩ := EN.i
  refine F.okX scShr (fun vs H Q E h => ?_) (fun cdv A outer s H vs Q E hr h => ?_)
  · obtain ⟨a, es, k, y, rfl, _⟩ := h
    rfl
  · obtain ⟨a, es, k, y, rfl, ta, g, iv, told, over, q⟩ := h
    have hr1 : Room 1 _ := hr.mono (by decide)
    have hr2 : Room 2 _ := hr.mono (by decide)
    have hr6 : Room 6 _ := hr.mono (by decide)
    obtain ⟨dx, t, ha, xs, ts, p⟩ := id ta
    refine ⟨_, pss_cons (ps_if (PW.pt (pw_or (pt_not (pt_val (pe_call GI hr1 rfl X.fi FI.kp bI .nil pass0 (pa_cons (pv 1) pa_nil)))) (pw_or1 (pt_cmpR op_lt (pv 1) pe_int (nomark _))))) (pss_one (ps_raise rfl (takes_of rfl rfl rfl rfl) (Ek.pmk_raise EN.FN EN.U EN.T (raises_own EN.b EN.t) iC tI GJ hr2 bJ rfl EN.g (pv 1)))) pss_nil)
      (pss_cons (ps_set (i := 2) scShr.nd rfl (Or.inl rfl) (pe_callTy call_tuple_of (by rfl) X.tup (by decide +kernel) (pa_cons (pe_lc (own := [("at", 3), ("source", 4), ("letter", 5), ("value", 6)]) (g := gTup K 4 (gCons (gName 3) (gCons (gName 4) (gCons (gName 5) (gCons (gName 6) gNil))))) (tt := tYes) rfl scShr.nd (pi_tup (pe_fld (pv 0) rfl))
          (blkOk_by (N := nShr) (sc := defScope cTape_rshift) (by decide +kernel))
          (fun _ _ _ _ _ => pg_tup rfl (pgs_cons (pg_name (i := 3) scShr.nd rfl (Or.inl rfl)) (pgs_cons (pg_name (i := 4) scShr.nd rfl (Or.inl rfl)) (pgs_cons (pg_name (i := 5) scShr.nd rfl (Or.inl rfl)) (pgs_cons (pg_name (i := 6) scShr.nd rfl (Or.inl rfl)) pgs_nil)))))
          (fun _ _ _ _ _ => pts_nil) (fun _ _ _ _ _ => pe_tup (pa_cons (pe_op op_add (pv 3) (pv 1)) (pa_cons (pv 4) (pa_cons (pv 5) (pa_cons (pv 6) pa_nil)))))) pa_nil)))
      (pss_one (ps_ret (pe_makeN (n := 1) N.y.mak N.g hr6 rfl N.y.mgC kb2 (passes_call (takes_of rfl rfl rfl rfl) (fun _ _ _ _ h => h)) (pa_cons (pv 2) pa_nil) (pk_cons (pe_op op_add (pe_fld (pv 0) rfl) (pv 1)) pk_nil))))), ?_⟩
    refine ⟨_, rfl, y, rfl, iv, fun b hb => ⟨b, rfl, ?_⟩⟩
    cases b with
    | false => exact iteT ⟨_, rfl, told fun ⟨i, e, h0, h1⟩ => Bool.noConfusion (hb.mpr ⟨i, e, Int.lt_of_lt_of_le (by decide +kernel : -ten60 < 0) h0, h1⟩)⟩
    | true =>
      obtain ⟨i, rfl, i0, i1⟩ := hb.mp rfl
      refine iteF ⟨_, rfl, _, _, rfl, rfl, _, rfl, ?_⟩
      refine ite2 (fun c => ?_) (fun c => ?_)
      · have c' : i < 0 := of_decide_eq_true c
        exact ⟨_, rfl, told fun ⟨j, e, h0, h1⟩ => by cases e; omega⟩
      · have c' : 0 ≤ i := by
          have : ¬ i < 0 := fun h => c (decide_eq_true h)
          omega
        refine ⟨_, rfl, a, C, dx, _, _, rfl, ha, N.y.cl, N.y.nE, tf_events t k, t, rfl, ⟨xs, ts.sq⟩, fun D hD => ?_⟩
        have lx : xs.length = es.length := p.length
        have lf := g.few
        refine lc_each (walk_tup (K := K) (xs := xs) (a := t)) (fun j H y => ∃ e, es[j]? = some e ∧ EvAt H y (e.by i)) (fun j H H' y kp ⟨e, h1, h2⟩ => ⟨e, h1, h2.mono kp⟩) hD (by omega) (fun H s => (ts.mono (Kp.of s)).sq) ?_ ?_
        · rintro j x H1 H' kT hj s1 ⟨rfl, hx⟩ h
          obtain ⟨e, he, a1, rfl, q1⟩ := paired_get p hx
          refine ⟨a1, _, rfl, SqT.of (s1 _ _ q1), rfl, _, _, rfl, _, _, rfl, _, _, rfl, _, _, rfl, rfl, rfl, ?_⟩
          exact ⟨_, rfl, _, rfl, _, _, rfl, rfl, _, rfl, _, rfl, _, rfl, (by show 4 ≤ sizeLine; decide), fun z hz => h _ _ (fresh hz) ⟨e, he, z, rfl, upd_same⟩⟩
        · intro H2 ys s2 hD2 hl hy
          refine ⟨D, _, rfl, .inl ⟨SqL.of hD2, fun l hl2 => ?_⟩⟩
          have s3 : Same H2 (upd H2 l (.tup ys)) := fresh hl2
          have e3 : (upd H2 l (.tup ys)) l = some (.tup ys) := upd_same
          have hy3 : ∀ (j : Nat) y, ys[j]? = some y → ∃ e, es[j]? = some e ∧ EvAt (upd H2 l (.tup ys)) y (e.by i) := fun j y h => let ⟨e, h1, h2⟩ := hy j y h; ⟨e, h1, h2.mono (Kp.of s3)⟩
          have s03 := s2.trans s3
          generalize upd H2 l (.tup ys) = H3 at s3 e3 hy3 s03
          have ev : Evs K H3 l (shift es i) := ⟨ys, .inl e3, paired_of (by unfold shift; rw [List.length_map, hl, lx]) fun j y e h1 h2 => by
            obtain ⟨e', q1, q2⟩ := hy3 j y h1
            unfold shift at h2
            rw [List.getElem?_map, q1] at h2
            cases h2
            exact q2⟩
          have ha3 := s03 _ _ ha
          refine ⟨_, rfl, _, rfl, a, C, dx, _, _, rfl, ha3, N.y.cl, N.y.nL, tf_last t k, _, rfl, _, _, rfl, rfl, rfl, rfl, fun x dx' hx hdx ne => ?_⟩
          have few' : (shift es i).length ≤ 600 := by unfold shift; rw [List.length_map]; omega
          refine new_reads hx hdx ne ev (near_shift g.near c') few' (.inr ⟨_, rfl⟩) (fun k' row hk b H' s' tb => ?_) fun nb H' s' => ?_
          · rcases hk with ⟨hk, _⟩ | ⟨hk, h1, h2⟩
            · cases hk
            · cases hk
              exact q i b H' rfl c' i1 h2 (s03.trans s') tb
          · refine over i rfl c' i1 ?_ H' (s03.trans s')
            by_cases h : k + i < ten60
            · have gg := g.shift c' h
              exact (nb ⟨gg.row, .inr ⟨_, rfl, gg.lo, h⟩⟩).elim
            · omega
end
end Wd

set_option Elab.async false
set_option linter.all false
set_option maxRecDepth 100000
set_option maxHeartbeats 4000000
/-! tapes: + and upto -/
namespace Wd
open PySem PySem.Spec PyProof.Rows L2
/-- a property that gives a field of its own -/
def PropG (P : Program) (w : World) (K : PySem.W.Frag) (mg : Str → Option Value) (base : Heap) (C : Addr) (x f : Str) : Prop := ∃ p g fd, PropOf K C x p g ∧ FnOk P w K mg base CX0 1 g fd ["self"] (getSp C f) ∧ Binds K fd ["self"] []
theorem lastOf_app {es fs : List Ev} (h : fs ≠ []) : lastOf (es ++ fs) = lastOf fs := by
  obtain ⟨ws, y, rfl⟩ : ∃ ws y, fs = ws ++ [y] := ⟨fs.dropLast, fs.getLast h, (List.dropLast_concat_getLast _).symm⟩
  rw [← List.append_assoc]
  simp [lastOf]
theorem Good.join {es fs : List Ev} {k j : Int} (g : Good es k) (h : Good fs j) (h2 : k + j < ten60) (few : es.length + fs.length ≤ 300) : Good (es ++ Wd.shift fs k) (k + j) := by
  have hk := g.lastN
  have hs := h.shift hk (by omega : j + k < ten60)
  refine ⟨fun e he => ?_, ⟨fun e he => ?_, ?_⟩, ?_, h2, ?_⟩
  · rcases List.mem_append.mp he with q | q
    · exact g.near e q
    · exact hs.near e q
  · rcases List.mem_append.mp he with q | q
    · exact g.row.1 e q
    · exact hs.row.1 e q
  · rw [List.pairwise_append]
    refine ⟨g.row.2, hs.row.2, fun a ha b hb => ?_⟩
    obtain ⟨f, hf, rfl⟩ := List.mem_map.mp hb
    have h1 := last_max g.row.2 a ha
    have h3 := g.lo
    have h4 := (h.near f hf).1
    show a.t ≤ f.t + k
    omega
  · by_cases e : fs = []
    · subst e
      have h1 := g.lo
      have h3 := h.lastN
      show lastOf (es ++ []) ≤ k + j
      rw [List.append_nil]
      omega
    · rw [lastOf_app (by unfold Wd.shift; simpa using e), lastOf_shift e]
      have := h.lo
      omega
  · rw [List.length_append]
    unfold Wd.shift
    rw [List.length_map]
    exact few
def spAdd (K : PySem.W.Frag) (C CIO CIT : Addr) : Sp := fun vs H Q E => ∃ a es k y, vs = [.ref a, y] ∧ TapeAt K C H a es k ∧ Good es k ∧
  ((∃ ty, TyX K H y ty ∧ PySem.W.kitOne K ty (.ref C) = some false ∧ ∀ H', Same H H' → E (.ref CIO) none H') ∨
    ∃ b fs j, y = .ref b ∧ TapeAt K C H b fs j ∧ Good fs j ∧ es.length + fs.length ≤ 300 ∧ (ten60 ≤ k + j → ∀ H', Same H H' → E (.ref CIT) none H') ∧
      (∀ c H', k + j < ten60 → Same H H' → TapeAt K C H' c (es ++ shift fs k) (k + j) → Q (.ref c) H'))
theorem evs_app {K : PySem.W.Frag} {H : Hp} {t : Addr} {xs ys : List V} {es fs : List Ev} (h : H t = some (.tup (xs ++ ys))) (p : Paired (EvAt H) xs es) (q : Paired (EvAt H) ys fs) : Evs K H t (es ++ fs) := by
  refine ⟨_, .inl h, ?_⟩
  clear h
  induction p with
  | nil => exact q
  | cons a b ih => exact .cons a ih
section
variable {P : Program} {w : World} {K : PySem.W.Frag} {mg : Str → Option Value} {base : Heap} {fI fL fB C CIT CIN CIO CUI f1 f2 t0 fS : Addr}
theorem scAdd : FnScope ["self", "other", "later"] ["self", "other"] (defScope cTape_add) := ⟨rfl, rfl, rfl, by decide +kernel, rfl, by decide +kernel, by decide +kernel⟩
theorem ok_add {f : Addr} {fd fdN fdS : FuncData} (F : Fun K "__add__" "Tape.__add__" cTape_add f fd) (N : TNew P w K mg base C CIT f1 f2 t0 fdN) (isin : mg "isinstance" = none) (T : ErrT K mg "InvalidOperation" CIO)
    (pE : PropG P w K mg base C "events" "_events") (pL : PropG P w K mg base C "last" "_last") (DS : OO.Dun K C "__rshift__" fS) (sf : PySem.W.selfFirst K C = true) (BT : OO.BinT K C .RShift "int") (bS : Binds K fdS ["self", "time"] [])
    (GS : FnOk P w K mg base (L2.CX P w) 7 fS fdS ["self", "time"] (spShr K C CIN CIT)) :
    FnOk P w K mg base (L2.CX P w) 8 f fd ["self", "other"] (spAdd K C CIO CIT) := by
  obtain ⟨g2, kb2⟩ := N.k2
  obtain ⟨pe, ge, fde, pe1, pe2, pe3⟩ := pE
  obtain ⟨pl, gl, fdl, pl1, pl2, pl3⟩ := pL
  refine F.okX scAdd (fun vs H Q E h => ?_) (fun cdv A outer s H vs Q E hr h => ?_)
  · obtain ⟨a, es, k, y, rfl, _⟩ := h
    rfl
  · obtain ⟨a, es, k, y, rfl, ta, g, h⟩ := h
    have hr2 : Room 2 _ := hr.mono (by decide)
    have hr6 : Room 6 _ := hr.mono (by decide)
    obtain ⟨dx, t, ha, xs, ts, p⟩ := id ta
    refine ⟨_, pss_cons (ps_if (pt_not (pt_val (pe_callB call_isi (by rfl) isin (by decide +kernel) (pa_cons (pv 1) (pa_cons (pe_gcon rfl ⟨_, N.y.mgC, (show RelV (.ref C) (.ref C) from rfl)⟩) pa_nil))))) (pss_one (ps_raise rfl (takes_of rfl rfl rfl rfl) (pmk_own PySem.F.excBase_ValueError T.x T.g T.k (raises_own T.b T.t) rfl))) pss_nil)
      (pss_cons (ps_set (i := 2) scAdd.nd rfl (Or.inl rfl) (pe_op (OO.op_with (T := "int") DS sf BT GS hr bS (passes_call (takes_of rfl rfl rfl rfl) (fun _ _ _ _ h => h))) (pv 1) (pe_fld (pv 0) rfl)))
      (pss_one (ps_ret (pe_makeN (n := 1) N.y.mak N.g hr6 rfl N.y.mgC kb2 (passes_call (takes_of rfl rfl rfl rfl) (fun _ _ _ _ h => h)) (pa_cons (pe_op TO.op_catE (pe_fld (pv 0) rfl) (pe_prop (pv 2) N.y.cl pe1 pe2 hr2 pe3 .nil pass0 rfl)) pa_nil)
          (pk_cons (pe_prop (pv 2) N.y.cl pl1 pl2 hr2 pl3 .nil pass0 rfl) pk_nil))))), ?_⟩
    rcases h with ⟨ty, hty, kf, no⟩ | ⟨b, fs, j, rfl, tb, gb, few, over, q⟩
    · exact ⟨_, rfl, y, .ref C, ty, .ref C, false, rfl, .own C, hty, kf, false, rfl, iteT (no H (Same.refl _))⟩
    · obtain ⟨dy, u, hb, ys, us, r⟩ := id tb
      refine ⟨_, rfl, .ref b, .ref C, .ref C, .ref C, true, rfl, .own C, N.y.ty hb, N.y.kC, true, rfl, iteF ?_⟩
      have hk := g.lastN
      have k60 := g.hi
      refine ⟨_, rfl, _, rfl, a, C, dx, _, _, rfl, ha, N.y.cl, N.y.nL, tf_last t k, b, dy, _, rfl, .int k, hb, b, fs, j, .int k, rfl, tb, gb, .inl ⟨k, rfl⟩, fun h => (h ⟨k, rfl, hk, k60⟩).elim, fun i ei _ _ ov H' s' => ?_, fun i c H1 ei _ _ nov s1 tc => ?_⟩
      · cases ei
        exact over (by omega) H' s'
      · cases ei
        have gs := gb.shift hk nov
        obtain ⟨dz, z, hc, zs, zz, pz⟩ := id tc
        have ha1 := s1 _ _ ha
        have ts1 := ts.mono (Kp.of s1)
        have p1 : Paired (EvAt H1) xs es := Paired.mono (fun _ _ q => q.mono (Kp.of s1)) p
        have lxs := p.length
        have lzs := pz.length
        have lsh : (shift fs k).length = fs.length := by unfold shift; rw [List.length_map]
        have go : ∀ (v : Addr) (H2 : Hp), Same H1 H2 → Evs K H2 v (es ++ shift fs k) → ∀ x dx', H2 x = none → H2 dx' = none → dx' ≠ x → spInitT K C CIT [.ref x, .ref v, .int (j + k)] (upd (upd H2 dx' (.own x)) x (.ins C dx' [])) (fun w H3 => w = .non ∧ Q (.ref x) H3) E := fun v H2 s2 ev x dx' hx hdx ne => by
          have gg := g.join gb (by omega) few
          refine new_reads hx hdx ne ev gg.near (by have := gg.few; omega) (.inr ⟨_, rfl⟩) (fun k' row hk' b' H' s' t' => ?_) fun nb H' s' => ?_
          · rcases hk' with ⟨hk', _⟩ | ⟨hk', h1, h2⟩
            · cases hk'
            · cases hk'
              rw [Int.add_comm j k] at t'
              exact q b' H' (by omega) ((s1.trans s2).trans s') t'
          · exact (nb ⟨gg.row, .inr ⟨_, rfl, by have := gg.lo; omega, by omega⟩⟩).elim
        refine ⟨_, rfl, a, C, dx, _, _, rfl, ha1, N.y.cl, N.y.nE, tf_events t k, .ref c, rfl, c, dz, _, rfl, hc, c, dz, _, _, rfl, hc, tf_events z (j + k), ?_⟩
        refine ⟨t, z, xs, zs, rfl, rfl, ts1.sq, zz.sq, Nat.le_of_lt (small1000 (by omega)), fun e0 => ?_, fun e1 e0 => ?_, fun n1 n2 v hv => ?_⟩
        · subst e0
          cases p
          refine ⟨.ref c, rfl, c, dz, _, rfl, hc, c, dz, _, _, rfl, hc, tf_last z (j + k), rfl, rfl, ?_⟩
          exact go z H1 (Same.refl _) ⟨zs, zz, pz⟩
        · subst e0
          have ef : shift fs k = [] := List.eq_nil_of_length_eq_zero (by rw [← lzs]; rfl)
          refine ⟨.ref c, rfl, c, dz, _, rfl, hc, c, dz, _, _, rfl, hc, tf_last z (j + k), rfl, rfl, ?_⟩
          refine go t H1 (Same.refl _) ?_
          rw [ef, List.append_nil]
          exact ⟨xs, ts1, p1⟩
        · have s2 : Same H1 (upd H1 v (.tup (xs ++ zs))) := fresh hv
          refine ⟨.ref c, rfl, c, dz, _, rfl, s2 _ _ hc, c, dz, _, _, rfl, s2 _ _ hc, tf_last z (j + k), rfl, rfl, ?_⟩
          exact go v _ s2 (evs_app upd_same (Paired.mono (fun _ _ q => q.mono (Kp.of s2)) p1) (Paired.mono (fun _ _ q => q.mono (Kp.of s2)) pz))
end
end Wd

set_option Elab.async false
set_option linter.all false
set_option maxRecDepth 100000
set_option maxHeartbeats 4000000
/-! tapes: upto, == -/
namespace Wd
open PySem PySem.Spec PyProof.Rows L2
theorem self_range {α : Type} : ∀ (pre l : List α), (List.range' pre.length l.length).filterMap (fun i => (pre ++ l)[i]?) = l
  | pre, [] => rfl
  | pre, a :: l => by
    have ih := self_range (pre ++ [a]) l
    rw [List.append_assoc] at ih
    show (List.range' pre.length (l.length + 1)).filterMap _ = _
    rw [List.range'_succ, List.filterMap_cons]
    have e : (pre ++ a :: l)[pre.length]? = some a := by simp
    rw [e]
    simp only
    congr 1
    rw [List.length_append] at ih
    exact ih
theorem fm_congr {α β : Type} {f g : α → Option β} : ∀ {l : List α}, (∀ x ∈ l, f x = g x) → l.filterMap f = l.filterMap g
  | [], _ => rfl
  | a :: l, h => by
    rw [List.filterMap_cons, List.filterMap_cons, h a (List.mem_cons_self ..), fm_congr fun x hx => h x (List.mem_cons_of_mem _ hx)]
theorem filter_range {α : Type} (es : List α) (p : α → Bool) (c : Nat → Bool) (hc : ∀ i e, es[i]? = some e → c i = p e) : ((List.range es.length).filter c).filterMap (fun i => es[i]?) = es.filter p := by
  have h := self_range [] es
  rw [List.length_nil, List.nil_append, ← List.range_eq_range'] at h
  conv => rhs; rw [← h]
  rw [List.filterMap_filter, List.filter_filterMap]
  refine fm_congr fun i _ => ?_
  cases e : es[i]? with
  | none => simp
  | some a =>
    rw [hc i a e]
    cases h' : p a <;> simp [h', Option.filter]
theorem paired_map {α β : Type} {R : α → β → Prop} {es : List β} : ∀ {ys : List α} {js : List Nat}, Paired (fun y j => ∃ e, es[j]? = some e ∧ R y e) ys js → Paired R ys (js.filterMap fun i => es[i]?)
  | _, _, .nil => .nil
  | _, _, .cons (l₂ := js) ⟨e, h1, h2⟩ p => by
    rw [List.filterMap_cons, h1]
    exact .cons h2 (paired_map p)
def cutAt (es : List Ev) (i : Int) : List Ev := es.filter fun e => decide (e.t ≤ i)
theorem Good.cut {es : List Ev} {k i : Int} (g : Good es k) (h : 0 ≤ i) (h2 : i ≤ k) : Good (cutAt es i) i where
  near := fun e he => g.near e (List.mem_filter.mp he).1
  row := ⟨fun e he => g.row.1 e (List.mem_filter.mp he).1, g.row.2.filter _⟩
  lo := by
    by_cases e : cutAt es i = []
    · rw [e]
      exact h
    · obtain ⟨ws, y, ew⟩ : ∃ ws y, cutAt es i = ws ++ [y] := ⟨(cutAt es i).dropLast, (cutAt es i).getLast e, (List.dropLast_concat_getLast _).symm⟩
      have hy : y ∈ cutAt es i := by rw [ew]; simp
      have := of_decide_eq_true (List.mem_filter.mp hy).2
      rw [ew]
      show lastOf (ws ++ [y]) ≤ i
      simpa [lastOf] using this
  hi := by have := g.hi; omega
  few := Nat.le_trans (List.length_filter_le _ _) g.few
def spUpto (K : PySem.W.Frag) (C CIN : Addr) : Sp := fun vs H Q E => ∃ a es k y, vs = [.ref a, y] ∧ TapeAt K C H a es k ∧ Good es k ∧ IntV K H y ∧
  (¬ (∃ i, y = .int i ∧ 0 ≤ i ∧ i ≤ k) → Told E H CIN "value" y) ∧
  (∀ i b H', y = .int i → 0 ≤ i → i ≤ k → Same H H' → TapeAt K C H' b (cutAt es i) i → Q (.ref b) H')
section
variable {P : Program} {w : World} {K : PySem.W.Frag} {mg : Str → Option Value} {base : Heap} {fI fL fB C CIT CIN CIO CUI f1 f2 t0 fS : Addr}
abbrev nUpto : List Str := ["self", "time", "event"]
theorem scUpto : FnScope nUpto ["self", "time"] (defScope cTape_upto) := ⟨rfl, rfl, rfl, by decide +kernel, rfl, by decide +kernel, by decide +kernel⟩
theorem ok_upto {f : Addr} {fd fdN fdB : FuncData} (F : Fun K "upto" "Tape.upto" cTape_upto f fd) (N : TNew P w K mg base C CIT f1 f2 t0 fdN) (X : WTxt mg fI fL) (EN : ErrN P w K mg base CIN)
    (mB : mg "is_between" = some (.ref fB)) (kB : PySem.W.keepIn K (.ref fB) = true) (bB : Binds K fdB ["value", "least", "most"] []) (GB : FnOk P w K mg base CX0 2 fB fdB ["value", "least", "most"] (spBet K)) :
    FnOk P w K mg base (L2.CX P w) 7 f fd ["self", "time"] (spUpto K C CIN) := by
  obtain ⟨g2, kb2⟩ := N.k2
  obtain ⟨BN, BI, initId, newId, bN, bmB, EN⟩ := EN
  obtain ⟨fJ, fdJ, iC, tI, GJ, bJ⟩ := EN.i
  refine F.okX scUpto (fun vs H Q E h => ?_) (fun cdv A outer s H vs Q E hr h => ?_)
  · obtain ⟨a, es, k, y, rfl, _⟩ := h
    rfl
  · obtain ⟨a, es, k, y, rfl, ta, g, iv, told, q⟩ := h
    have hr2 : Room 2 _ := hr.mono (by decide)
    have hr6 : Room 6 _ := hr.mono (by decide)
    obtain ⟨dx, t, ha, xs, ts, p⟩ := id ta
    refine ⟨_, pss_cons (ps_if (pt_not (pt_val (pe_call GB hr2 rfl mB kB bB .nil pass0 (pa_cons (pv 1) (pa_cons pe_int (pa_cons (pe_fld (pv 0) rfl) pa_nil)))))) (pss_one (ps_raise rfl (takes_of rfl rfl rfl rfl) (Ek.pmk_raise EN.FN EN.U EN.T (raises_own EN.b EN.t) iC tI GJ hr2 bJ rfl EN.g (pv 1)))) pss_nil)
      (pss_one (ps_ret (pe_makeN (n := 1) N.y.mak N.g hr6 rfl N.y.mgC kb2 (passes_call (takes_of rfl rfl rfl rfl) (fun _ _ _ _ h => h)) (pa_cons (pe_callTy call_tuple_of (by rfl) X.tup (by decide +kernel) (pa_cons (pe_lc (own := [("event", 2)]) (g := gName 2) rfl scUpto.nd (pi_tup (pe_fld (pv 0) rfl))
          (blkOk_by (N := nUpto) (sc := defScope cTape_upto) (by decide +kernel)) (fun _ _ _ _ _ => pg_name (i := 2) scUpto.nd rfl (Or.inl rfl))
          (fun _ _ _ _ _ => pts_one (pt_cmpR op_le (pe_ix (r := rIxT K) ix_tup (pv 2) pe_int (fun _ _ => rfl)) (pv 1) (nomark _))) (fun _ _ _ _ _ => pv 2)) pa_nil)) pa_nil) (pk_cons (pv 1) pk_nil)))), ?_⟩
    refine ⟨_, rfl, _, rfl, a, C, dx, _, _, rfl, ha, N.y.cl, N.y.nL, tf_last t k, y, _, _, rfl, iv, fun b hb => ⟨b, rfl, ?_⟩⟩
    have k60 := g.hi
    cases b with
    | false => exact iteT ⟨_, rfl, told fun ⟨i, e, h0, h1⟩ => Bool.noConfusion (hb.mpr ⟨i, e, Int.lt_of_lt_of_le (by decide +kernel : -ten60 < 0) h0, by omega, h0, h1⟩)⟩
    | true =>
      obtain ⟨i, rfl, _, i60, i0, ik⟩ := hb.mp rfl
      refine iteF ⟨_, rfl, a, C, dx, _, _, rfl, ha, N.y.cl, N.y.nE, tf_events t k, t, rfl, ⟨xs, ts.sq⟩, fun D hD => ?_⟩
      have lx : xs.length = es.length := p.length
      have lf := g.few
      refine lc_keep (walk_tup (K := K) (xs := xs) (a := t)) (fun j => match es[j]? with | some e => decide (e.t ≤ i) | none => false) (fun j H y => ∃ e, es[j]? = some e ∧ EvAt H y e) (fun j H H' y kp ⟨e, h1, h2⟩ => ⟨e, h1, h2.mono kp⟩) hD (by omega)
        (fun H s => (ts.mono (Kp.of s)).sq) ?_ ?_
      · rintro j x H1 H' kT kF hj s1 ⟨rfl, hx⟩ hT hF
        obtain ⟨e, he, a1, rfl, q1⟩ := paired_get p hx
        refine ⟨rfl, _, rfl, a1, _, _, _, rfl, rfl, SqT.of (s1 _ _ q1), atI_nat (j := 0) rfl, _, rfl, _, _, rfl, rfl, _, rfl, ?_⟩
        rw [he] at hT hF
        refine ite2 (fun c => ?_) (fun c => ?_)
        · exact ⟨_, rfl, hT c _ _ (Same.refl _) ⟨e, rfl, a1, rfl, s1 _ _ q1⟩⟩
        · exact hF (by simpa using c) _ (Same.refl _)
      · intro H2 ys s2 hD2 hl pr
        refine ⟨D, _, rfl, .inl ⟨SqL.of hD2, fun l hl2 => ?_⟩⟩
        have s3 : Same H2 (upd H2 l (.tup ys)) := fresh hl2
        have pe := paired_map pr
        rw [lx, filter_range es (fun e => decide (e.t ≤ i)) _ (fun j e h => by rw [h])] at pe
        have ev : Evs K (upd H2 l (.tup ys)) l (cutAt es i) := ⟨ys, .inl upd_same, Paired.mono (fun _ _ q => q.mono (Kp.of s3)) pe⟩
        have s03 := s2.trans s3
        generalize upd H2 l (.tup ys) = H3 at ev s03
        have gc := g.cut i0 ik
        refine ⟨_, rfl, rfl, rfl, fun x dx' hx hdx ne => ?_⟩
        refine new_reads hx hdx ne ev gc.near (by have := gc.few; omega) (.inr ⟨_, rfl⟩) (fun k' row hk b H' s' tb => ?_) fun nb H' s' => ?_
        · rcases hk with ⟨hk, _⟩ | ⟨hk, h1, h2⟩
          · cases hk
          · cases hk
            exact q i b H' rfl i0 ik (s03.trans s') tb
        · exact (nb ⟨gc.row, .inr ⟨_, rfl, gc.lo, gc.hi⟩⟩).elim
theorem op_tape_eq {X : Cx} {f : Addr} {fd : FuncData} (Y : TpTxt X.K X.mg C f1 f) (G : FnOk X.prog X.w X.K X.mg X.base CX0 1 f fd ["self", "other"] (spEqT X.K C)) (b : Binds X.K fd ["self", "other"] []) (hr : Room 1 X.A) :
    OpR X (compareOp .Eq) (fun x y H Q => ∃ a b es fs k j, x = .ref a ∧ y = .ref b ∧ TapeAt X.K C H a es k ∧ TapeAt X.K C H b fs j ∧ (∀ e ∈ es, Near e) ∧ (∀ e ∈ fs, Near e) ∧ ∀ r, (r = true ↔ es = fs ∧ k = j) → Q (.bl r) H) := by
  intro pins s σ H x y v u Q I rx ry ⟨a, b', es, fs, k, j, ex, ey, ta, tb, n1, n2, q⟩
  subst ex ey
  cases rx
  cases ry
  obtain ⟨dx, t, ha, ev⟩ := id ta
  obtain ⟨dy, u, hb, ew⟩ := id tb
  obtain ⟨_, J, _⟩ := ins_get I.hok hb
  obtain ⟨_, J, _⟩ := J.look
  refine cmp_own (E := E0) (y := .ref b') (tb := .ref C) G Y.eqm Y.eqf b pass0 hr I ha rfl J.type Y.nf ?_
  exact ⟨a, b', es, fs, k, j, rfl, ta, tb, n1, n2, fun r hr => ⟨r, rfl, q r hr⟩⟩
end
end Wd

set_option Elab.async false
set_option linter.all false
set_option maxRecDepth 100000
set_option maxHeartbeats 4000000
/-! tapes: other values in the place of values -/
namespace Wd
open PySem PySem.Spec PyProof.Rows L2
/-- an entry of a table from integers to integers -/
def IntKV (p : Key × V) : Prop := IsInt (kV p.1) ∧ IsInt p.2
def spTab (K : PySem.W.Frag) : Sp := fun vs H Q _ => ∃ y : V, vs = [y] ∧ ((Isi K H y "dict" false ∧ Q (.bl false) H) ∨ ∃ d kvs, y = .ref d ∧ H d = some (.dK kvs) ∧ kvs.length ≤ 100 ∧ (kvs.map (·.1)).Nodup ∧ (∀ p ∈ kvs, ∀ H', Ob [d] H H' → IntV K H' p.2) ∧
  ∀ H' b, Same H H' → (b = true ↔ ∀ p ∈ kvs, IntKV p) → Q (.bl b) H')
theorem key_int (K : PySem.W.Frag) (H : Hp) (k : Key) : IntV K H (kV k) := by
  cases k with
  | inl n => exact .inl ⟨n, rfl⟩
  | inr z => exact .inr ⟨(fun i e => nomatch e), .inr (isi_ty (.base (.str z)) (by decide))⟩
/-- the event with another value by a table -/
def Ev.sub (kvs : List (Key × V)) (e : Ev) : Ev := { e with v := match valV kvs (.inl e.v) with | some (.int m) => m | _ => e.v }
def swap (kvs : List (Key × V)) (es : List Ev) : List Ev := es.map (Ev.sub kvs)
theorem val_mem {kvs : List (Key × V)} {k : Key} {v : V} (h : valV kvs k = some v) : (k, v) ∈ kvs := by
  unfold valV at h
  cases e : kvs.find? fun kv => decide (kv.1 = k) with
  | none =>
    rw [e] at h
    cases h
  | some p =>
    rw [e] at h
    cases h
    have h1 := List.mem_of_find?_eq_some e
    have h2 : p.1 = k := of_decide_eq_true (List.find?_some (p := fun kv : Key × V => decide (kv.1 = k)) e)
    subst h2
    exact h1
theorem sub_get {kvs : List (Key × V)} (h : ∀ p ∈ kvs, IntKV p) (e : Ev) : (valV kvs (.inl e.v)).getD (.int e.v) = .int (e.sub kvs).v ∧ ((-ten60 < e.v ∧ e.v < ten60) → -ten60 < (e.sub kvs).v ∧ (e.sub kvs).v < ten60) := by
  unfold Ev.sub
  cases q : valV kvs (.inl e.v) with
  | none => exact ⟨rfl, fun z => z⟩
  | some v =>
    obtain ⟨_, m, e2, h1, h2⟩ := h _ (val_mem q)
    have e2' : v = .int m := e2
    subst e2'
    exact ⟨rfl, fun _ => ⟨h1, h2⟩⟩
theorem Good.swap {es : List Ev} {k : Int} {kvs : List (Key × V)} (g : Good es k) (h : ∀ p ∈ kvs, IntKV p) : Good (swap kvs es) k where
  near := fun e he => by
    obtain ⟨f, hf, rfl⟩ := List.mem_map.mp he
    obtain ⟨a, b, c, d, e⟩ := g.near f hf
    obtain ⟨u, v⟩ := (sub_get h f).2 ⟨d, e⟩
    exact ⟨a, b, c, u, v⟩
  row := by
    refine ⟨fun e he => ?_, ?_⟩
    · obtain ⟨f, hf, rfl⟩ := List.mem_map.mp he
      exact g.row.1 f hf
    · unfold Wd.swap
      rw [List.pairwise_map]
      exact g.row.2
  lo := by
    have e : lastOf (Wd.swap kvs es) = lastOf es := by
      unfold lastOf Wd.swap
      rw [List.getLast?_map, Option.map_map]
      rfl
    rw [e]
    exact g.lo
  hi := g.hi
  few := by
    unfold Wd.swap
    rw [List.length_map]
    exact g.few
def spChg (K : PySem.W.Frag) (C CIT : Addr) : Sp := fun vs H Q E => ∃ a es k y, vs = [.ref a, y] ∧ TapeAt K C H a es k ∧ Good es k ∧
  ((Isi K H y "dict" false ∧ ∀ H', Same H H' → E (.ref CIT) none H') ∨ ∃ d kvs, y = .ref d ∧ H d = some (.dK kvs) ∧ kvs.length ≤ 100 ∧ (kvs.map (·.1)).Nodup ∧ (∀ p ∈ kvs, ∀ H', Ob [d] H H' → IntV K H' p.2) ∧
    ((∃ p ∈ kvs, ¬ IntKV p) → ∀ H', Same H H' → E (.ref CIT) none H') ∧ ((∀ p ∈ kvs, IntKV p) → ∀ b H', Same H H' → TapeAt K C H' b (swap kvs es) k → Q (.ref b) H'))
section
variable {P : Program} {w : World} {K : PySem.W.Frag} {mg : Str → Option Value} {base : Heap} {fI fL fB fT C CIT CIN CIO CUI f1 f2 t0 fS : Addr}
abbrev nTab : List Str := ["value", "key"]
theorem scTab : FnScope nTab ["value"] (defScope sIsValueTable) := ⟨rfl, rfl, rfl, by decide +kernel, rfl, by decide +kernel, by decide +kernel⟩
theorem ok_tab {f : Addr} {fd fdI : FuncData} (F : Fun K "is_value_table" "is_value_table" sIsValueTable f fd) (X : WTxt mg fI fL) (FI : Fun K "is_integer" "is_integer" sIsInteger fI fdI) (bI : Binds K fdI ["value"] []) :
    FnOk P w K mg base CX0 2 f fd ["value"] (spTab K) := by
  have GI : FnOk P w K mg base CX0 1 fI fdI ["value"] (spInt K) := ok_int FI X
  refine F.ok scTab (fun vs H Q E h => ?_) (fun cdv A outer s H vs Q E hr h => ?_)
  · obtain ⟨y, rfl, _⟩ := h
    rfl
  · obtain ⟨y, rfl, h⟩ := h
    refine ⟨_, pss_one (ps_ret (pe_and (pe_isi (N := "dict") (pv 0) X.isin X.dict) (pe_one (pe_callB (cr_all rfl) (by rfl) X.all (by decide +kernel) (pa_cons (pe_lock (pe_lc (own := [("key", 1)]) (g := gName 1) (tt := tYes) rfl scTab.nd (pi_keys (pv 0))
          (blkOk_by (N := nTab) (sc := defScope sIsValueTable) (by decide +kernel)) (fun _ _ _ _ _ => pg_name (i := 1) scTab.nd rfl (Or.inl rfl)) (fun _ _ _ _ _ => pts_nil)
          (fun _ _ _ _ _ => pe_and (pe_call GI hr rfl X.fi FI.kp bI .nil pass0 (pa_cons (pv 1) pa_nil)) (pe_one (pe_call GI hr rfl X.fi FI.kp bI .nil pass0 (pa_cons (pe_dget (hu_of hr) (pv 0) (pv 1) (fun _ _ => rfl)) pa_nil)))))) pa_nil))))), ?_⟩
    rcases h with ⟨i1, q⟩ | ⟨a, kvs, rfl, e1, few, nd, iv, k⟩
    · exact ⟨_, rfl, _, i1, _, rfl, iteF q⟩
    · refine ⟨_, rfl, true, isi_ty (.base (.dK e1)) (by decide), _, rfl, iteT ⟨a, _, e1, True.intro, fun od => ?_⟩⟩
      have sf : Ob [a] H (upd H a (.frz od (.dK kvs))) := fun b o nb e => by
        rw [upd_ne (fun q => nb (by rw [q]; exact List.mem_singleton.mpr rfl))]
        exact e
      have h1 : (upd H a (.frz od (.dK kvs))) a = some (.frz od (.dK kvs)) := upd_same
      generalize hH : upd H a (.frz od (.dK kvs)) = Hf at sf h1
      refine ⟨_, rfl, a, od, rfl, .inl ⟨kvs, h1, fun D hD => ?_⟩⟩
      refine lc_bools (walk_keys (kvs := kvs) (d := a) (o := od)) (fun i => ∃ p, kvs[i]? = some p ∧ IntKV p) hD (by omega) (fun H s => s _ _ h1) ?_ ?_
      · rintro i x H1 H' kk hi s1 ⟨rfl, ky, vy, hx, rfl⟩ h
        have hmem := List.mem_of_getElem? hx
        refine ⟨rfl, _, rfl, kV ky, rfl, key_int K _ ky, fun b2 hb2 => ⟨b2, rfl, ?_⟩⟩
        cases b2 with
        | false => exact iteF (h _ _ (Same.refl _) (nay fun ⟨p, hp, q, _⟩ => by rw [hx] at hp; cases hp; exact Bool.noConfusion (hb2.mpr q)))
        | true =>
          refine iteT ⟨_, rfl, _, rfl, a, vy, rfl, ?_, vy, rfl, iv _ hmem _ (sf.same s1), fun b3 hb3 => h _ _ (Same.refl _) (hb3.trans ⟨fun q => ⟨_, hx, hb2.mp rfl, q⟩, fun ⟨p, hp, _, q⟩ => by rw [hx] at hp; cases hp; exact q⟩)⟩
          rw [← val_at nd hx]
          exact .inl ⟨kvs, ky, .inr ⟨od, s1 _ _ h1⟩, rfl, rfl⟩
      · rintro H1 bs s1 hD1 hb
        rw [all_at] at hb
        have e2 := s1 _ _ h1
        have nD : D ≠ a := fun q => by
          rw [q, h1] at hD
          cases hD
        refine ⟨e2, D, bs, rfl, SqL.of ((upd_ne nD).trans hD1), k _ _ (fun b o e => ?_) hb⟩
        by_cases q : b = a
        · subst q
          rw [e1] at e
          rw [upd_same]
          exact e
        · rw [upd_ne q]
          refine s1 _ _ ?_
          rw [← hH, upd_ne q]
          exact e
abbrev nChg : List Str := ["self", "table", "events", "at", "source", "letter", "value"]
theorem scChg : FnScope nChg ["self", "table"] (defScope cTape_changed) := ⟨rfl, rfl, rfl, by decide +kernel, rfl, by decide +kernel, by decide +kernel⟩
theorem ok_chg {f : Addr} {fd fdN fdT : FuncData} (F : Fun K "changed" "Tape.changed" cTape_changed f fd) (N : TNew P w K mg base C CIT f1 f2 t0 fdN) (X : WTxt mg fI fL) (T : ErrT K mg "InvalidTape" CIT)
    (mT : mg "is_value_table" = some (.ref fT)) (kT : PySem.W.keepIn K (.ref fT) = true) (bT : Binds K fdT ["value"] []) (GT : FnOk P w K mg base CX0 2 fT fdT ["value"] (spTab K)) :
    FnOk P w K mg base (L2.CX P w) 7 f fd ["self", "table"] (spChg K C CIT) := by
  obtain ⟨g2, kb2⟩ := N.k2
  refine F.okX scChg (fun vs H Q E h => ?_) (fun cdv A outer s H vs Q E hr h => ?_)
  · obtain ⟨a, es, k, y, rfl, _⟩ := h
    rfl
  · obtain ⟨a, es, k, y, rfl, ta, g, h⟩ := h
    have hr2 : Room 2 _ := hr.mono (by decide)
    have hr6 : Room 6 _ := hr.mono (by decide)
    obtain ⟨dx, t, ha, xs, ts, p⟩ := id ta
    refine ⟨_, pss_cons (ps_if (pt_not (pt_val (pe_call GT hr2 rfl mT kT bT .nil pass0 (pa_cons (pv 1) pa_nil)))) (pss_one (ps_raise rfl (takes_of rfl rfl rfl rfl) (pmk_own PySem.F.excBase_ValueError T.x T.g T.k (raises_own T.b T.t) rfl))) pss_nil)
      (pss_cons (ps_set (i := 2) scChg.nd rfl (Or.inl rfl) (pe_callTy call_tuple_of (by rfl) X.tup (by decide +kernel) (pa_cons (pe_lc (own := [("at", 3), ("source", 4), ("letter", 5), ("value", 6)]) (g := gTup K 4 (gCons (gName 3) (gCons (gName 4) (gCons (gName 5) (gCons (gName 6) gNil))))) (tt := tYes) rfl scChg.nd (pi_tup (pe_fld (pv 0) rfl))
          (blkOk_by (N := nChg) (sc := defScope cTape_changed) (by decide +kernel))
          (fun _ _ _ _ _ => pg_tup rfl (pgs_cons (pg_name (i := 3) scChg.nd rfl (Or.inl rfl)) (pgs_cons (pg_name (i := 4) scChg.nd rfl (Or.inl rfl)) (pgs_cons (pg_name (i := 5) scChg.nd rfl (Or.inl rfl)) (pgs_cons (pg_name (i := 6) scChg.nd rfl (Or.inl rfl)) pgs_nil)))))
          (fun _ _ _ _ _ => pts_nil) (fun _ _ _ _ _ => pe_tup (pa_cons (pv 3) (pa_cons (pv 4) (pa_cons (pv 5) (pa_cons (pe_dget2 (hu_of hr) (pv 1) (pv 6) (pv 6) (by constructor <;> rfl)) pa_nil)))))) pa_nil)))
      (pss_one (ps_ret (pe_makeN (n := 1) N.y.mak N.g hr6 rfl N.y.mgC kb2 (passes_call (takes_of rfl rfl rfl rfl) (fun _ _ _ _ h => h)) (pa_cons (pv 2) pa_nil) (pk_cons (pe_fld (pv 0) rfl) pk_nil))))), ?_⟩
    rcases h with ⟨i1, no⟩ | ⟨d, kvs, rfl, hd, few, nd, iv, no, q⟩
    · exact ⟨_, rfl, y, rfl, .inl ⟨i1, false, rfl, iteT (no H (Same.refl _))⟩⟩
    · refine ⟨_, rfl, .ref d, rfl, .inr ⟨d, kvs, rfl, hd, few, nd, iv, fun H0 b s0 hb => ⟨b, rfl, ?_⟩⟩⟩
      cases b with
      | false =>
        refine iteT (no ?_ H0 s0)
        refine Classical.byContradiction fun z => Bool.noConfusion (hb.mpr fun p hp => Classical.byContradiction fun y => z ⟨p, hp, y⟩)
      | true =>
        have good := hb.mp rfl
        have ha0 := s0 _ _ ha
        have hd0 := s0 _ _ hd
        have ts0 := ts.mono (Kp.of s0)
        have p0 : Paired (EvAt H0) xs es := Paired.mono (fun _ _ q => q.mono (Kp.of s0)) p
        refine iteF ⟨_, rfl, a, C, dx, _, _, rfl, ha0, N.y.cl, N.y.nE, tf_events t k, t, rfl, ⟨xs, ts0.sq⟩, fun D hD => ?_⟩
        have lx : xs.length = es.length := p.length
        have lf := g.few
        refine lc_each (walk_tup (K := K) (xs := xs) (a := t)) (fun j H y => ∃ e, es[j]? = some e ∧ EvAt H y (e.sub kvs)) (fun j H H' y kp ⟨e, h1, h2⟩ => ⟨e, h1, h2.mono kp⟩) hD (by omega) (fun H s => (ts0.mono (Kp.of s)).sq) ?_ ?_
        · rintro j x H1 H' kT hj s1 ⟨rfl, hx⟩ h
          obtain ⟨e, he, a1, rfl, q1⟩ := paired_get p0 hx
          have hd1 := s1 _ _ hd0
          refine ⟨a1, _, rfl, SqT.of (s1 _ _ q1), rfl, _, _, rfl, _, _, rfl, _, _, rfl, _, _, rfl, rfl, rfl, ?_⟩
          refine ⟨_, rfl, _, rfl, _, rfl, _, rfl, d, rfl, .inl ⟨kvs, .inl hd1⟩, _, rfl, _, rfl, valV kvs (.inl e.v), DGet.k (k := Sum.inl e.v) hd1, (by show 4 ≤ sizeLine; decide), fun z hz => h _ _ (fresh hz) ⟨e, he, z, rfl, ?_⟩⟩
          rw [upd_same]
          show some (HO.tup [.int e.t, .str e.s, .str ⟨#[e.l]⟩, (valV kvs (.inl e.v)).getD (.int e.v)]) = _
          rw [(sub_get good e).1]
          rfl
        · intro H2 ys s2 hD2 hl hy
          refine ⟨D, _, rfl, .inl ⟨SqL.of hD2, fun l hl2 => ?_⟩⟩
          have s3 : Same H2 (upd H2 l (.tup ys)) := fresh hl2
          have e3 : (upd H2 l (.tup ys)) l = some (.tup ys) := upd_same
          have hy3 : ∀ (j : Nat) y, ys[j]? = some y → ∃ e, es[j]? = some e ∧ EvAt (upd H2 l (.tup ys)) y (e.sub kvs) := fun j y h => let ⟨e, h1, h2⟩ := hy j y h; ⟨e, h1, h2.mono (Kp.of s3)⟩
          have s03 := s2.trans s3
          generalize upd H2 l (.tup ys) = H3 at s3 e3 hy3 s03
          have ev : Evs K H3 l (swap kvs es) := ⟨ys, .inl e3, paired_of (by unfold swap; rw [List.length_map, hl, lx]) fun j y e h1 h2 => by
            obtain ⟨e', q1, q2⟩ := hy3 j y h1
            unfold swap at h2
            rw [List.getElem?_map, q1] at h2
            cases h2
            exact q2⟩
          have ha3 := s03 _ _ ha0
          have gc := g.swap good
          refine ⟨_, rfl, _, rfl, a, C, dx, _, _, rfl, ha3, N.y.cl, N.y.nL, tf_last t k, rfl, rfl, fun x dx' hx hdx ne => ?_⟩
          refine new_reads hx hdx ne ev gc.near (by have := gc.few; omega) (.inr ⟨_, rfl⟩) (fun k' row hk b H' s' tb => ?_) fun nb H' s' => ?_
          · rcases hk with ⟨hk, _⟩ | ⟨hk, h1, h2⟩
            · cases hk
            · cases hk
              exact q good b H' ((s0.trans s03).trans s') tb
          · exact (nb ⟨gc.row, .inr ⟨_, rfl, gc.lo, gc.hi⟩⟩).elim
end
end Wd

set_option Elab.async false
set_option linter.all false
set_option maxRecDepth 100000
set_option maxHeartbeats 4000000
/-! tapes: stamps -/
namespace Wd
open PySem PySem.Spec PyProof.Rows L2
def nextP (o : Option (Int × Int)) (t : Int) : Int := match o with
  | some p => if p.1 = t then p.2 + 1 else 1
  | none => 1
def stamps (es : List Ev) : List (Int × Int) := es.foldl (fun acc e => acc ++ [(e.t, nextP acc.getLast? e.t)]) []
theorem stamps_snoc (es : List Ev) (e : Ev) : stamps (es ++ [e]) = stamps es ++ [(e.t, nextP (stamps es).getLast? e.t)] := by
  unfold stamps
  rw [List.foldl_append]
  rfl
theorem stamps_len : ∀ (es : List Ev), (stamps es).length = es.length := by
  intro es
  have go : ∀ (es : List Ev) (acc : List (Int × Int)), (es.foldl (fun acc e => acc ++ [(e.t, nextP acc.getLast? e.t)]) acc).length = acc.length + es.length := by
    intro es
    induction es with
    | nil => intro acc; rfl
    | cons e l ih =>
      intro acc
      rw [List.foldl_cons, ih, List.length_append]
      show acc.length + 1 + l.length = acc.length + (l.length + 1)
      omega
  have := go es []
  simpa [stamps] using this
def StampV (H : Hp) (x : V) (p : Int × Int) : Prop := ∃ a : Addr, x = .ref a ∧ H a = some (.tup [.int p.1, .int p.2])
theorem StampV.mono {H H' : Hp} {x : V} {p : Int × Int} (kp : Kp H H') (h : StampV H x p) : StampV H' x p := let ⟨a, q, h⟩ := h; ⟨a, q, kp.1 _ _ h⟩
def spStamps (K : PySem.W.Frag) (C : Addr) : Sp := fun vs H Q _ => ∃ a es k, vs = [.ref a] ∧ TapeAt K C H a es k ∧ es.length ≤ 600 ∧ ∀ l xs H', Same H H' → H' l = some (.tup xs) → Paired (StampV H') xs (stamps es) → Q (.ref l) H'
section
variable {P : Program} {w : World} {K : PySem.W.Frag} {mg : Str → Option Value} {base : Heap} {fI fL fB fT C CIT CIN CIO CUI f1 f2 t0 fS : Addr}
theorem scStamps : FnScope ["self", "found", "event", "time", "place"] ["self"] (defScope cTape_stamps) := ⟨rfl, rfl, rfl, by decide +kernel, rfl, by decide +kernel, by decide +kernel⟩
theorem ok_stamps {f : Addr} {fd : FuncData} (F : Fun K "stamps" "Tape.stamps" cTape_stamps f fd) (Y : TpTxt K mg C f1 f2) (mt : mg "tuple" = none) : FnOk P w K mg base CX0 1 f fd ["self"] (spStamps K C) := by
  refine F.ok scStamps (fun vs H Q E h => ?_) (fun cdv A outer s H vs Q E hr h => ?_)
  · obtain ⟨a, es, k, rfl, _⟩ := h
    rfl
  · obtain ⟨a, es, k, rfl, ⟨dx, t, ha, xs, ts, p⟩, few, q⟩ := h
    refine ⟨_, pss_cons (ps_set (i := 1) scStamps.nd rfl (Or.inl rfl) (pe_lst pa_nil))
      (pss_cons (ps_for PassesOwn.never rfl (pi_tup (pe_fld (pv 0) rfl)) (pg_name (i := 2) scStamps.nd rfl (Or.inl rfl))
        (pss_cons (ps_set (i := 3) scStamps.nd rfl (Or.inl rfl) (pe_ix ix_tup (pv 2) pe_int (fun _ _ => rfl)))
        (pss_cons (ps_set (i := 4) scStamps.nd rfl (Or.inl rfl) (pe_ifExp (PW.pt (pw_and (pt_truth (pv 1) (by intro _; rfl)) (pw_and1 (pt_cmpR op_eq (pe_ix ix_tup (pe_ix ix_list (pv 1) (pe_un un_neg pe_int) (fun _ _ => rfl)) pe_int (fun _ _ => rfl)) (pv 3) (nomark _)))))
            (pe_op op_add (pe_ix ix_tup (pe_ix ix_list (pv 1) (pe_un un_neg pe_int) (fun _ _ => rfl)) pe_int (fun _ _ => rfl)) pe_int) pe_int))
        (pss_one (ps_expr (pe_bm PySem.F.plainAttrs_list PySem.F.slot_list_append PySem.F.type_list_append mt_append (pv 1) (pa_cons (pe_tup (pa_cons (pv 3) (pa_cons (pv 4) pa_nil))) pa_nil)))))))
      (pss_one (ps_ret (pe_callTy call_tuple_of (by rfl) mt (by decide +kernel) (pa_cons (pv 1) pa_nil))))), ?_⟩
    refine ⟨(by show 0 ≤ sizeLine; exact Nat.zero_le _), fun L hL => ?_⟩
    have s0 : Same H (upd H L (.lst [])) := fresh hL
    refine ⟨_, rfl, a, C, dx, _, _, rfl, s0 _ _ ha, Y.cl, Y.nE, tf_events t k, t, rfl, ⟨xs, (ts.mono (Kp.of s0)).sq⟩, ?_⟩
    have lx : xs.length = es.length := p.length
    refine for_it (walk_tup (K := K) (xs := xs) (a := t)) (fun i σ H' => Same H H' ∧ (∃ ys, H' L = some (.lst ys) ∧ Paired (StampV H') ys (stamps (es.take i))) ∧ ∃ v2 v3 v4, σ = [some (.ref a), some (.ref L), v2, v3, v4])
      ⟨s0, ⟨[], upd_same, .nil⟩, _, _, _, rfl⟩ (fun i σ H' _ h => (ts.mono (Kp.of h.1)).sq) ?_ ?_
    · rintro i x σ H1 H' hi ⟨s1, ⟨ys, hys, py⟩, v2, v3, v4, rfl⟩ ⟨rfl, hx⟩
      obtain ⟨e, he, a1, rfl, q1⟩ := paired_get p hx
      have ly : ys.length = i := by
        rw [py.length, stamps_len, List.length_take]
        omega
      have et : es.take (i + 1) = es.take i ++ [e] := by rw [List.take_add_one, he]; rfl
      refine ⟨_, rfl, a1, _, _, _, rfl, rfl, SqT.of (s1 _ _ q1), atI_nat (j := 0) rfl, ?_⟩
      -- what comes behind the place
      have go : ∀ pl : Int, pl = nextP (stamps (es.take i)).getLast? e.t → ∀ (z : Addr) (H2 : Hp), H' z = none → H2 = upd H' z (.tup [.int e.t, .int pl]) →
          Same H (upd H2 L (.lst (ys ++ [.ref z]))) ∧ ∃ ws, (upd H2 L (.lst (ys ++ [.ref z]))) L = some (.lst ws) ∧ Paired (StampV (upd H2 L (.lst (ys ++ [.ref z])))) ws (stamps (es.take (i + 1))) := by
        intro pl hpl z H2 hz e2
        have s2 : Same H' H2 := by rw [e2]; exact fresh hz
        have hL2 : H2 L = some (.lst ys) := s2 _ _ hys
        have kp : Kp H2 (upd H2 L (.lst (ys ++ [.ref z]))) := kp_lst hL2
        refine ⟨fun b o eb => ?_, _, upd_same, ?_⟩
        · rw [upd_ne (ne_of_none eb hL)]
          exact s2 _ _ (s1 _ _ eb)
        · rw [et, stamps_snoc, ← hpl]
          refine Paired.snoc (Paired.mono (fun _ _ q => q.mono ((Kp.of s2).trans kp)) py) ⟨z, rfl, kp.1 _ _ ?_⟩
          rw [e2, upd_same]
      have fin : ∀ pl : Int, pl = nextP (stamps (es.take i)).getLast? e.t → ∀ z : Addr, H' z = none →
          (upd H' z (.tup [.int e.t, .int pl])) L = some (.lst ys) ∧ ys.length < sizeLine ∧ (Same H (upd (upd H' z (.tup [.int e.t, .int pl])) L (.lst (ys ++ [.ref z]))) ∧ (∃ ws, (upd (upd H' z (.tup [.int e.t, .int pl])) L (.lst (ys ++ [.ref z]))) L = some (.lst ws) ∧
            Paired (StampV (upd (upd H' z (.tup [.int e.t, .int pl])) L (.lst (ys ++ [.ref z])))) ws (stamps (es.take (i + 1)))) ∧
            ∃ v2 v3 v4, [some (V.ref a), some (.ref L), some (.ref a1), some (.int e.t), some (.int pl)] = [some (.ref a), some (.ref L), v2, v3, v4]) := fun pl hpl z hz => by
        obtain ⟨g1, g2⟩ := go pl hpl z _ hz rfl
        exact ⟨(fresh hz) _ _ hys, small1000 (by omega), g1, g2, _, _, _, rfl⟩
      by_cases y0 : ys = []
      · subst y0
        have st0 : stamps (es.take i) = [] := List.eq_nil_of_length_eq_zero (by rw [← py.length]; rfl)
        refine ⟨_, rfl, false, .inl ⟨[], SqL.of hys, rfl⟩, ?_⟩
        refine iteF ⟨_, rfl, .inl ⟨rfl, _, SqL.of hys⟩, _, rfl, _, rfl, (by show 2 ≤ sizeLine; decide), fun z hz => ?_⟩
        obtain ⟨f1', f2', f3', f4', f5'⟩ := fin 1 (by rw [st0]; rfl) z hz
        exact ⟨L, _, _, rfl, rfl, f1', f2', f3', f4', f5'⟩
      · obtain ⟨ws, y, ew⟩ : ∃ ws y, ys = ws ++ [y] := ⟨ys.dropLast, ys.getLast y0, (List.dropLast_concat_getLast _).symm⟩
        have lw : ys.length = ws.length + 1 := by rw [ew]; simp
        have hy : ys[ws.length]? = some y := by rw [ew]; simp
        obtain ⟨pr, hpr, b, rfl, hb⟩ := paired_get py hy
        have last : (stamps (es.take i)).getLast? = some pr := by
          rw [List.getLast?_eq_getElem?, ← hpr, ← py.length, lw]
          rfl
        have at1 : atI ys (-1) = some (.ref b) := by
          unfold atI ixN
          rw [if_neg (by decide), if_pos (by omega)]
          show ys[((ys.length : Int) + -1).toNat]? = _
          rw [show ((ys.length : Int) + -1).toNat = ws.length by omega]
          exact hy
        refine ⟨_, rfl, true, .inl ⟨ys, SqL.of hys, by rw [ew]; simp⟩, ?_⟩
        refine iteT ⟨_, rfl, _, rfl, L, _, _, _, rfl, rfl, SqL.of hys, at1, b, _, _, _, rfl, rfl, SqT.of hb, atI_nat (j := 0) rfl, _, rfl, rfl, _, rfl, ?_⟩
        refine ite2 (fun c => ?_) (fun c => ?_)
        · have c' : pr.1 = e.t := by
            have := of_decide_eq_true c
            injection this
          refine ⟨_, rfl, _, rfl, L, _, _, _, rfl, rfl, SqL.of hys, at1, b, _, _, _, rfl, rfl, SqT.of hb, atI_nat (j := 1) rfl, _, _, rfl, rfl, ?_⟩
          refine ⟨_, rfl, .inl ⟨rfl, _, SqL.of hys⟩, _, rfl, _, rfl, (by show 2 ≤ sizeLine; decide), fun z hz => ?_⟩
          obtain ⟨f1', f2', f3', f4', f5'⟩ := fin (pr.2 + 1) (by rw [last]; show _ = if pr.1 = e.t then _ else _; rw [if_pos c']) z hz
          exact ⟨L, _, _, rfl, rfl, f1', f2', f3', f4', f5'⟩
        · have c' : ¬ pr.1 = e.t := fun h => c (decide_eq_true (by rw [h]))
          refine ⟨_, rfl, .inl ⟨rfl, _, SqL.of hys⟩, _, rfl, _, rfl, (by show 2 ≤ sizeLine; decide), fun z hz => ?_⟩
          obtain ⟨f1', f2', f3', f4', f5'⟩ := fin 1 (by rw [last]; show _ = if pr.1 = e.t then _ else _; rw [if_neg c']) z hz
          exact ⟨L, _, _, rfl, rfl, f1', f2', f3', f4', f5'⟩
    · rintro σ H1 ⟨s1, ⟨ys, hys, py⟩, v2, v3, v4, rfl⟩
      rw [lx, List.take_length] at py
      refine ⟨_, rfl, L, _, rfl, .inl ⟨SqL.of hys, fun l hl => ?_⟩⟩
      have s2 : Same H1 (upd H1 l (.tup ys)) := fresh hl
      exact q l ys _ (s1.trans s2) upd_same (Paired.mono (fun _ _ q => q.mono (Kp.of s2)) py)
end
end Wd

set_option Elab.async false
set_option linter.all false
set_option maxRecDepth 100000
set_option maxHeartbeats 4000000
/-! equal data -/
namespace Wd
open PySem PySem.Spec PyProof.Rows L2
theorem or_call {X : Cx} {f : Value} {r1 r2 : List V → Hp → VK → Prop} (h1 : CallR X f r1) (h2 : CallR X f r2) : CallR X f (fun xs H Q => r1 xs H Q ∨ r2 xs H Q) :=
  fun pins s σ H vs us Q I r h => h.elim (h1 pins s σ H vs us Q I r) (h2 pins s σ H vs us Q I r)
def Scl (x : V) : Prop := x = .non ∨ (∃ b, x = .bl b) ∨ (∃ i, x = .int i) ∨ ∃ s, x = .str s
theorem Scl.leaf {K : PySem.W.Frag} {x : V} (h : Scl x) (H : Hp) : Leaf K H x ∧ scal x x = true := by
  rcases h with rfl | ⟨b, rfl⟩ | ⟨b, rfl⟩ | ⟨b, rfl⟩
  · exact ⟨leaf_non, rfl⟩
  · exact ⟨leaf_bl b, rfl⟩
  · exact ⟨leaf_int b, rfl⟩
  · exact ⟨leaf_str b, rfl⟩
def keyOk (k : Key) : Prop := match k with
  | .inl _ => True
  | .inr s => PyData.strOk s = true
/-- data that is equal -/
inductive Eqd (K : PySem.W.Frag) (H : Hp) : Nat → V → V → Prop where
  | sc {n x} (h : Scl x) : Eqd K H (n + 1) x x
  | tup {n a b xs ys} (h1 : TupS K H a xs) (h2 : TupS K H b ys) (l : xs.length = ys.length) (few : xs.length ≤ 900) (p : ∀ (i : Nat) x y, xs[i]? = some x → ys[i]? = some y → Eqd K H n x y) : Eqd K H (n + 1) (.ref a) (.ref b)
  | lst {n a b xs ys} (h1 : H a = some (.lst xs)) (h2 : H b = some (.lst ys)) (l : xs.length = ys.length) (few : xs.length ≤ 900) (p : ∀ (i : Nat) x y, xs[i]? = some x → ys[i]? = some y → Eqd K H n x y) : Eqd K H (n + 1) (.ref a) (.ref b)
  | dic {n a k v} (h : H a = some (.dK [(k, v)])) (o : keyOk k) (e : Scl v) (hn : 1 ≤ n) : Eqd K H (n + 1) (.ref a) (.ref a)
theorem Eqd.mono {K : PySem.W.Frag} {H H' : Hp} {n : Nat} {x y : V} (s : Same H H') (h : Eqd K H n x y) : Eqd K H' n x y := by
  induction h with
  | sc h => exact .sc h
  | tup h1 h2 l few p ih => exact .tup (h1.mono (Kp.of s)) (h2.mono (Kp.of s)) l few ih
  | lst h1 h2 l few p ih => exact .lst (s _ _ h1) (s _ _ h2) l few ih
  | dic h o e hn => exact .dic (s _ _ h) o e hn
/-- two lists or two tuples -/
structure SeqE (K : PySem.W.Frag) (H : Hp) (n : Nat) (a b : Addr) (xs ys : List V) : Prop where
  len : xs.length = ys.length
  few : xs.length ≤ 900
  eqd : ∀ (i : Nat) (x y : V), xs[i]? = some x → ys[i]? = some y → Eqd K H n x y
  sq : ∀ H9, Same H H9 → (SqL K H9 a xs ∨ SqT K H9 a xs) ∧ (SqL K H9 b ys ∨ SqT K H9 b ys) ∧ IsSeq K H9 (.ref a) true ∧ Isi K H9 (.ref a) "dict" false ∧ Isi K H9 (.ref b) "dict" false
  ty : ∃ ct cl, ∀ H9, Same H H9 → Isi K H9 (.ref a) "tuple" ct ∧ Isi K H9 (.ref b) "tuple" ct ∧ Isi K H9 (.ref a) "list" cl ∧ Isi K H9 (.ref b) "list" cl
theorem threeE {K : PySem.W.Frag} {H : Hp} {n : Nat} {v u : V} (h : Eqd K H (n + 1) v u) :
    (∃ a k z, v = .ref a ∧ u = .ref a ∧ H a = some (.dK [(k, z)]) ∧ keyOk k ∧ Scl z ∧ 1 ≤ n) ∨ (∃ a b xs ys, v = .ref a ∧ u = .ref b ∧ SeqE K H n a b xs ys) ∨ (u = v ∧ Scl v) := by
  cases h with
  | sc h => exact .inr (.inr ⟨rfl, h⟩)
  | @tup _ a b xs ys h1 h2 l few p =>
    refine .inr (.inl ⟨a, b, xs, ys, rfl, rfl, l, few, p, fun H9 s => ?_, true, false, fun H9 s => ?_⟩)
    · have t1 := (h1.mono (Kp.of s)).ty
      have t2 := (h2.mono (Kp.of s)).ty
      exact ⟨.inr (h1.mono (Kp.of s)).sq, .inr (h2.mono (Kp.of s)).sq, isSeq_ty t1 (x := true) (y := false) (by decide) (by decide) rfl, isi_ty t1 (by decide), isi_ty t2 (by decide)⟩
    · have t1 := (h1.mono (Kp.of s)).ty
      have t2 := (h2.mono (Kp.of s)).ty
      exact ⟨isi_ty t1 (by decide), isi_ty t2 (by decide), isi_ty t1 (by decide), isi_ty t2 (by decide)⟩
  | @lst _ a b xs ys h1 h2 l few p =>
    refine .inr (.inl ⟨a, b, xs, ys, rfl, rfl, l, few, p, fun H9 s => ?_, false, true, fun H9 s => ?_⟩)
    · have g := s _ _ h1
      have g' := s _ _ h2
      exact ⟨.inl (SqL.of g), .inl (SqL.of g'), isSeq_ty (.base (.lst g)) (x := false) (y := true) (by decide) (by decide) rfl, isi_ty (.base (.lst g)) (by decide), isi_ty (.base (.lst g')) (by decide)⟩
    · have g := s _ _ h1
      have g' := s _ _ h2
      exact ⟨isi_ty (.base (.lst g)) (by decide), isi_ty (.base (.lst g')) (by decide), isi_ty (.base (.lst g)) (by decide), isi_ty (.base (.lst g')) (by decide)⟩
  | dic h o e hn => exact .inl ⟨_, _, _, rfl, rfl, h, o, e, hn⟩
def spSameE (K : PySem.W.Frag) (n : Nat) : Sp := fun vs H Q _ => ∃ (v u : V), vs = [v, u] ∧ Eqd K H n v u ∧ ∀ H', Same H H' → Q (.bl true) H'
abbrev rSrtS : List V → Hp → VK → Prop := fun xs H Q => ∃ (a : Addr) (kvs : List (Key × V)) (ks : List Str), xs = [.ref a] ∧ Rd H a (.dK kvs) ∧ kvs.map (·.1) = ks.map Sum.inr ∧ ks.length < 64 ∧ ∀ ys p, ys.Perm ks → sortedS ys = true → H p = none → Q (.ref p) (upd H p (.lst (ys.map V.str)))
abbrev rSrtI : List V → Hp → VK → Prop := fun xs H Q => ∃ (a : Addr) (kvs : List (Key × V)) (ks : List Int), xs = [.ref a] ∧ Rd H a (.dK kvs) ∧ kvs.map (·.1) = ks.map Sum.inl ∧ ks.length < 64 ∧ ∀ (ys : List Int) (p : Addr), ys.Perm ks → ys.Pairwise (· ≤ ·) → H p = none → Q (.ref p) (upd H p (.lst (ys.map V.int)))
theorem call_srt {X : Cx} (hc : X.calm = true) : CallR X (.builtin "sorted") (fun xs H Q => rSrtS xs H Q ∨ rSrtI xs H Q) := or_call (call_sortedD hc) (call_sortedDI hc)
/-- a dict of one entry, sorted -/
theorem srt_one {H : Hp} {a : Addr} {k : Key} {v : V} {Q : VK} (h : H a = some (.dK [(k, v)])) (q : ∀ p, H p = none → Q (.ref p) (upd H p (.lst [kV k]))) : rSrtS [.ref a] H Q ∨ rSrtI [.ref a] H Q := by
  cases k with
  | inr s =>
    refine .inl ⟨a, _, [s], rfl, .inl h, rfl, (by show 1 < 64; decide), fun ys p pm _ hp => ?_⟩
    rw [List.perm_singleton.mp pm]
    exact q p hp
  | inl i =>
    refine .inr ⟨a, _, [i], rfl, .inl h, rfl, (by show 1 < 64; decide), fun ys p pm _ hp => ?_⟩
    rw [List.perm_singleton.mp pm]
    exact q p hp
theorem dp_one {K : PySem.W.Frag} {H : Hp} {p q : Addr} {k : Key} (h : H p = some (.lst [kV k])) (h' : H q = some (.lst [kV k])) (o : keyOk k) : ∃ d, Dp K H (.ref p) d ∧ Dp K H (.ref q) d ∧ SeqAt.shaped d = true ∧ PyData.eqv d d = true := by
  cases k with
  | inr s =>
    refine ⟨.list ([s].map PyData.str), dp_strs (SqL.of (by exact h)), dp_strs (SqL.of (by exact h')), shaped_strs (fun y hy => ?_), (eqv_strs [s] [s]).trans (decide_eq_true rfl)⟩
    rw [List.mem_singleton.mp hy]
    exact o
  | inl i =>
    refine ⟨.list [.int i], .lst (SqL.of h) (.cons (.int i) .nil), .lst (SqL.of h') (.cons (.int i) .nil), by rfl, ?_⟩
    show ((i == i) && true) = true
    simp
section
variable {P : Program} {w : World} {K : PySem.W.Frag} {mg : Str → Option Value} {base : Heap} {fI fL : Addr}
theorem scSameE : FnScope ["one", "other", "key", "k"] ["one", "other"] (defScope sSame) := ⟨rfl, rfl, rfl, by decide +kernel, rfl, by decide +kernel, by decide +kernel⟩
abbrev nSameE : List Str := ["one", "other", "key", "k"]
theorem ok_sameE {f : Addr} {fd : FuncData} (F : Fun K "_law_same" "_law_same" sSame f fd) (X : WTxt mg fI fL) (mli : mg "list" = none) (msor : mg "sorted" = none) (mc : mg "_law_same" = some (.ref f)) (b : Binds K fd ["one", "other"] []) :
    ∀ n, FnOk P w K mg base CX0 (n + 3) f fd ["one", "other"] (spSameE K n)
  | 0 => by
    refine F.ok scSameE (fun vs H Q E h => ?_) (fun cdv A outer s H vs Q E hr h => ?_)
    · obtain ⟨v, u, rfl, _⟩ := h
      rfl
    · obtain ⟨v, u, rfl, d, _⟩ := h
      cases d
  | n + 1 => by
    have G : FnOk P w K mg base CX0 (n + 3) f fd ["one", "other"] (spSameE K n) := ok_sameE F X mli msor mc b n
    refine F.ok scSameE (fun vs H Q E h => ?_) (fun cdv A outer s H vs Q E hr h => ?_)
    · obtain ⟨v, u, rfl, _⟩ := h
      rfl
    · obtain ⟨v, u, rfl, d, k⟩ := h
      have hr0 : Room 2 _ := hr.mono (by omega)
      refine ⟨_, pss_cons (ps_if (PW.pt (pw_or (pt_val (pe_isi (N := "dict") (pv 0) X.isin X.dict)) (pw_or1 (pt_val (pe_isi (N := "dict") (pv 1) X.isin X.dict)))))
          (pss_cons (ps_if (PW.pt (pw_or (pt_not (pt_val (pe_isi (N := "dict") (pv 0) X.isin X.dict))) (pw_or (pt_not (pt_val (pe_isi (N := "dict") (pv 1) X.isin X.dict)))
              (pw_or1 (pt_cmpR (op_neD hr.units) (pe_callB (call_srt rfl) (by rfl) msor (by decide +kernel) (pa_cons (pv 0) pa_nil)) (pe_callB (call_srt rfl) (by rfl) msor (by decide +kernel) (pa_cons (pv 1) pa_nil)) (nomark _)))))) (pss_one (ps_ret pe_bl)) pss_nil)
          (pss_one (ps_ret (pe_callB (cr_all rfl) (by rfl) X.all (by decide +kernel) (pa_cons (pe_lock (pe_lc (own := [("key", 2)]) (g := gName 2) (tt := tYes) rfl scSameE.nd (pi_keys (pv 0))
            (blkOk_by (N := nSameE) (sc := defScope sSame) (by decide +kernel)) (fun _ _ _ _ _ => pg_name (i := 2) scSameE.nd rfl (Or.inl rfl)) (fun _ _ _ _ _ => pts_nil)
            (fun _ _ _ _ _ => pe_call G hr rfl mc F.kp b .nil pass0 (pa_cons (pe_dget (hu_of hr) (pv 0) (pv 2) (fun _ _ => rfl)) (pa_cons (pe_dget (hu_of hr) (pv 1) (pv 2) (fun _ _ => rfl)) pa_nil))))) pa_nil))))) pss_nil)
        (pss_cons (ps_if (PW.pt (pw_or (pt_val (pe_callB call_isiT (by rfl) X.isin (by decide +kernel) (pa_cons (pv 0) (pa_cons (pe_tup (pa_cons (pe_bltn (v := .ty "tuple") (by rfl) X.tup (by decide +kernel) rfl) (pa_cons (pe_bltn (v := .ty "list") (by rfl) mli (by decide +kernel) rfl) pa_nil))) pa_nil))))
            (pw_or1 (pt_val (pe_callB call_isiT (by rfl) X.isin (by decide +kernel) (pa_cons (pv 1) (pa_cons (pe_tup (pa_cons (pe_bltn (v := .ty "tuple") (by rfl) X.tup (by decide +kernel) rfl) (pa_cons (pe_bltn (v := .ty "list") (by rfl) mli (by decide +kernel) rfl) pa_nil))) pa_nil)))))))
          (pss_cons (ps_if (PW.pt (pw_or (pt_cmpR op_ne (pe_isi (N := "tuple") (pv 0) X.isin X.tup) (pe_isi (N := "tuple") (pv 1) X.isin X.tup) (nomark _)) (pw_or1 (pt_cmpR op_ne (pe_isi (N := "list") (pv 0) X.isin mli) (pe_isi (N := "list") (pv 1) X.isin mli) (nomark _))))) (pss_one (ps_ret pe_bl)) pss_nil)
          (pss_one (ps_ret (pe_and (pe_cmpR op_eq (pe_callB call_len_seq (by rfl) X.len PySem.boot_len (pa_cons (pv 0) pa_nil)) (pe_callB call_len_seq (by rfl) X.len PySem.boot_len (pa_cons (pv 1) pa_nil)) (nomark _))
            (pe_one (pe_callB (cr_all rfl) (by rfl) X.all (by decide +kernel) (pa_cons (pe_lc (own := [("k", 3)]) (g := gName 3) (tt := tYes) rfl scSameE.nd
            (pi_range1 rfl X.range (pa_cons (pe_callB call_len_seq (by rfl) X.len PySem.boot_len (pa_cons (pv 0) pa_nil)) pa_nil))
            (blkOk_by (N := nSameE) (sc := defScope sSame) (by decide +kernel)) (fun _ _ _ _ _ => pg_name (i := 3) scSameE.nd rfl (Or.inl rfl)) (fun _ _ _ _ _ => pts_nil)
            (fun _ _ _ _ _ => pe_call G hr rfl mc F.kp b .nil pass0 (pa_cons (pe_ix (r := rIxLT K) ix_lt (pv 0) (pv 3) (fun _ _ => rfl)) (pa_cons (pe_ix (r := rIxLT K) ix_lt (pv 1) (pv 3) (fun _ _ => rfl)) pa_nil)))) pa_nil))))))) pss_nil)
        (pss_cons (ps_if (PW.pt (pw_or (pt_cmp (pc_isN (pv 0)) rfl) (pw_or1 (pt_cmp (pc_isN (pv 1)) rfl)))) (pss_one (ps_ret (pe_and (pe_cmp (pc_isN (pv 0)) rfl) (pe_one (pe_cmp (pc_isN (pv 1)) rfl))))) pss_nil)
        (pss_one (ps_ret (pe_and (pe_cmpR op_eq (pe_isi (N := "bool") (pv 0) X.isin X.bool) (pe_isi (N := "bool") (pv 1) X.isin X.bool) (nomark _)) (pe_one (pe_cmpR op_eq (pv 0) (pv 1) (nomark _)))))))), ?_⟩
      rcases threeE d with ⟨a, ky, z, rfl, rfl, e1, ok, sz, n1⟩ | ⟨a, b', xs, ys, rfl, rfl, S⟩ | ⟨rfl, lf⟩
      · have i1 : ∀ {H9 : Hp}, Same H H9 → Isi K H9 (.ref a) "dict" true := fun s => isi_ty (.base (.dK (s _ _ e1))) (by decide)
        refine ⟨_, rfl, _, i1 (Same.refl _), _, rfl, iteT (iteT ⟨_, rfl, _, i1 (Same.refl _), _, rfl, iteF ⟨_, rfl, _, i1 (Same.refl _), _, rfl, iteF ?_⟩⟩)⟩
        refine ⟨_, rfl, srt_one e1 fun p1 hp1 => ?_⟩
        have s1 : Same H (upd H p1 (.lst [kV ky])) := fresh hp1
        have g1 : (upd H p1 (.lst [kV ky])) p1 = some (.lst [kV ky]) := upd_same
        generalize upd H p1 (.lst [kV ky]) = H1 at s1 g1
        refine ⟨_, rfl, srt_one (s1 _ _ e1) fun p2 hp2 => ?_⟩
        have s2 : Same H1 (upd H1 p2 (.lst [kV ky])) := fresh hp2
        have g2 : (upd H1 p2 (.lst [kV ky])) p2 = some (.lst [kV ky]) := upd_same
        generalize upd H1 p2 (.lst [kV ky]) = H2 at s2 g2
        have s12 := s1.trans s2
        obtain ⟨dd, d1, f1, d2, ede⟩ := dp_one (K := K) (s2 _ _ g1) g2 ok
        refine ⟨_, _, d1, f1, d2, d2, _, rfl, ?_⟩
        rw [ede]
        refine iteF ?_
        have e2 := s12 _ _ e1
        refine ⟨a, _, e2, True.intro, fun od => ?_⟩
        have h1 : (upd H2 a (.frz od (.dK [(ky, z)]))) a = some (.frz od (.dK [(ky, z)])) := upd_same
        have un2 : ∀ {H9 : Hp}, Same (upd H2 a (.frz od (.dK [(ky, z)]))) H9 → Same H (upd H9 a (.dK [(ky, z)])) := fun s1 b o e => by
          by_cases q : b = a
          · subst q
            rw [e1] at e
            rw [upd_same]
            exact e
          · rw [upd_ne q]
            refine s1 _ _ ?_
            rw [upd_ne q]
            exact s12 _ _ e
        generalize upd H2 a (.frz od (.dK [(ky, z)])) = Hf at h1 un2
        refine ⟨_, rfl, a, od, rfl, .inl ⟨_, h1, fun D hD => ?_⟩⟩
        refine lc_bools (walk_keys (kvs := [(ky, z)]) (d := a) (o := od)) (fun i => True) hD (by show 1 ≤ 1000; decide) (fun H s => s _ _ h1) ?_ ?_
        · rintro i x H3 H' kk' hi s3 ⟨rfl, ky', vy, hx, rfl⟩ h
          have hmem := List.mem_of_getElem? hx
          rw [List.mem_singleton] at hmem
          cases hmem
          obtain ⟨m, rfl⟩ : ∃ m, n = m + 1 := ⟨n - 1, by omega⟩
          refine ⟨rfl, _, rfl, _, rfl, a, z, rfl, ?_, _, rfl, _, rfl, a, z, rfl, ?_, z, z, rfl, .sc sz, fun H4 s4 => h true H4 s4 (yea trivial)⟩
          · rw [← (valV_pos rfl : valV [(ky, z)] ky = some z)]
            exact .inl ⟨_, ky, .inr ⟨od, s3 _ _ h1⟩, rfl, rfl⟩
          · rw [← (valV_pos rfl : valV [(ky, z)] ky = some z)]
            exact .inl ⟨_, ky, .inr ⟨od, s3 _ _ h1⟩, rfl, rfl⟩
        · rintro H3 bs s3 hD3 hb
          have nDa : D ≠ a := fun q => by
            rw [q, h1] at hD
            cases hD
          have hb' : bs.all id = true := hb.mpr fun _ _ => trivial
          refine ⟨s3 _ _ h1, D, bs, rfl, SqL.of ((upd_ne nDa).trans hD3), ?_⟩
          rw [hb']
          exact k _ (un2 s3)
      · obtain ⟨ct, cl, ty⟩ := S.ty
        have z0 := S.sq _ (Same.refl _)
        refine ⟨_, rfl, _, z0.2.2.2.1, _, rfl, iteF ⟨_, rfl, _, z0.2.2.2.2, _, rfl, iteF ?_⟩⟩
        refine ⟨_, rfl, (by show 2 ≤ sizeLine; decide), fun p hp => ?_⟩
        have s1 : Same H (upd H p (.tup [.ty "tuple", .ty "list"])) := fun b o e => by
          rw [upd_ne (ne_of_none e hp)]
          exact e
        have g1 : (upd H p (.tup [.ty "tuple", .ty "list"])) p = some (.tup [.ty "tuple", .ty "list"]) := upd_same
        generalize upd H p (.tup [.ty "tuple", .ty "list"]) = H1 at s1 g1
        have z1 := S.sq _ s1
        obtain ⟨t, ht, kt⟩ := z1.2.2.1
        obtain ⟨t1, t2, t3, t4⟩ := ty _ s1
        refine ⟨_, p, _, t, _, true, rfl, g1, .cons (.ty _) (.cons (.ty _) .nil), ht, kt, _, rfl, iteT (iteT ⟨_, rfl, _, t1, _, rfl, _, t2, ?_, _, rfl, ?_⟩)⟩
        · cases ct <;> rfl
        rw [show decide (V.bl ct = V.bl ct) = true from decide_eq_true rfl]
        refine iteF ⟨_, rfl, _, t3, _, rfl, _, t4, ?_, _, rfl, ?_⟩
        · cases cl <;> rfl
        rw [show decide (V.bl cl = V.bl cl) = true from decide_eq_true rfl]
        refine iteF ⟨_, rfl, a, xs, rfl, z1.1, _, rfl, b', ys, rfl, z1.2.1, rfl, _, rfl, ?_⟩
        rw [show decide (V.int (xs.length : Int) = V.int (ys.length : Int)) = true from decide_eq_true (by rw [S.len])]
        have few := S.few
        refine iteT ⟨_, rfl, a, xs, rfl, z1.1, _, rfl, by omega, by omega, fun D hD => ?_⟩
        have en : (xs.length : Int).toNat = xs.length := Int.toNat_natCast _
        refine lc_bools (walk_range (n := (xs.length : Int).toNat)) (fun i => True) hD (by omega) (fun _ _ => trivial) ?_ ?_
        · rintro i x H3 H' kk' hi s3 ⟨rfl, rfl⟩ h
          have s13 := s1.trans s3
          have z3 := S.sq _ s13
          have hi1 : i < xs.length := by omega
          have hi2 : i < ys.length := S.len ▸ hi1
          have g1' : atI xs (0 + (i : Int)) = some xs[i] := at_nn (by omega) (by rw [show (0 + (i : Int)).toNat = i by omega]; exact List.getElem?_eq_getElem hi1)
          have g2' : atI ys (0 + (i : Int)) = some ys[i] := at_nn (by omega) (by rw [show (0 + (i : Int)).toNat = i by omega]; exact List.getElem?_eq_getElem hi2)
          exact ⟨rfl, _, rfl, _, rfl, a, xs, _, _, rfl, rfl, z3.1, g1', _, rfl, _, rfl, b', ys, _, _, rfl, rfl, z3.2.1, g2', xs[i], ys[i], rfl, (S.eqd i _ _ (List.getElem?_eq_getElem hi1) (List.getElem?_eq_getElem hi2)).mono s13, fun H4 s4 => h true H4 s4 (yea trivial)⟩
        · rintro H3 bs s3 hD3 hb
          have hb' : bs.all id = true := hb.mpr fun _ _ => trivial
          refine ⟨D, bs, rfl, SqL.of hD3, ?_⟩
          rw [hb']
          exact k _ (s1.trans s3)
      · have l0 := (lf.leaf (K := K) H).1
        refine ⟨_, rfl, _, l0.dict, _, rfl, iteF ⟨_, rfl, _, l0.dict, _, rfl, iteF ?_⟩⟩
        refine ⟨_, rfl, (by show 2 ≤ sizeLine; decide), fun p hp => ?_⟩
        have s1 : Same H (upd H p (.tup [.ty "tuple", .ty "list"])) := fun b o e => by
          rw [upd_ne (ne_of_none e hp)]
          exact e
        have g1 : (upd H p (.tup [.ty "tuple", .ty "list"])) p = some (.tup [.ty "tuple", .ty "list"]) := upd_same
        generalize upd H p (.tup [.ty "tuple", .ty "list"]) = H1 at s1 g1
        obtain ⟨t, ht, kt⟩ := (lf.leaf (K := K) H1).1.seq
        refine ⟨_, p, _, t, _, false, rfl, g1, .cons (.ty _) (.cons (.ty _) .nil), ht, kt, _, rfl, iteF ⟨_, rfl, (by show 2 ≤ sizeLine; decide), fun q hq => ?_⟩⟩
        have s2 : Same H1 (upd H1 q (.tup [.ty "tuple", .ty "list"])) := fun b o e => by
          rw [upd_ne (ne_of_none e hq)]
          exact e
        have g2 : (upd H1 q (.tup [.ty "tuple", .ty "list"])) q = some (.tup [.ty "tuple", .ty "list"]) := upd_same
        generalize upd H1 q (.tup [.ty "tuple", .ty "list"]) = H2 at s2 g2
        have s12 := s1.trans s2
        obtain ⟨t', ht', kt'⟩ := (lf.leaf (K := K) H2).1.seq
        refine ⟨_, q, _, t', _, false, rfl, g2, .cons (.ty _) (.cons (.ty _) .nil), ht', kt', _, rfl, iteF ⟨_, rfl, _, rfl, ?_⟩⟩
        obtain ⟨l2, eq2⟩ := lf.leaf (K := K) H2
        obtain ⟨c, hc⟩ := l2.bool
        refine ite2 (fun e => ?_) (fun e => ?_)
        · refine iteT ⟨_, rfl, _, rfl, ?_⟩
          rw [if_pos e]
          refine ⟨_, rfl, ?_⟩
          show Q (.bl (decide (u = V.non))) H2
          rw [e]
          exact k _ s12
        · refine ⟨_, rfl, _, rfl, ?_⟩
          refine ite2 (fun e2 => (e e2).elim) (fun _ => ?_)
          refine ⟨_, rfl, _, hc, _, rfl, _, hc, ?_, _, rfl, ?_⟩
          · cases c <;> rfl
          rw [show decide (V.bl c = V.bl c) = true from decide_eq_true rfl]
          refine iteT ⟨_, rfl, _, rfl, ?_⟩
          refine ⟨eq2, ?_⟩
          rw [decide_eq_true rfl]
          exact k _ s12
end
end Wd

set_option Elab.async false
set_option linter.all false
set_option maxRecDepth 100000
set_option maxHeartbeats 4000000
/-! drawn events -/
namespace Wd
open PySem PySem.Spec PyProof.Rows L2
/-- the letters of a source -/
def LetO (H : Hp) (v : V) : Prop := ∃ t ds, v = .ref t ∧ H t = some (.tup (letV ds)) ∧ 1 ≤ ds.length ∧ ds.length ≤ 26 ∧ ∀ c ∈ ds, low c
def LayO (H : Hp) (d : Addr) : Prop := ∃ kvs : List (Key × V), H d = some (.dK kvs) ∧ 1 ≤ kvs.length ∧ kvs.length ≤ 5 ∧ (kvs.map (·.1)).Nodup ∧ ∀ p ∈ kvs, (∃ z, p.1 = Sum.inr z ∧ NameS z) ∧ LetO H p.2
theorem LetO.mono {H H' : Hp} {v : V} (kp : Kp H H') (h : LetO H v) : LetO H' v := let ⟨t, ds, e, h, r⟩ := h; ⟨t, ds, e, kp.1 _ _ h, r⟩
theorem LayAt.lay {B d : Addr} {H : Hp} (h : LayAt B H d 1 5) : LayO H d := let ⟨kvs, h1, h2, h3, h4, h5⟩ := h; ⟨kvs, h1, h2, h3, h4, fun p hp => let ⟨a, t, ds, e, _, q, r⟩ := h5 p hp; ⟨a, t, ds, e, q, r⟩⟩
theorem LayO.mono {H H' : Hp} {d : Addr} (kp : Kp H H') (e : H' d = H d) (h : LayO H d) : LayO H' d := let ⟨kvs, h1, h2, h3, h4, h5⟩ := h; ⟨kvs, e.trans h1, h2, h3, h4, fun p hp => ⟨(h5 p hp).1, (h5 p hp).2.mono kp⟩⟩
theorem LayO.sb {H H' : Hp} {B d : Addr} (b : BagAt H B) (s : SB B H H') (h : LayO H d) : LayO H' d := by
  obtain ⟨kvs, h1, r⟩ := id h
  refine h.mono (Kp.sb b s) ?_
  rw [h1]
  refine s _ _ (fun q => ?_) h1
  obtain ⟨x, y, z, e⟩ := b
  rw [q, e] at h1
  cases h1
theorem SB.none {B D : Addr} {H H' : Hp} (s : SB B H H') (n : D ≠ B) (h : H' D = none) : H D = none := by
  cases e : H D with
  | none => rfl
  | some o => exact absurd (s _ _ n e) (by rw [h]; exact fun q => nomatch q)
def spEvts (K : PySem.W.Frag) : Sp := fun vs H Q _ => ∃ (B d : Addr) (most gap : Int), vs = [.ref B, .ref d, .int most, .int gap] ∧ BagAt H B ∧ LayO H d ∧ 0 ≤ most ∧ most ≤ 5 ∧ 1 ≤ gap ∧ gap ≤ 10 ^ 58 ∧
  ∀ t es H', Evs K H' t es → (∀ e ∈ es, Near e) → RowOk es → (es.length : Int) ≤ most → lastOf es ≤ most * 10 ^ 58 → SB B H H' → BagAt H' B → Q (.ref t) H'
theorem lastOf_snoc (es : List Ev) (e : Ev) : lastOf (es ++ [e]) = e.t := by simp [lastOf]
theorem ix_key {kvs : List (Key × V)} {ks : List Str} (ek : kvs.map (·.1) = ks.map Sum.inr) {z : Str} (hz : z ∈ ks) : ∃ v, (Sum.inr z, v) ∈ kvs := by
  have : (Sum.inr z : Key) ∈ kvs.map (·.1) := by
    rw [ek]
    exact List.mem_map.mpr ⟨z, hz, rfl⟩
  obtain ⟨p, hp, e⟩ := List.mem_map.mp this
  exact ⟨p.2, by rw [← e]; exact hp⟩
theorem val_in {kvs : List (Key × V)} {k : Key} {v : V} (nd : (kvs.map (·.1)).Nodup) (h : (k, v) ∈ kvs) : valV kvs k = some v := by
  obtain ⟨i, hi⟩ := List.getElem?_of_mem h
  exact val_at nd hi
/-- what the walk of _law_events keeps -/
structure EvW (K : PySem.W.Frag) (H0 H : Hp) (B L NM : Addr) (ns : List Str) (i : Nat) (now : Int) : Prop where
  sb : SB B H0 H
  bag : BagAt H B
  nm : H NM = some (.lst (ns.map V.str))
  ev : ∃ xs es, H L = some (.lst xs) ∧ Paired (EvAt H) xs es ∧ es.length = i ∧ (∀ e ∈ es, Near e) ∧ (es.Pairwise fun a b => a.t ≤ b.t) ∧ now = lastOf es
  lo : 0 ≤ now
  hi : now ≤ i * 10 ^ 58
theorem p58 : (10 : Int) ^ 58 * 9 < ten60 := by decide +kernel
section
variable {P : Program} {w : World} {K : PySem.W.Frag} {mg : Str → Option Value} {base : Heap} {fT fP fV : Addr}
abbrev nEvts : List Str := ["bag", "layout", "most", "gap", "names", "events", "now", "turn", "name"]
theorem scEvts : FnScope nEvts ["bag", "layout", "most", "gap"] (defScope sEvents) := ⟨rfl, rfl, rfl, by decide +kernel, rfl, by decide +kernel, by decide +kernel⟩
theorem ok_events {f : Addr} {fd fdT fdP fdV : FuncData} (F : Fun K "_law_events" "_law_events" sEvents f fd) (T : GTxt mg fT fP) (mV : mg "_law_value" = some (.ref fV)) (FT : Fun K "_law_throw" "_law_throw" sThrow fT fdT) (bT : Binds K fdT ["bag", "total"] [])
    (FP : Fun K "_law_pick" "_law_pick" sPick fP fdP) (bP : Binds K fdP ["bag", "items"] []) (FV : Fun K "_law_value" "_law_value" sValue fV fdV) (bV : Binds K fdV ["bag"] []) :
    FnOk P w K mg base CX0 3 f fd ["bag", "layout", "most", "gap"] (spEvts K) := by
  have GT : FnOk P w K mg base CX0 1 fT fdT ["bag", "total"] spThrow := ok_throw FT T.toTxtA
  have GL : FnOk P w K mg base CX0 2 fP fdP ["bag", "items"] spPickL := ok_pickL FP T.toTxtA FT bT
  have GP : FnOk P w K mg base CX0 2 fP fdP ["bag", "items"] (spPickT K) := ok_pickT FP T.toTxtA FT bT
  have GV : FnOk P w K mg base CX0 2 fV fdV ["bag"] spValue := ok_value FV T.toTxtA FT bT
  refine F.ok scEvts (fun vs H Q E h => ?_) (fun cdv A outer s H vs Q E hr h => ?_)
  · obtain ⟨B, d, most, gap, rfl, _⟩ := h
    rfl
  · obtain ⟨B, d, most, gap, rfl, hB, lay, m0, m5, g1, g58, k⟩ := h
    have hr1 : Room 1 _ := hr.mono (by decide)
    have hr2 : Room 2 _ := hr.mono (by decide)
    refine ⟨_, pss_cons (ps_set (i := 4) scEvts.nd rfl (Or.inl rfl) (pe_callB (call_sortedD rfl) (by rfl) T.sorted (by decide +kernel) (pa_cons (pv 1) pa_nil)))
      (pss_cons (ps_set (i := 5) scEvts.nd rfl (Or.inl rfl) (pe_lst pa_nil))
      (pss_cons (ps_set (i := 6) scEvts.nd rfl (Or.inl rfl) pe_int)
      (pss_cons (ps_for PassesOwn.never rfl (pi_range1 rfl T.range (pa_cons (pe_call GT hr1 rfl T.thr FT.kp bT .nil pass0 (pa_cons (pv 0) (pa_cons (pe_op op_add (pv 2) pe_int) pa_nil))) pa_nil)) (pg_name (i := 7) scEvts.nd rfl (Or.inl rfl))
        (pss_cons (ps_set (i := 6) scEvts.nd rfl (Or.inl rfl) (pe_op op_add (pv 6) (pe_op op_mul (pe_call GT hr1 rfl T.thr FT.kp bT .nil pass0 (pa_cons (pv 0) (pa_cons (pv 3) pa_nil)))
          (pe_callTy call_int1 (by rfl) T.int (by decide +kernel) (pa_cons (pe_cmpR op_gt (pe_call GT hr1 rfl T.thr FT.kp bT .nil pass0 (pa_cons (pv 0) (pa_cons pe_int pa_nil))) pe_int (nomark _)) pa_nil)))))
        (pss_cons (ps_set (i := 8) scEvts.nd rfl (Or.inl rfl) (pe_call GL hr2 rfl T.pick FP.kp bP .nil pass0 (pa_cons (pv 0) (pa_cons (pv 4) pa_nil))))
        (pss_one (ps_expr (pe_bm PySem.F.plainAttrs_list PySem.F.slot_list_append PySem.F.type_list_append mt_append (pv 5) (pa_cons (pe_tup (pa_cons (pv 6) (pa_cons (pv 8)
          (pa_cons (pe_call GP hr2 rfl T.pick FP.kp bP .nil pass0 (pa_cons (pv 0) (pa_cons (pe_dget (hu_of hr) (pv 1) (pv 8) (fun _ _ => rfl)) pa_nil)))
          (pa_cons (pe_call GV hr2 rfl mV FV.kp bV .nil pass0 (pa_cons (pv 0) pa_nil)) pa_nil))))) pa_nil)))))))
      (pss_one (ps_ret (pe_callTy call_tuple_of (by rfl) T.tuple (by decide +kernel) (pa_cons (pv 5) pa_nil))))))), ?_⟩
    obtain ⟨kvs, hd, k1, k5, nd, gd⟩ := id lay
    obtain ⟨ks, ek, lks⟩ := keysLow fun p hp => (gd p hp).1
    refine ⟨_, rfl, d, kvs, ks, rfl, .inl hd, ek, by omega, fun ns NM pm srt hNM => ?_⟩
    have s1 := (SB.refl B H).new (o := .lst (ns.map V.str)) hNM
    have b1 := hB.new (o := .lst (ns.map V.str)) hNM
    have e1 : (upd H NM (.lst (ns.map V.str))) NM = some (.lst (ns.map V.str)) := upd_same
    have nNM := hB.ne hNM
    generalize upd H NM (.lst (ns.map V.str)) = H1 at s1 b1 e1
    refine ⟨(by show 0 ≤ sizeLine; exact Nat.zero_le _), fun L hL => ?_⟩
    have nL := b1.ne hL
    have hL0 := s1.none nL hL
    have nNL : NM ≠ L := ne_of_none e1 hL
    have s2 := s1.new (o := .lst []) hL
    have b2 := b1.new (o := .lst []) hL
    have e2 : (upd H1 L (.lst [])) NM = some (.lst (ns.map V.str)) := (upd_ne nNL).trans e1
    have f2 : (upd H1 L (.lst [])) L = some (.lst []) := upd_same
    generalize upd H1 L (.lst []) = H2 at s2 b2 e2 f2
    refine ⟨_, rfl, _, rfl, _, _, rfl, rfl, B, _, rfl, b2, by omega, Int.le_trans (by omega : most + 1 ≤ 6) (by decide +kernel), fun r H3 r0 r1 s3 b3 => ?_⟩
    refine ⟨_, rfl, by omega, by omega, ?_⟩
    refine for_range (lo := 0) (n := r.toNat) (fun i σ H' => ∃ now v7 v8, σ = [some (.ref B), some (.ref d), some (.int most), some (.int gap), some (.ref NM), some (.ref L), some (.int now), v7, v8] ∧ EvW K H H' B L NM ns i now)
      ⟨0, _, _, rfl, s2.trans s3, b3, s3 _ _ nNM e2, ⟨[], [], s3 _ _ nL f2, .nil, rfl, (fun e h => nomatch h), .nil, rfl⟩, Int.le_refl _, by simp⟩ ?_ ?_
    · rintro i σ H4 hi ⟨now, v7, v8, rfl, W⟩
      have w4 := W
      refine ⟨_, rfl, _, rfl, _, rfl, B, gap, rfl, W.bag, by omega, Int.le_trans g58 (by decide +kernel), fun a H5 a0 a1 s5 b5 => ?_⟩
      refine ⟨_, rfl, B, 3, rfl, b5, by decide, by decide +kernel, fun c H6 c0 c1 s6 b6 => ?_⟩
      refine ⟨_, _, rfl, rfl, .inr ⟨_, rfl, ?_⟩⟩
      obtain ⟨g, hg, hg01⟩ : ∃ g : Int, (if decide (c > 0) = true then (1 : Int) else 0) = g ∧ (g = 0 ∨ g = 1) := ⟨_, rfl, by split <;> simp⟩
      rw [hg]
      have nb : 0 ≤ a * g ∧ a * g ≤ 10 ^ 58 := by
        rcases hg01 with e | e <;> rw [e] <;> omega
      refine ⟨_, _, rfl, rfl, .inr ⟨by omega, by omega⟩, _, _, rfl, rfl, ?_⟩
      have s46 := s5.trans s6
      have nm6 := s46 _ _ nNM W.nm
      have lns : ns.length = ks.length := pm.length_eq
      refine ⟨_, rfl, _, rfl, B, NM, _, rfl, b6, nNM.symm, nm6, by rw [List.length_map]; omega, by rw [List.length_map]; omega, fun y H7 hy s7 b7 => ?_⟩
      obtain ⟨z, hz, rfl⟩ := List.mem_map.mp hy
      have zks : z ∈ ks := pm.mem_iff.mp hz
      obtain ⟨lv, hlv⟩ := ix_key ek zks
      have s47 := W.sb.trans (s46.trans s7)
      obtain ⟨kvs', hd7, _⟩ := lay.sb hB s47
      have nd7 : d ≠ B := fun q => by
        obtain ⟨x1, x2, x3, e⟩ := hB
        rw [q, e] at hd
        cases hd
      have hd7 := s47 _ _ nd7 hd
      obtain ⟨⟨z', ez, nz⟩, t, ds, rfl, ht, d1, d26, dl⟩ := gd _ hlv
      cases ez
      have ntB : t ≠ B := fun q => by
        obtain ⟨x1, x2, x3, e⟩ := hB
        rw [q, e] at ht
        cases ht
      have ht7 := s47 _ _ ntB ht
      obtain ⟨xs, es, hx, px, le, ne, pw, en⟩ := W.ev
      have hx7 := (s46.trans s7) _ _ nL hx
      refine ⟨_, rfl, .inl ⟨rfl, _, SqL.of hx7⟩, _, rfl, _, rfl, _, rfl, _, rfl, _, rfl, d, _, rfl, .inl ⟨kvs, _, .inl hd7, rfl, (val_in nd hlv).symm⟩, B, t, letV ds, rfl, b7, fun H8 s8 => SqT.of (s8 _ _ ntB ht7), ?_, ?_, fun y H8 hy8 s8 b8 => ?_⟩
      · unfold letV
        rw [List.length_map]
        omega
      · unfold letV
        rw [List.length_map]
        omega
      obtain ⟨l, hl, rfl⟩ := List.mem_map.mp hy8
      refine ⟨_, rfl, B, rfl, b8, fun v H9 v0 v1 s9 b9 => ?_⟩
      refine ⟨(by show 4 ≤ sizeLine; decide), fun q hq => ?_⟩
      have s49 := s46.trans (s7.trans (s8.trans s9))
      have hx9 := s49 _ _ nL hx
      have nqL : L ≠ q := ne_of_none hx9 hq
      refine ⟨L, xs, _, rfl, rfl, (upd_ne nqL).trans hx9, ?_, _, _, _, rfl, ?_⟩
      · rw [px.length, le]
        exact small1000 (by omega)
      have px9 : Paired (EvAt H9) xs es := Paired.mono (fun _ _ h => h.mono (Kp.sb W.bag s49)) px
      have kp1 : Kp H9 (upd H9 q (.tup [.int (now + a * g), .str z, .str ⟨#[l]⟩, .int v])) := Kp.of (fresh hq)
      have kp2 : ∀ H10 : Hp, H10 L = some (.lst xs) → Kp H10 (upd H10 L (.lst (xs ++ [.ref q]))) := fun H10 h => kp_lst h
      have lo5 := W.lo
      have hi5 := W.hi
      refine ⟨(((W.sb.trans s49).new hq).own hL0), ((b9.new hq).other nL.symm), (upd_ne nNL).trans ((upd_ne (ne_of_none (s49 _ _ nNM W.nm) hq)).trans (s49 _ _ nNM W.nm)), ⟨_, es ++ [⟨now + a * g, z, l, v⟩], upd_same, ?_, by rw [List.length_append, le]; rfl, ?_, ?_, (lastOf_snoc es ⟨now + a * g, z, l, v⟩).symm⟩, by omega, ?_⟩
      · have h0 : (upd H9 q (.tup [.int (now + a * g), .str z, .str ⟨#[l]⟩, .int v])) L = some (.lst xs) := (upd_ne nqL).trans hx9
        refine Paired.snoc (Paired.mono (fun _ _ h => h.mono (kp1.trans (kp2 _ h0))) px9) ⟨q, rfl, (kp2 _ h0).1 _ _ ?_⟩
        rw [upd_same]
        rfl
      · intro e he
        rcases List.mem_append.mp he with h | h
        · exact ne e h
        · rw [List.mem_singleton.mp h]
          exact ⟨by show 0 ≤ now + a * g; omega, nz, dl l hl, v0, v1⟩
      · rw [List.pairwise_append]
        refine ⟨pw, List.pairwise_singleton _ _, fun e he f hf => ?_⟩
        rw [List.mem_singleton.mp hf]
        have := last_max pw e he
        show e.t ≤ now + a * g
        omega
      · have : ((i + 1 : Nat) : Int) * 10 ^ 58 = (i : Int) * 10 ^ 58 + 10 ^ 58 := by
          rw [Int.natCast_add, Int.add_mul]
          omega
        rw [this]
        omega
    · rintro σ H4 ⟨now, v7, v8, rfl, W⟩
      obtain ⟨xs, es, hx, px, le, ne, pw, en⟩ := W.ev
      have hi5 := W.hi
      have hp := p58
      have rl : (r.toNat : Int) ≤ most := by omega
      have few : (r.toNat : Int) * 10 ^ 58 ≤ most * 10 ^ 58 := Int.mul_le_mul_of_nonneg_right rl (by decide +kernel)
      refine ⟨_, rfl, L, _, rfl, .inl ⟨SqL.of hx, fun l hl => ?_⟩⟩
      have s9 : Same H4 (upd H4 l (.tup xs)) := fresh hl
      refine k l es _ ⟨xs, .inl upd_same, Paired.mono (fun _ _ h => h.mono (Kp.of s9)) px⟩ ne ⟨fun e he => ?_, pw⟩ (by omega) (by omega) (W.sb.trans (SB.of s9)) (W.bag.new hl)
      have := last_max pw e he
      omega
end
end Wd

set_option Elab.async false
set_option linter.all false
set_option maxRecDepth 100000
set_option maxHeartbeats 4000000
/-! plain tapes -/
namespace Wd
open PySem PySem.Spec PyProof.Rows L2
/-- a plain tape: its events and its last time -/
def PlainAt (K : PySem.W.Frag) (H : Hp) (p : Addr) (es : List Ev) (k : Int) : Prop := ∃ t, H p = some (.tup [.ref t, .int k]) ∧ Evs K H t es
theorem PlainAt.mono {K : PySem.W.Frag} {H H' : Hp} {p : Addr} {es : List Ev} {k : Int} (kp : Kp H H') (h : PlainAt K H p es k) : PlainAt K H' p es k := let ⟨t, h, e⟩ := h; ⟨t, kp.1 _ _ h, e.mono kp⟩
def spLTape (K : PySem.W.Frag) : Sp := fun vs H Q _ => ∃ (B d : Addr) (most gap : Int), vs = [.ref B, .ref d, .int most, .int gap] ∧ BagAt H B ∧ LayO H d ∧ 0 ≤ most ∧ most ≤ 5 ∧ 1 ≤ gap ∧ gap ≤ 10 ^ 58 ∧
  ∀ p es k H', PlainAt K H' p es k → Good es k → (es.length : Int) ≤ most → k < 10 ^ 59 → SB B H H' → BagAt H' B → Q (.ref p) H'
def spLater (K : PySem.W.Frag) : Sp := fun vs H Q _ => ∃ p es k by_, vs = [.ref p, .int by_] ∧ PlainAt K H p es k ∧ es.length ≤ 300 ∧ ∀ q H', Same H H' → PlainAt K H' q (shift es by_) (k + by_) → Q (.ref q) H'
def spJoined (K : PySem.W.Frag) : Sp := fun vs H Q _ => ∃ p q es fs k j, vs = [.ref p, .ref q] ∧ PlainAt K H p es k ∧ PlainAt K H q fs j ∧ es.length + fs.length ≤ 300 ∧ ∀ r H', Same H H' → PlainAt K H' r (es ++ shift fs k) (j + k) → Q (.ref r) H'
section
variable {P : Program} {w : World} {K : PySem.W.Frag} {mg : Str → Option Value} {base : Heap} {fI fL fT fP fV fE fLt : Addr}
theorem scLTape : FnScope ["bag", "layout", "most", "gap", "events", "reach"] ["bag", "layout", "most", "gap"] (defScope sTape) := ⟨rfl, rfl, rfl, by decide +kernel, rfl, by decide +kernel, by decide +kernel⟩
theorem ok_ltape {f : Addr} {fd fdT fdE : FuncData} (F : Fun K "_law_tape" "_law_tape" sTape f fd) (T : GTxt mg fT fP) (mE : mg "_law_events" = some (.ref fE)) (FT : Fun K "_law_throw" "_law_throw" sThrow fT fdT) (bT : Binds K fdT ["bag", "total"] [])
    (kE : PySem.W.keepIn K (.ref fE) = true) (bE : Binds K fdE ["bag", "layout", "most", "gap"] []) (GE : FnOk P w K mg base CX0 3 fE fdE ["bag", "layout", "most", "gap"] (spEvts K)) :
    FnOk P w K mg base CX0 4 f fd ["bag", "layout", "most", "gap"] (spLTape K) := by
  have GT : FnOk P w K mg base CX0 1 fT fdT ["bag", "total"] spThrow := ok_throw FT T.toTxtA
  refine F.ok scLTape (fun vs H Q E h => ?_) (fun cdv A outer s H vs Q E hr h => ?_)
  · obtain ⟨B, d, most, gap, rfl, _⟩ := h
    rfl
  · obtain ⟨B, d, most, gap, rfl, hB, lay, m0, m5, g1, g58, k⟩ := h
    have hr1 : Room 1 _ := hr.mono (by decide)
    refine ⟨_, pss_cons (ps_set (i := 4) scLTape.nd rfl (Or.inl rfl) (pe_call GE hr rfl mE kE bE .nil pass0 (pa_cons (pv 0) (pa_cons (pv 1) (pa_cons (pv 2) (pa_cons (pv 3) pa_nil))))))
      (pss_cons (ps_set (i := 5) scLTape.nd rfl (Or.inl rfl) (pe_ifExp (pt_truth (pv 4) (by intro _; rfl)) (pe_ix (r := rIxT K) ix_tup (pe_ix (r := rIxT K) ix_tup (pv 4) (pe_un un_neg pe_int) (fun _ _ => rfl)) pe_int (fun _ _ => rfl)) pe_int))
      (pss_one (ps_ret (pe_tup (pa_cons (pv 4) (pa_cons (pe_op op_add (pv 5) (pe_call GT hr1 rfl T.thr FT.kp bT .nil pass0 (pa_cons (pv 0) (pa_cons (pv 3) pa_nil)))) pa_nil)))))), ?_⟩
    refine ⟨_, rfl, _, rfl, _, rfl, _, rfl, B, d, most, gap, rfl, hB, lay, m0, m5, g1, g58, fun t es H1 ev near row few last s1 b1 => ?_⟩
    have p58' := p58
    have l0 := lastOf_nonneg near
    have fin : ∀ (a : Int) H2, SB B H1 H2 → BagAt H2 B → 0 ≤ a → a < gap → ∀ z, H2 z = none → Q (.ref z) (upd H2 z (.tup [.ref t, .int (lastOf es + a)])) := fun a H2 s2 b2 a0 a1 z hz => by
      have m58 : most * 10 ^ 58 ≤ 5 * 10 ^ 58 := by omega
      have q59 : lastOf es + a < 10 ^ 59 := by omega
      refine k z es (lastOf es + a) _ ⟨t, upd_same, (ev.mono (Kp.sb b1 s2)).mono (Kp.of (fresh hz))⟩ ⟨near, row, by omega, by omega, by omega⟩ few q59 (s1.trans (s2.new hz)) (b2.new hz)
    obtain ⟨xs, ts, px⟩ := id ev
    refine ⟨_, rfl, !xs.isEmpty, ?_, ?_⟩
    · exact .inr (.inl ⟨xs, ts.sq, rfl⟩)
    cases e : xs with
    | nil =>
      subst e
      cases px
      refine iteF ⟨_, rfl, _, rfl, _, rfl, _, rfl, B, gap, rfl, b1, by omega, Int.le_trans g58 (by decide +kernel), fun a H2 a0 a1 s2 b2 => ⟨_, _, rfl, rfl, (by show 2 ≤ sizeLine; decide), fun z hz => fin a H2 s2 b2 a0 a1 z hz⟩⟩
    | cons x0 xr =>
      obtain ⟨ws, y, ew⟩ : ∃ ws y, xs = ws ++ [y] := ⟨xs.dropLast, xs.getLast (fun q => by rw [q] at e; cases e), (List.dropLast_concat_getLast _).symm⟩
      have lw : xs.length = ws.length + 1 := by rw [ew]; simp
      have ly : xs[ws.length]? = some y := by rw [ew]; simp
      obtain ⟨ev1, he, a1, rfl, q1⟩ := paired_get px ly
      have lst : lastOf es = ev1.t := by
        unfold lastOf
        have : es.getLast? = some ev1 := by
          rw [List.getLast?_eq_getElem?, ← he, ← px.length, lw]
          rfl
        rw [this]
        rfl
      have q : atI xs (-1) = some (.ref a1) := by
        unfold atI ixN
        rw [if_neg (by decide), if_pos (by omega)]
        show xs[((xs.length : Int) + -1).toNat]? = _
        rw [show ((xs.length : Int) + -1).toNat = ws.length by omega]
        exact ly
      refine iteT ⟨_, rfl, _, rfl, t, xs, -1, _, rfl, rfl, ts.sq, q, a1, _, _, _, rfl, rfl, SqT.of q1, atI_nat (j := 0) rfl, ?_⟩
      refine ⟨_, rfl, _, rfl, _, rfl, _, rfl, B, gap, rfl, b1, by omega, Int.le_trans g58 (by decide +kernel), fun a H2 a0 a1 s2 b2 => ⟨_, _, rfl, rfl, (by show 2 ≤ sizeLine; decide), fun z hz => ?_⟩⟩
      rw [← lst]
      exact fin a H2 s2 b2 a0 a1 z hz
abbrev nLater : List Str := ["plain", "by", "one"]
theorem scLater : FnScope nLater ["plain", "by"] (defScope sLater) := ⟨rfl, rfl, rfl, by decide +kernel, rfl, by decide +kernel, by decide +kernel⟩
theorem ok_later {f : Addr} {fd : FuncData} (F : Fun K "_law_later" "_law_later" sLater f fd) (X : WTxt mg fI fL) : FnOk P w K mg base CX0 1 f fd ["plain", "by"] (spLater K) := by
  refine F.ok scLater (fun vs H Q E h => ?_) (fun cdv A outer s H vs Q E hr h => ?_)
  · obtain ⟨p, es, k, d, rfl, _⟩ := h
    rfl
  · obtain ⟨p, es, k0, d, rfl, ⟨t, hp, xs, ts, px⟩, few, k⟩ := h
    refine ⟨_, pss_one (ps_ret (pe_tup (pa_cons (pe_callTy call_tuple_of (by rfl) X.tup (by decide +kernel) (pa_cons (pe_lc (own := [("one", 2)]) (g := gName 2) (tt := tYes) rfl scLater.nd (pi_tup (pe_ix (r := rIxT K) ix_tup (pv 0) pe_int (fun _ _ => rfl)))
          (blkOk_by (N := nLater) (sc := defScope sLater) (by decide +kernel)) (fun _ _ _ _ _ => pg_name (i := 2) scLater.nd rfl (Or.inl rfl)) (fun _ _ _ _ _ => pts_nil)
          (fun _ _ _ _ _ => pe_op (show OpR _ _ (rCatT K) from op_catT) (pe_tup (pa_cons (pe_op op_add (pe_ix (r := rIxT K) ix_tup (pv 2) pe_int (fun _ _ => rfl)) (pv 1)) pa_nil)) (pe_slice (show SlR _ (rSlT K) from sl_tup) (pv 2) (po_some pe_int) po_none))) pa_nil))
        (pa_cons (pe_op op_add (pe_ix (r := rIxT K) ix_tup (pv 0) pe_int (fun _ _ => rfl)) (pv 1)) pa_nil)))), ?_⟩
    refine ⟨_, rfl, p, _, _, _, rfl, rfl, SqT.of hp, atI_nat (j := 0) rfl, t, rfl, ⟨xs, ts.sq⟩, fun D hD => ?_⟩
    have lx : xs.length = es.length := px.length
    refine lc_each (walk_tup (K := K) (xs := xs) (a := t)) (fun j H y => ∃ e, es[j]? = some e ∧ EvAt H y (e.by d)) (fun j H H' y kp ⟨e, h1, h2⟩ => ⟨e, h1, h2.mono kp⟩) hD (by omega) (fun H s => (ts.mono (Kp.of s)).sq) ?_ ?_
    · rintro j x H1 H' kT hj s1 ⟨rfl, hx⟩ h
      obtain ⟨e, he, a1, rfl, q1⟩ := paired_get px hx
      have q2 := s1 _ _ q1
      refine ⟨rfl, _, rfl, a1, _, _, _, rfl, rfl, SqT.of q2, atI_nat (j := 0) rfl, _, rfl, _, _, rfl, rfl, (by show 1 ≤ sizeLine; decide), fun z hz => ?_⟩
      have s2 : Same H' (upd H' z (.tup [.int (e.t + d)])) := fresh hz
      have e2 : (upd H' z (.tup [.int (e.t + d)])) z = some (.tup [.int (e.t + d)]) := upd_same
      generalize upd H' z (.tup [.int (e.t + d)]) = H2 at s2 e2
      refine ⟨_, rfl, _, rfl, a1, _, rfl, SqT.of (s2 _ _ q2), (by show ¬ (HT.sIx 4 0 (some 1) = 0 ∧ HT.sIx 4 4 none = 4); decide), fun z2 hz2 => ?_⟩
      have s3 : Same H2 (upd H2 z2 (.tup [.str e.s, .str ⟨#[e.l]⟩, .int e.v])) := fresh hz2
      refine ⟨z, z2, [.int (e.t + d)], [.str e.s, .str ⟨#[e.l]⟩, .int e.v], rfl, rfl, SqT.of (s3 _ _ e2), SqT.of upd_same, (fun q => nomatch q), (by show 4 ≤ sizeLine; decide), (fun q => nomatch q), fun _ z3 hz3 => ?_⟩
      exact h _ _ ((s2.trans s3).trans (fresh hz3)) ⟨e, he, z3, rfl, upd_same⟩
    · intro H2 ys s2 hD2 hl hy
      refine ⟨D, _, rfl, .inl ⟨SqL.of hD2, fun l hl2 => ?_⟩⟩
      have s3 : Same H2 (upd H2 l (.tup ys)) := fresh hl2
      have e3 : (upd H2 l (.tup ys)) l = some (.tup ys) := upd_same
      have hy3 : ∀ (j : Nat) y, ys[j]? = some y → ∃ e, es[j]? = some e ∧ EvAt (upd H2 l (.tup ys)) y (e.by d) := fun j y h => let ⟨e, h1, h2⟩ := hy j y h; ⟨e, h1, h2.mono (Kp.of s3)⟩
      have s03 := s2.trans s3
      generalize upd H2 l (.tup ys) = H3 at s3 e3 hy3 s03
      have ev : Evs K H3 l (shift es d) := ⟨ys, .inl e3, paired_of (by unfold shift; rw [List.length_map, hl, lx]) fun j y e h1 h2 => by
        obtain ⟨e', q1, q2⟩ := hy3 j y h1
        unfold shift at h2
        rw [List.getElem?_map, q1] at h2
        cases h2
        exact q2⟩
      refine ⟨_, rfl, p, _, _, _, rfl, rfl, SqT.of (s03 _ _ hp), atI_nat (j := 1) rfl, _, rfl, _, _, rfl, rfl, (by show 2 ≤ sizeLine; decide), fun z hz => ?_⟩
      exact k z _ (s03.trans (fresh hz)) ⟨l, upd_same, ev.mono (Kp.of (fresh hz))⟩
theorem scJoined : FnScope ["plain", "other", "more"] ["plain", "other"] (defScope sJoined) := ⟨rfl, rfl, rfl, by decide +kernel, rfl, by decide +kernel, by decide +kernel⟩
theorem ok_joined {f : Addr} {fd fdL : FuncData} (F : Fun K "_law_joined" "_law_joined" sJoined f fd) (mL : mg "_law_later" = some (.ref fLt)) (kL : PySem.W.keepIn K (.ref fLt) = true) (bL : Binds K fdL ["plain", "by"] []) (GL : FnOk P w K mg base CX0 1 fLt fdL ["plain", "by"] (spLater K)) :
    FnOk P w K mg base CX0 2 f fd ["plain", "other"] (spJoined K) := by
  refine F.ok scJoined (fun vs H Q E h => ?_) (fun cdv A outer s H vs Q E hr h => ?_)
  · obtain ⟨p, q, es, fs, k, j, rfl, _⟩ := h
    rfl
  · obtain ⟨p, q, es, fs, k0, j, rfl, pa, qa, few, k⟩ := h
    refine ⟨_, pss_cons (ps_set (i := 2) scJoined.nd rfl (Or.inl rfl) (pe_call GL hr rfl mL kL bL .nil pass0 (pa_cons (pv 1) (pa_cons (pe_ix (r := rIxT K) ix_tup (pv 0) pe_int (fun _ _ => rfl)) pa_nil))))
      (pss_one (ps_ret (pe_tup (pa_cons (pe_op TO.op_catE (pe_ix (r := rIxT K) ix_tup (pv 0) pe_int (fun _ _ => rfl)) (pe_ix (r := rIxT K) ix_tup (pv 2) pe_int (fun _ _ => rfl))) (pa_cons (pe_ix (r := rIxT K) ix_tup (pv 2) pe_int (fun _ _ => rfl)) pa_nil))))), ?_⟩
    obtain ⟨t, hp, xs, ts, px⟩ := id pa
    refine ⟨_, rfl, _, rfl, p, _, _, _, rfl, rfl, SqT.of hp, atI_nat (j := 1) rfl, q, fs, j, k0, rfl, qa, by omega, fun r H1 s1 ra => ?_⟩
    obtain ⟨u, hr1, ys, us, py⟩ := id ra
    have hp1 := s1 _ _ hp
    have ts1 := ts.mono (Kp.of s1)
    have px1 : Paired (EvAt H1) xs es := Paired.mono (fun _ _ h => h.mono (Kp.of s1)) px
    have lsh : (shift fs k0).length = fs.length := by unfold shift; rw [List.length_map]
    have lx := px.length
    have ly := py.length
    have fin : ∀ (v : Addr) (H2 : Hp), Same H1 H2 → Evs K H2 v (es ++ shift fs k0) → ∀ z, H2 z = none → Q (.ref z) (upd H2 z (.tup [.ref v, .int (j + k0)])) := fun v H2 s2 ev z hz =>
      k z _ ((s1.trans s2).trans (fresh hz)) ⟨v, upd_same, ev.mono (Kp.of (fresh hz))⟩
    refine ⟨_, rfl, p, _, _, _, rfl, rfl, SqT.of hp1, atI_nat (j := 0) rfl, _, rfl, r, _, _, _, rfl, rfl, SqT.of hr1, atI_nat (j := 0) rfl, ?_⟩
    refine ⟨t, u, xs, ys, rfl, rfl, ts1.sq, us.sq, Nat.le_of_lt (small1000 (by omega)), fun e0 => ?_, fun e1 e0 => ?_, fun n1 n2 v hv => ?_⟩
    · subst e0
      cases px
      exact ⟨_, rfl, r, _, _, _, rfl, rfl, SqT.of hr1, atI_nat (j := 1) rfl, (by show 2 ≤ sizeLine; decide), fun z hz => fin u H1 (Same.refl _) ⟨ys, us, py⟩ z hz⟩
    · subst e0
      have ef : shift fs k0 = [] := List.eq_nil_of_length_eq_zero (by rw [← ly]; rfl)
      refine ⟨_, rfl, r, _, _, _, rfl, rfl, SqT.of hr1, atI_nat (j := 1) rfl, (by show 2 ≤ sizeLine; decide), fun z hz => fin t H1 (Same.refl _) ?_ z hz⟩
      rw [ef, List.append_nil]
      exact ⟨xs, ts1, px1⟩
    · have s2 : Same H1 (upd H1 v (.tup (xs ++ ys))) := fresh hv
      exact ⟨_, rfl, r, _, _, _, rfl, rfl, SqT.of (s2 _ _ hr1), atI_nat (j := 1) rfl, (by show 2 ≤ sizeLine; decide), fun z hz => fin v _ s2 (evs_app upd_same (Paired.mono (fun _ _ h => h.mono (Kp.of s2)) px1) (Paired.mono (fun _ _ h => h.mono (Kp.of s2)) py)) z hz⟩
end
end Wd

set_option Elab.async false
set_option linter.all false
set_option maxRecDepth 100000
set_option maxHeartbeats 4000000
/-! deeds -/
namespace Wd
open PySem PySem.Spec PyProof.Rows L2
abbrev tys : List String := ["NoneType", "bool", "int", "str", "tuple", "list", "dict"]
inductive Opd where
  | tape (fs : List Ev) (j : Int)
  | int (i : Int)
  | tab (kvs : List (Key × V))
  | odd
inductive Out where
  | tp (es : List Ev) (k : Int)
  | num
  | word (s : Str)
def outcome (es : List Ev) (k : Int) : Nat → Opd → Out
  | 0, .tape fs j => if k + j < ten60 then .tp (es ++ shift fs k) (k + j) else .word "tape"
  | 0, _ => .word "operation"
  | 1, .int i => if 0 ≤ i ∧ i < ten60 then (if k + i < ten60 then .tp (shift es i) (k + i) else .word "tape") else .num
  | 1, _ => .num
  | 2, .int i => if 0 ≤ i ∧ i ≤ k then .tp (cutAt es i) i else .num
  | 2, _ => .num
  | _, .tab kvs => .tp (swap kvs es) k
  | _, _ => .word "tape"
/-- the odd things that are no integers -/
def OddV (H : Hp) (y : V) : Prop := y = .non ∨ y = .bl true ∨ y = .str "" ∨ (∃ p, y = .ref p ∧ H p = some (.tup [])) ∨ (∃ p, y = .ref p ∧ H p = some (.lst [.int 0])) ∨ (∃ p, y = .ref p ∧ H p = some (.dK [(.inl 1, .bl true)])) ∨ ∃ p, y = .ref p ∧ H p = some (.dK [(.inr "a", .int 1)])
theorem OddV.mono {H H' : Hp} {y : V} (s : Same H H') (h : OddV H y) : OddV H' y := by
  rcases h with h | h | h | ⟨p, h, e⟩ | ⟨p, h, e⟩ | ⟨p, h, e⟩ | ⟨p, h, e⟩
  · exact .inl h
  · exact .inr (.inl h)
  · exact .inr (.inr (.inl h))
  · exact .inr (.inr (.inr (.inl ⟨p, h, s _ _ e⟩)))
  · exact .inr (.inr (.inr (.inr (.inl ⟨p, h, s _ _ e⟩))))
  · exact .inr (.inr (.inr (.inr (.inr (.inl ⟨p, h, s _ _ e⟩)))))
  · exact .inr (.inr (.inr (.inr (.inr (.inr ⟨p, h, s _ _ e⟩)))))
theorem OddV.sb {B : Addr} {H H' : Hp} {y : V} (b : BagAt H B) (s : SB B H H') (h : OddV H y) : OddV H' y := by
  obtain ⟨x1, x2, x3, eb⟩ := b
  have nn : ∀ {p : Addr} {o : HO}, H p = some o → o ≠ .lst [.int x1, .int x2, .int x3] → H' p = some o := fun {p o} e n => s _ _ (fun q => n (by rw [q, eb] at e; cases e; rfl)) e
  rcases h with h | h | h | ⟨p, h, e⟩ | ⟨p, h, e⟩ | ⟨p, h, e⟩ | ⟨p, h, e⟩
  · exact .inl h
  · exact .inr (.inl h)
  · exact .inr (.inr (.inl h))
  · exact .inr (.inr (.inr (.inl ⟨p, h, nn e (fun q => nomatch q)⟩)))
  · exact .inr (.inr (.inr (.inr (.inl ⟨p, h, nn e (fun q => by cases q)⟩))))
  · exact .inr (.inr (.inr (.inr (.inr (.inl ⟨p, h, nn e (fun q => nomatch q)⟩)))))
  · exact .inr (.inr (.inr (.inr (.inr (.inr ⟨p, h, nn e (fun q => nomatch q)⟩)))))
theorem OddV.facts {K : PySem.W.Frag} {H : Hp} {y : V} (h : OddV H y) : (∃ T ∈ tys, TyOf K H y (.type T)) ∧ IntV K H y ∧ (∀ i, y ≠ .int i) ∧
    (Isi K H y "dict" false ∨ ∃ d kv, y = .ref d ∧ H d = some (.dK [kv]) ∧ ¬ IntKV kv ∧ ∀ H', IntV K H' kv.2) := by
  have mk : ∀ {T : String}, TyOf K H y (.type T) → T ∈ tys → (∀ i, y ≠ .int i) → kitB T "int" = some false → (∃ T ∈ tys, TyOf K H y (.type T)) ∧ IntV K H y ∧ (∀ i, y ≠ .int i) := fun {T} t m n q => ⟨⟨T, m, t⟩, .inr ⟨n, .inr (isi_ty (.base t) q)⟩, n⟩
  have fold : ∀ {p : Prop}, ((∃ T ∈ tys, TyOf K H y (.type T)) ∧ IntV K H y ∧ (∀ i, y ≠ .int i)) → p → (∃ T ∈ tys, TyOf K H y (.type T)) ∧ IntV K H y ∧ (∀ i, y ≠ .int i) ∧ p := fun h p => ⟨h.1, h.2.1, h.2.2, p⟩
  rcases h with rfl | rfl | rfl | ⟨p, rfl, e⟩ | ⟨p, rfl, e⟩ | ⟨p, rfl, e⟩ | ⟨p, rfl, e⟩
  · exact fold (mk .non (by decide) (fun i q => nomatch q) (by decide)) (.inl (isi_ty (.base .non) (by decide)))
  · exact fold ⟨⟨"bool", by decide, .bl true⟩, .inr ⟨(fun i q => nomatch q), .inl ⟨isi_ty (.base (.bl true)) (by decide), isi_ty (.base (.bl true)) (by decide)⟩⟩, (fun i q => nomatch q)⟩ (.inl (isi_ty (.base (.bl true)) (by decide)))
  · exact fold (mk (.str _) (by decide) (fun i q => nomatch q) (by decide)) (.inl (isi_ty (.base (.str _)) (by decide)))
  · exact fold (mk (.tup e) (by decide) (fun i q => nomatch q) (by decide)) (.inl (isi_ty (.base (.tup e)) (by decide)))
  · exact fold (mk (.lst e) (by decide) (fun i q => nomatch q) (by decide)) (.inl (isi_ty (.base (.lst e)) (by decide)))
  · exact fold (mk (.dK e) (by decide) (fun i q => nomatch q) (by decide)) (.inr ⟨p, _, rfl, e, (fun ⟨_, i, q, _⟩ => nomatch q), fun H' => .inr ⟨(fun i q => nomatch q), .inl ⟨isi_ty (.base (.bl true)) (by decide), isi_ty (.base (.bl true)) (by decide)⟩⟩⟩)
  · exact fold (mk (.dK e) (by decide) (fun i q => nomatch q) (by decide)) (.inr ⟨p, _, rfl, e, (fun ⟨⟨i, q, _⟩, _⟩ => nomatch q), fun H' => .inl ⟨1, rfl⟩⟩)
/-- the operand of a deed -/
def OpdAt (K : PySem.W.Frag) (C : Addr) (H : Hp) (es : List Ev) (way : Nat) (y : V) : Opd → Prop
  | .tape fs j => way = 0 ∧ ∃ b, y = .ref b ∧ TapeAt K C H b fs j ∧ Good fs j ∧ es.length + fs.length ≤ 300
  | .int i => y = .int i
  | .tab kvs => way = 3 ∧ ∃ d, y = .ref d ∧ H d = some (.dK kvs) ∧ kvs.length ≤ 100 ∧ (kvs.map (·.1)).Nodup ∧ ∀ p ∈ kvs, IntKV p
  | .odd => OddV H y
def Ans (K : PySem.W.Frag) (C : Addr) (H : Hp) (v y : V) : Out → Prop
  | .tp es k => ∃ b, v = .ref b ∧ TapeAt K C H b es k
  | .num => ∃ p, v = .ref p ∧ H p = some (.tup [.str "number", y])
  | .word s => v = .str s
def spDeed (K : PySem.W.Frag) (C : Addr) : Sp := fun vs H Q _ => ∃ (way : Nat) (a : Addr) (y : V) (es : List Ev) (k : Int) (o : Opd), vs = [.int way, .ref a, y] ∧ way ≤ 3 ∧ TapeAt K C H a es k ∧ Good es k ∧ OpdAt K C H es way y o ∧
  ∀ v H', Same H H' → Ans K C H' v y (outcome es k way o) → Q v H'
/-- the methods of tapes -/
structure TM1 (P : Program) (w : World) (K : PySem.W.Frag) (mg : Str → Option Value) (base : Heap) (C CIN CIO CIT : Addr) : Prop where
  cl : Cls K C
  sf : PySem.W.selfFirst K C = true
  bA : ∀ T ∈ tys, OO.BinT K C .Add T
  bR : ∀ T ∈ tys, OO.BinT K C .RShift T
  kn : ∀ T ∈ tys, PySem.W.kitOne K (.type T) (.ref C) = some false
  add : ∃ f fd, OO.Dun K C "__add__" f ∧ FnOk P w K mg base (L2.CX P w) 8 f fd ["self", "other"] (spAdd K C CIO CIT) ∧ Binds K fd ["self", "other"] []
  shr : ∃ f fd, OO.Dun K C "__rshift__" f ∧ FnOk P w K mg base (L2.CX P w) 7 f fd ["self", "time"] (spShr K C CIN CIT) ∧ Binds K fd ["self", "time"] []
  upto : ∃ f fd, Meth K C "upto" f ∧ FnOk P w K mg base (L2.CX P w) 7 f fd ["self", "time"] (spUpto K C CIN) ∧ Binds K fd ["self", "time"] []
  chg : ∃ f fd, Meth K C "changed" f ∧ FnOk P w K mg base (L2.CX P w) 7 f fd ["self", "table"] (spChg K C CIT) ∧ Binds K fd ["self", "table"] []
/-- what the except clauses ask -/
structure ExF (K : PySem.W.Frag) (mg : Str → Option Value) (CIN CIO CIT : Addr) : Prop where
  gN : mg "InvalidNumber" = some (.ref CIN)
  gO : mg "InvalidOperation" = some (.ref CIO)
  gT : mg "InvalidTape" = some (.ref CIT)
  oo : PySem.W.exmOne K (.ref CIO) (.ref CIO) = some true
  no : PySem.W.exmOne K (.ref CIN) (.ref CIO) = some false
  nn : PySem.W.exmOne K (.ref CIN) (.ref CIN) = some true
  to : PySem.W.exmOne K (.ref CIT) (.ref CIO) = some false
  tn : PySem.W.exmOne K (.ref CIT) (.ref CIN) = some false
  tt : PySem.W.exmOne K (.ref CIT) (.ref CIT) = some true
  xf : XfC K CIN
  xv : PySem.W.findIn K (.ref CIN) "value" = some none
/-- what leaves through W wherever the names stand -/
abbrev anyE (W : WX) (n : Nat) : XK := fun cls d H => ∀ σ : L2.St, σ.length = n → W cls d σ H
abbrev rSame (C : Addr) (sp : Sp) (W : WX) : R2 := fun x y H Q => ∃ a b dx dy fs gs, x = .ref a ∧ y = .ref b ∧ H a = some (.ins C dx fs) ∧ H b = some (.ins C dy gs) ∧ sp [x, y] H Q (anyE W 4)
abbrev rWith (K : PySem.W.Frag) (C : Addr) (T : String) (sp : Sp) (W : WX) : R2 := fun x y H Q => ∃ a dx fs, x = .ref a ∧ TyOf K H y (.type T) ∧ H a = some (.ins C dx fs) ∧ sp [x, y] H Q (anyE W 4)
theorem passLen {X : Cx} {W : WX} {n : Nat} (tk : Takes X W) (hn : X.N.length = n) : Passes (L2.CX X.prog X.w) X (anyE W n) := fun pins σ H s e s' I c => tk e s' (XE.of_call I (fun cls d H' h => h σ (I.len.trans hn)) c)
section
variable {P : Program} {w : World} {K : PySem.W.Frag} {mg : Str → Option Value} {base : Heap} {C CIN CIO CIT : Addr}
theorem scDeed : FnScope ["way", "tape", "operand", "e"] ["way", "tape", "operand"] (defScope sDeed) := ⟨rfl, rfl, rfl, by decide +kernel, rfl, by decide +kernel, by decide +kernel⟩
theorem ok_deed {f : Addr} {fd : FuncData} (F : Fun K "_law_deed" "_law_deed" sDeed f fd) (M : TM1 P w K mg base C CIN CIO CIT) (X : ExF K mg CIN CIO CIT) : FnOk P w K mg base CX0 9 f fd ["way", "tape", "operand"] (spDeed K C) := by
  obtain ⟨fa, fda, da, Fa, ba⟩ := M.add
  obtain ⟨fs, fds, ds, Fs, bs⟩ := M.shr
  obtain ⟨fu, fdu, du, Fu, bu⟩ := M.upto
  obtain ⟨fc, fdc, dc, Fc, bc⟩ := M.chg
  refine F.ok scDeed (fun vs H Q E h => ?_) (fun cdv A outer s H vs Q E hr h => ?_)
  · obtain ⟨way, a, y, es, k, o, rfl, _⟩ := h
    rfl
  · obtain ⟨way, a, y, es, k, o, rfl, w3, ta, g, op, q⟩ := h
    have hr7 : Room 7 _ := hr.mono (by decide)
    obtain ⟨T, hT, tyT⟩ : ∃ T ∈ tys, (∀ fs j, o ≠ .tape fs j) → (∀ kvs, o ≠ .tab kvs) → TyOf K H y (.type T) := by
      cases o with
      | tape fs j => exact ⟨"int", by decide, fun h => (h _ _ rfl).elim⟩
      | tab kvs => exact ⟨"int", by decide, fun _ h => (h _ rfl).elim⟩
      | int i =>
        have e : y = .int i := op
        subst e
        exact ⟨"int", by decide, fun _ _ => .int i⟩
      | odd =>
        obtain ⟨T, hT, t⟩ := (OddV.facts (K := K) op).1
        exact ⟨T, hT, fun _ _ => t⟩
    refine ⟨_, pss_one (TM.ps_try_mix rfl rfl takes0 (fun W pn xe tk _ => pss_cons (ps_if (pt_cmpR op_eq (pv 0) pe_int (nomark _)) (pss_one (ps_ret (pe_op ((show OpR _ _ (rSame C (spAdd K C CIO CIT) W) from OO.op_same (op := .Add) da M.sf Fa hr ba (passLen tk rfl)).or (show OpR _ _ (rWith K C T (spAdd K C CIO CIT) W) from OO.op_with (op := .Add) da M.sf (M.bA T hT) Fa hr ba (passLen tk rfl))) (pv 1) (pv 2)))) pss_nil)
        (pss_cons (ps_if (pt_cmpR op_eq (pv 0) pe_int (nomark _)) (pss_one (ps_ret (pe_op (show OpR _ _ (rWith K C T (spShr K C CIN CIT) W) from OO.op_with (op := .RShift) ds M.sf (M.bR T hT) Fs hr7 bs (passLen tk rfl)) (pv 1) (pv 2)))) pss_nil)
        (pss_cons (ps_if (pt_cmpR op_eq (pv 0) pe_int (nomark _)) (pss_one (ps_ret (pe_meth (pv 1) M.cl du Fu hr7 bu .nil (passLen (n := 4) tk rfl) (pa_cons (pv 2) pa_nil)))) pss_nil)
        (pss_one (ps_ret (pe_meth (pv 1) M.cl dc Fc hr7 bc .nil (passLen (n := 4) tk rfl) (pa_cons (pv 2) pa_nil)))))))
      (.bare ⟨rfl, by decide, .inl X.gO⟩ (fun a oe cls d pn hz hf => pss_one (ps_ret pe_str))
      (.named scDeed.nd (i := 3) rfl rfl ⟨rfl, by decide, .inl X.gN⟩ (fun a oe cls d pn hz hf => pss_one (ps_ret (pe_tup (pa_cons pe_str (pa_cons (pe_xf X.xf X.xv hz hf (pv 3)) pa_nil)))))
      (.bare ⟨rfl, by decide, .inl X.gT⟩ (fun a oe cls d pn hz hf => pss_one (ps_ret pe_str)) .nil)))), ?_⟩
    have sig : ∀ {σ : L2.St}, σ.length = 4 → ∃ w0 w1 w2 w3, σ = [w0, w1, w2, w3] := fun {σ} h => by
      match σ, h with
      | [w0, w1, w2, w3], _ => exact ⟨w0, w1, w2, w3, rfl⟩
    have no : ∀ {y : V}, OddV H y → ∀ i, y ≠ .int i := fun {y} h => (OddV.facts (K := K) h).2.2.1
    match way, w3 with
    | 0, _ =>
      refine ⟨_, rfl, rfl, _, rfl, ite2 (fun _ => ?_) (fun c => (c rfl).elim)⟩
      cases o with
      | tape fs j =>
        obtain ⟨_, b, rfl, tb, gb, few⟩ := op
        obtain ⟨dx, t, ha, _⟩ := id ta
        obtain ⟨dy, u, hb, _⟩ := id tb
        refine ⟨_, rfl, _, rfl, .inl ⟨a, b, dx, dy, _, _, rfl, rfl, ha, hb, a, es, k, _, rfl, ta, g, .inr ⟨b, fs, j, rfl, tb, gb, few, fun lt H' s' σ hl => ?_, fun c H' lt s' tc => ?_⟩⟩⟩
        · have eo : outcome es k 0 (.tape fs j) = .word "tape" := if_neg (by omega)
          exact ⟨false, X.to, (fun z => nomatch z), fun _ => ⟨false, X.tn, (fun z => nomatch z), fun _ => ⟨true, X.tt, fun _ a ha => q _ H' s' (by rw [eo]; exact rfl), (fun z => nomatch z)⟩⟩⟩
        · have eo : outcome es k 0 (.tape fs j) = .tp (es ++ shift fs k) (k + j) := if_pos lt
          exact q _ H' s' (by rw [eo]; exact ⟨c, rfl, tc⟩)
      | tab kvs => exact nomatch op.1
      | int i =>
        obtain ⟨dx, t, ha, _⟩ := id ta
        have ty := tyT (fun _ _ e => nomatch e) (fun _ e => nomatch e)
        exact ⟨_, rfl, _, rfl, .inr ⟨a, dx, _, rfl, ty, ha, a, es, k, y, rfl, ta, g, .inl ⟨_, .base ty, M.kn T hT, fun H' s' σ hl => ⟨true, X.oo, fun _ a ha => q _ H' s' rfl, (fun z => nomatch z)⟩⟩⟩⟩
      | odd =>
        obtain ⟨dx, t, ha, _⟩ := id ta
        have ty := tyT (fun _ _ e => nomatch e) (fun _ e => nomatch e)
        exact ⟨_, rfl, _, rfl, .inr ⟨a, dx, _, rfl, ty, ha, a, es, k, y, rfl, ta, g, .inl ⟨_, .base ty, M.kn T hT, fun H' s' σ hl => ⟨true, X.oo, fun _ a ha => q _ H' s' rfl, (fun z => nomatch z)⟩⟩⟩⟩
    | 1, _ =>
      refine ⟨_, rfl, rfl, _, rfl, ite2 (fun c => nomatch c) (fun _ => ?_)⟩
      refine ⟨_, rfl, rfl, _, rfl, ite2 (fun _ => ?_) (fun c => (c rfl).elim)⟩
      obtain ⟨dx, t, ha, _⟩ := id ta
      have nt : ∀ fs j, o ≠ .tape fs j := fun fs j e => by subst e; exact nomatch op.1
      have nb : ∀ kvs, o ≠ .tab kvs := fun kvs e => by subst e; exact nomatch op.1
      have ty := tyT nt nb
      have iv : IntV K H y := by
        cases o with
        | tape fs j => exact (nt _ _ rfl).elim
        | tab kvs => exact (nb _ rfl).elim
        | int i => exact .inl ⟨i, op⟩
        | odd => exact (OddV.facts op).2.1
      have io : ∀ i, y = .int i → o = .int i := fun i e => by
        cases o with
        | tape fs j => exact (nt _ _ rfl).elim
        | tab kvs => exact (nb _ rfl).elim
        | int j =>
          have op' : y = .int j := op
          rw [e] at op'
          cases op'
          rfl
        | odd => exact (no op i e).elim
      refine ⟨_, rfl, _, rfl, a, dx, _, rfl, ty, ha, a, es, k, y, rfl, ta, g, iv, fun nn d H' hd s' e σ hl => ?_, fun i ei i0 i1 lt H' s' σ hl => ?_, fun i b H' ei i0 i1 lt s' tb => ?_⟩
      · have eo : outcome es k 1 o = .num := by
          cases o with
          | tape fs j => exact (nt _ _ rfl).elim
          | tab kvs => exact (nb _ rfl).elim
          | int i => exact if_neg fun h => nn ⟨i, op, h.1, h.2⟩
          | odd => rfl
        refine ⟨false, X.no, (fun z => nomatch z), fun _ => ⟨true, X.nn, fun _ a ha => ?_, (fun z => nomatch z)⟩⟩
        obtain ⟨w0, w1, w2, w3, rfl⟩ := sig hl
        refine ⟨_, rfl, rfl, rfl, d, _, y, rfl, e, rfl, (by show 2 ≤ sizeLine; decide), fun z hz => q _ _ (s'.trans (fresh hz)) ?_⟩
        rw [eo]
        exact ⟨z, rfl, upd_same⟩
      · have eo : outcome es k 1 o = .word "tape" := by
          rw [io i ei]
          exact (if_pos ⟨i0, i1⟩).trans (if_neg (by omega))
        exact ⟨false, X.to, (fun z => nomatch z), fun _ => ⟨false, X.tn, (fun z => nomatch z), fun _ => ⟨true, X.tt, fun _ a ha => q _ H' s' (by rw [eo]; exact rfl), (fun z => nomatch z)⟩⟩⟩
      · have eo : outcome es k 1 o = .tp (shift es i) (k + i) := by
          rw [io i ei]
          exact (if_pos ⟨i0, i1⟩).trans (if_pos lt)
        exact q _ H' s' (by rw [eo]; exact ⟨b, rfl, tb⟩)
    | 2, _ =>
      refine ⟨_, rfl, rfl, _, rfl, ite2 (fun c => nomatch c) (fun _ => ?_)⟩
      refine ⟨_, rfl, rfl, _, rfl, ite2 (fun c => nomatch c) (fun _ => ?_)⟩
      refine ⟨_, rfl, rfl, _, rfl, ite2 (fun _ => ?_) (fun c => (c rfl).elim)⟩
      obtain ⟨dx, t, ha, _⟩ := id ta
      have nt : ∀ fs j, o ≠ .tape fs j := fun fs j e => by subst e; exact nomatch op.1
      have nb : ∀ kvs, o ≠ .tab kvs := fun kvs e => by subst e; exact nomatch op.1
      have iv : IntV K H y := by
        cases o with
        | tape fs j => exact (nt _ _ rfl).elim
        | tab kvs => exact (nb _ rfl).elim
        | int i => exact .inl ⟨i, op⟩
        | odd => exact (OddV.facts op).2.1
      have io : ∀ i, y = .int i → o = .int i := fun i e => by
        cases o with
        | tape fs j => exact (nt _ _ rfl).elim
        | tab kvs => exact (nb _ rfl).elim
        | int j =>
          have op' : y = .int j := op
          rw [e] at op'
          cases op'
          rfl
        | odd => exact (no op i e).elim
      refine ⟨_, rfl, a, dx, _, rfl, ha, rfl, _, rfl, a, es, k, y, rfl, ta, g, iv, fun nn d H' hd s' e σ hl => ?_, fun i b H' ei i0 i1 s' tb => ?_⟩
      · have eo : outcome es k 2 o = .num := by
          cases o with
          | tape fs j => exact (nt _ _ rfl).elim
          | tab kvs => exact (nb _ rfl).elim
          | int i => exact if_neg fun h => nn ⟨i, op, h.1, h.2⟩
          | odd => rfl
        refine ⟨false, X.no, (fun z => nomatch z), fun _ => ⟨true, X.nn, fun _ a ha => ?_, (fun z => nomatch z)⟩⟩
        obtain ⟨w0, w1, w2, w3, rfl⟩ := sig hl
        refine ⟨_, rfl, rfl, rfl, d, _, y, rfl, e, rfl, (by show 2 ≤ sizeLine; decide), fun z hz => q _ _ (s'.trans (fresh hz)) ?_⟩
        rw [eo]
        exact ⟨z, rfl, upd_same⟩
      · have eo : outcome es k 2 o = .tp (cutAt es i) i := by
          rw [io i ei]
          exact if_pos ⟨i0, i1⟩
        exact q _ H' s' (by rw [eo]; exact ⟨b, rfl, tb⟩)
    | 3, _ =>
      refine ⟨_, rfl, rfl, _, rfl, ite2 (fun c => nomatch c) (fun _ => ?_)⟩
      refine ⟨_, rfl, rfl, _, rfl, ite2 (fun c => nomatch c) (fun _ => ?_)⟩
      refine ⟨_, rfl, rfl, _, rfl, ite2 (fun c => nomatch c) (fun _ => ?_)⟩
      obtain ⟨dx, t, ha, _⟩ := id ta
      refine ⟨_, rfl, a, dx, _, rfl, ha, rfl, _, rfl, a, es, k, y, rfl, ta, g, ?_⟩
      cases o with
      | tape fs j => exact nomatch op.1
      | int i =>
        have op' : y = .int i := op
        subst op'
        exact .inl ⟨isi_ty (.base (.int i)) (by decide), fun H' s' σ hl => ⟨false, X.to, (fun z => nomatch z), fun _ => ⟨false, X.tn, (fun z => nomatch z), fun _ => ⟨true, X.tt, fun _ a ha => q _ H' s' rfl, (fun z => nomatch z)⟩⟩⟩⟩
      | tab kvs =>
        obtain ⟨_, d, rfl, hd, few, nd, iv⟩ := op
        exact .inr ⟨d, kvs, rfl, hd, few, nd, fun p hp H' _ => let ⟨_, i, e, _⟩ := iv p hp; .inl ⟨i, e⟩, fun ⟨p, hp, n⟩ => (n (iv p hp)).elim, fun _ b H' s' tb => q _ H' s' ⟨b, rfl, tb⟩⟩
      | odd =>
        rcases (OddV.facts (K := K) op).2.2.2 with i1 | ⟨d, kv, rfl, hd, nk, iv⟩
        · exact .inl ⟨i1, fun H' s' σ hl => ⟨false, X.to, (fun z => nomatch z), fun _ => ⟨false, X.tn, (fun z => nomatch z), fun _ => ⟨true, X.tt, fun _ a ha => q _ H' s' rfl, (fun z => nomatch z)⟩⟩⟩⟩
        · refine .inr ⟨d, _, rfl, hd, (by show 1 ≤ 100; decide), by simp, fun p hp H' _ => ?_, fun _ H' s' σ hl => ⟨false, X.to, (fun z => nomatch z), fun _ => ⟨false, X.tn, (fun z => nomatch z), fun _ => ⟨true, X.tt, fun _ a ha => q _ H' s' rfl, (fun z => nomatch z)⟩⟩⟩, fun all => (nk (all kv (by simp))).elim⟩
          rw [List.mem_singleton.mp hp]
          exact iv H'
end
end Wd

set_option Elab.async false
set_option linter.all false
set_option maxRecDepth 100000
set_option maxHeartbeats 4000000
/-! what is due -/
namespace Wd
open PySem PySem.Spec PyProof.Rows L2
def spIsTape (K : PySem.W.Frag) (C : Addr) : Sp := fun vs H Q _ => ∃ a p es k, vs = [.ref a, .ref p] ∧ TapeAt K C H a es k ∧ PlainAt K H p es k ∧ es.length ≤ 300 ∧ ∀ H', Same H H' → Q (.bl true) H'
def Due (K : PySem.W.Frag) (H : Hp) (u y : V) : Out → Prop
  | .tp es k => ∃ p, u = .ref p ∧ PlainAt K H p es k
  | .num => ∃ p, u = .ref p ∧ H p = some (.tup [.str "number", y])
  | .word s => u = .str s
def DOpd (K : PySem.W.Frag) (H : Hp) (es : List Ev) (way : Nat) (y : V) : Opd → Prop
  | .tape fs j => way = 0 ∧ ∃ q, y = .ref q ∧ PlainAt K H q fs j ∧ Good fs j ∧ es.length + fs.length ≤ 300
  | .int i => 1 ≤ way ∧ y = .int i
  | .tab kvs => way = 3 ∧ ∃ d, y = .ref d ∧ H d = some (.dK kvs) ∧ kvs.length ≤ 100 ∧ (kvs.map (·.1)).Nodup ∧ ∀ p ∈ kvs, IntKV p
  | .odd => 1 ≤ way ∧ OddV H y
def spDue (K : PySem.W.Frag) : Sp := fun vs H Q _ => ∃ (way : Nat) (p : Addr) (y : V) (es : List Ev) (k : Int) (o : Opd), vs = [.int way, .ref p, y] ∧ way ≤ 3 ∧ PlainAt K H p es k ∧ Good es k ∧ DOpd K H es way y o ∧
  ∀ u H', Same H H' → Due K H' u y (outcome es k way o) → Q u H'
section
variable {P : Program} {w : World} {K : PySem.W.Frag} {mg : Str → Option Value} {base : Heap} {C CIN CIO CIT fI fL fS fJ fLt fLI f1 f2 : Addr}
theorem ok_lintv {f : Addr} {fd : FuncData} (F : Fun K "_law_is_integer" "_law_is_integer" sLInt f fd) (X : WTxt mg fI fL) (ab : mg "abs" = none) : FnOk P w K mg base CX0 1 f fd ["value"] (spInt K) := by
  refine F.ok scLInt (fun vs H Q E h => ?_) (fun cdv A outer s H vs Q E hr h => ?_)
  · obtain ⟨v, rfl, _⟩ := h
    rfl
  · obtain ⟨v, rfl, iv, k⟩ := h
    refine ⟨_, pss_one (ps_ret (pe_and (pe_isi (N := "int") (pv 0) X.isin X.int) (pe_and (pe_not (pe_isi (N := "bool") (pv 0) X.isin X.bool)) (pe_one (pe_cmpR op_lt (pe_callB call_abs (by rfl) ab (by decide +kernel) (pa_cons (pv 0) pa_nil)) (pe_op op_pow pe_int pe_int) (nomark _)))))), ?_⟩
    have no : (∀ i, v ≠ .int i) → (false = true ↔ IsInt v) := fun h => nay fun ⟨i, e, _⟩ => h i e
    rcases iv with ⟨i, rfl⟩ | ⟨ni, ⟨i1, i2⟩ | i1⟩
    · refine ⟨_, rfl, true, isi_ty (.base (.int i)) (by decide), _, rfl, iteT ⟨_, rfl, false, isi_ty (.base (.int i)) (by decide), _, rfl, _, rfl, iteT ⟨_, rfl, i, rfl, _, _, rfl, rfl, ⟨by decide, by decide, by decide⟩, _, _, rfl, rfl, k _ ?_⟩⟩⟩
      rw [decide_eq_true_iff]
      have e : (10 : Int) ^ (60 : Int).toNat = ten60 := rfl
      rw [e]
      constructor
      · intro h
        refine ⟨i, rfl, ?_⟩
        by_cases c : i < 0
        · rw [if_pos c] at h
          omega
        · rw [if_neg c] at h
          omega
      · rintro ⟨j, ej, h1, h2⟩
        cases ej
        by_cases c : i < 0
        · rw [if_pos c]
          omega
        · rw [if_neg c]
          omega
    · exact ⟨_, rfl, _, i1, _, rfl, iteT ⟨_, rfl, _, i2, _, rfl, _, rfl, iteF (k _ (no ni))⟩⟩
    · exact ⟨_, rfl, _, i1, _, rfl, iteF (k _ (no ni))⟩
theorem evs_eqd {H : Hp} {t u : Addr} {es : List Ev} (h : Evs K H t es) (g : Evs K H u es) (few : es.length ≤ 300) : Eqd K H 3 (.ref t) (.ref u) := by
  obtain ⟨xs, ts, px⟩ := h
  obtain ⟨ys, us, py⟩ := g
  have lx := px.length
  have ly := py.length
  refine .tup ts us (by omega) (by omega) fun i x y h1 h2 => ?_
  obtain ⟨e, he, a, rfl, q1⟩ := paired_get px h1
  obtain ⟨e', he', b, rfl, q2⟩ := paired_get py h2
  rw [he] at he'
  cases he'
  refine .tup (.inl q1) (.inl q2) rfl (by show 4 ≤ 900; decide) fun j x y g1 g2 => ?_
  rw [g1] at g2
  cases g2
  refine .sc ?_
  have m := List.mem_of_getElem? g1
  simp only [Ev.vs, List.mem_cons, List.not_mem_nil, or_false] at m
  rcases m with rfl | rfl | rfl | rfl
  · exact .inr (.inr (.inl ⟨_, rfl⟩))
  · exact .inr (.inr (.inr ⟨_, rfl⟩))
  · exact .inr (.inr (.inr ⟨_, rfl⟩))
  · exact .inr (.inr (.inl ⟨_, rfl⟩))
theorem scIsTape : FnScope ["tape", "plain"] ["tape", "plain"] (defScope sIsTape) := ⟨rfl, rfl, rfl, by decide +kernel, rfl, by decide +kernel, by decide +kernel⟩
theorem ok_istape {f : Addr} {fd fdS : FuncData} (F : Fun K "_law_is_tape" "_law_is_tape" sIsTape f fd) (Y : TpTxt K mg C f1 f2) (isin : mg "isinstance" = none) (pE : PropG P w K mg base C "events" "_events") (pL : PropG P w K mg base C "last" "_last")
    (mS : mg "_law_same" = some (.ref fS)) (kS : PySem.W.keepIn K (.ref fS) = true) (bS : Binds K fdS ["one", "other"] []) (GS : FnOk P w K mg base CX0 6 fS fdS ["one", "other"] (spSameE K 3)) :
    FnOk P w K mg base CX0 7 f fd ["tape", "plain"] (spIsTape K C) := by
  obtain ⟨pe, ge, fde, pe1, pe2, pe3⟩ := pE
  obtain ⟨pl, gl, fdl, pl1, pl2, pl3⟩ := pL
  refine F.ok scIsTape (fun vs H Q E h => ?_) (fun cdv A outer s H vs Q E hr h => ?_)
  · obtain ⟨a, p, es, k, rfl, _⟩ := h
    rfl
  · obtain ⟨a, p, es, k, rfl, ⟨dx, t, ha, ev⟩, ⟨u, hp, eu⟩, few, q⟩ := h
    have hr2 : Room 2 _ := hr.mono (by decide)
    refine ⟨_, pss_one (ps_ret (pe_and (pe_callB call_isi (by rfl) isin (by decide +kernel) (pa_cons (pv 0) (pa_cons (pe_gcon rfl ⟨_, Y.mgC, (show RelV (.ref C) (.ref C) from rfl)⟩) pa_nil)))
      (pe_and (pe_call GS hr rfl mS kS bS .nil pass0 (pa_cons (pe_prop (pv 0) Y.cl pe1 pe2 hr2 pe3 .nil pass0 rfl) (pa_cons (pe_ix (r := rIxT K) ix_tup (pv 1) pe_int (fun _ _ => rfl)) pa_nil)))
        (pe_one (pe_call GS hr rfl mS kS bS .nil pass0 (pa_cons (pe_prop (pv 0) Y.cl pl1 pl2 hr2 pl3 .nil pass0 rfl) (pa_cons (pe_ix (r := rIxT K) ix_tup (pv 1) pe_int (fun _ _ => rfl)) pa_nil))))))), ?_⟩
    refine ⟨_, rfl, .ref a, .ref C, .ref C, .ref C, true, rfl, .own C, Y.ty ha, Y.kC, true, rfl, iteT ?_⟩
    refine ⟨.ref a, rfl, a, dx, _, rfl, ha, a, dx, _, _, rfl, ha, tf_events t k, _, rfl, p, _, _, _, rfl, rfl, SqT.of hp, atI_nat (j := 0) rfl, .ref t, .ref u, rfl, evs_eqd ev eu few, fun H1 s1 => ?_⟩
    have ha1 := s1 _ _ ha
    refine ⟨true, rfl, iteT ⟨.ref a, rfl, a, dx, _, rfl, ha1, a, dx, _, _, rfl, ha1, tf_last t k, _, rfl, p, _, _, _, rfl, rfl, SqT.of (s1 _ _ hp), atI_nat (j := 1) rfl, .int k, .int k, rfl, .sc (.inr (.inr (.inl ⟨_, rfl⟩))), fun H2 s2 => q H2 (s1.trans s2)⟩⟩
abbrev nDue : List Str := ["way", "plain", "operand", "found", "one"]
theorem scDue : FnScope nDue ["way", "plain", "operand"] (defScope sDue) := ⟨rfl, rfl, rfl, by decide +kernel, rfl, by decide +kernel, by decide +kernel⟩
theorem ok_due {f : Addr} {fd fdJ fdL fdI : FuncData} (F : Fun K "_law_due" "_law_due" sDue f fd) (X : WTxt mg fI fL)
    (mJ : mg "_law_joined" = some (.ref fJ)) (kJ : PySem.W.keepIn K (.ref fJ) = true) (bJ : Binds K fdJ ["plain", "other"] []) (GJ : FnOk P w K mg base CX0 2 fJ fdJ ["plain", "other"] (spJoined K))
    (mL : mg "_law_later" = some (.ref fLt)) (kL : PySem.W.keepIn K (.ref fLt) = true) (bL : Binds K fdL ["plain", "by"] []) (GL : FnOk P w K mg base CX0 1 fLt fdL ["plain", "by"] (spLater K))
    (mI : mg "_law_is_integer" = some (.ref fLI)) (kI : PySem.W.keepIn K (.ref fLI) = true) (bI : Binds K fdI ["value"] []) (GI : FnOk P w K mg base CX0 1 fLI fdI ["value"] (spInt K)) :
    FnOk P w K mg base CX0 3 f fd ["way", "plain", "operand"] (spDue K) := by
  refine F.ok scDue (fun vs H Q E h => ?_) (fun cdv A outer s H vs Q E hr h => ?_)
  · obtain ⟨way, p, y, es, k, o, rfl, _⟩ := h
    rfl
  · obtain ⟨way, p, y, es, k, o, rfl, w3, pa, g, op, q⟩ := h
    have hr1 : Room 1 _ := hr.mono (by decide)
    refine ⟨_, pss_cons (ps_if (pt_cmpR op_eq (pv 0) pe_int (nomark _))
        (pss_cons (ps_set (i := 3) scDue.nd rfl (Or.inl rfl) (pe_call GJ hr rfl mJ kJ bJ .nil pass0 (pa_cons (pv 1) (pa_cons (pv 2) pa_nil))))
        (pss_one (ps_ret (pe_ifExp (pt_cmpR op_lt (pe_ix (r := rIxT K) ix_tup (pv 3) pe_int (fun _ _ => rfl)) (pe_op op_pow pe_int pe_int) (nomark _)) (pv 3) pe_str)))) pss_nil)
      (pss_cons (ps_if (PW.pt (pw_and (pt_cmpR op_lt (pv 0) pe_int (nomark _)) (pw_and1 (PW.pt (pw_or (pt_not (pt_val (pe_call GI hr1 rfl mI kI bI .nil pass0 (pa_cons (pv 2) pa_nil)))) (pw_or1 (pt_cmpR op_lt (pv 2) pe_int (nomark _))))))))
        (pss_one (ps_ret (pe_tup (pa_cons pe_str (pa_cons (pv 2) pa_nil))))) pss_nil)
      (pss_cons (ps_if (pt_cmpR op_eq (pv 0) pe_int (nomark _))
        (pss_cons (ps_set (i := 3) scDue.nd rfl (Or.inl rfl) (pe_call GL hr1 rfl mL kL bL .nil pass0 (pa_cons (pv 1) (pa_cons (pv 2) pa_nil))))
        (pss_one (ps_ret (pe_ifExp (pt_cmpR op_lt (pe_ix (r := rIxT K) ix_tup (pv 3) pe_int (fun _ _ => rfl)) (pe_op op_pow pe_int pe_int) (nomark _)) (pv 3) pe_str)))) pss_nil)
      (pss_cons (ps_if (PW.pt (pw_and (pt_cmpR op_eq (pv 0) pe_int (nomark _)) (pw_and1 (pt_cmpR op_gt (pv 2) (pe_ix (r := rIxT K) ix_tup (pv 1) pe_int (fun _ _ => rfl)) (nomark _)))))
        (pss_one (ps_ret (pe_tup (pa_cons pe_str (pa_cons (pv 2) pa_nil))))) pss_nil)
      (pss_cons (ps_if (pt_cmpR op_eq (pv 0) pe_int (nomark _))
        (pss_one (ps_ret (pe_tup (pa_cons (pe_callTy call_tuple_of (by rfl) X.tup (by decide +kernel) (pa_cons (pe_lc (own := [("one", 4)]) (g := gName 4) rfl scDue.nd (pi_tup (pe_ix (r := rIxT K) ix_tup (pv 1) pe_int (fun _ _ => rfl)))
          (blkOk_by (N := nDue) (sc := defScope sDue) (by decide +kernel)) (fun _ _ _ _ _ => pg_name (i := 4) scDue.nd rfl (Or.inl rfl))
          (fun _ _ _ _ _ => pts_one (pt_cmpR op_le (pe_ix (r := rIxT K) ix_tup (pv 4) pe_int (fun _ _ => rfl)) (pv 2) (nomark _))) (fun _ _ _ _ _ => pv 4)) pa_nil)) (pa_cons (pv 2) pa_nil))))) pss_nil)
      (pss_cons (ps_if (pt_not (pt_val (pe_isi (N := "dict") (pv 2) X.isin X.dict))) (pss_one (ps_ret pe_str)) pss_nil)
      (pss_cons (ps_if (pt_not (pt_val (pe_callB (cr_all rfl) (by rfl) X.all (by decide +kernel) (pa_cons (pe_lock (pe_lc (own := [("one", 4)]) (g := gName 4) (tt := tYes) rfl scDue.nd (pi_keys (pv 2))
          (blkOk_by (N := nDue) (sc := defScope sDue) (by decide +kernel)) (fun _ _ _ _ _ => pg_name (i := 4) scDue.nd rfl (Or.inl rfl)) (fun _ _ _ _ _ => pts_nil)
          (fun _ _ _ _ _ => pe_and (pe_call GI hr1 rfl mI kI bI .nil pass0 (pa_cons (pv 4) pa_nil)) (pe_one (pe_call GI hr1 rfl mI kI bI .nil pass0 (pa_cons (pe_dget (hu_of hr) (pv 2) (pv 4) (fun _ _ => rfl)) pa_nil)))))) pa_nil)))) (pss_one (ps_ret pe_str)) pss_nil)
      (pss_one (ps_ret (pe_tup (pa_cons (pe_callTy call_tuple_of (by rfl) X.tup (by decide +kernel) (pa_cons (pe_lc (own := [("one", 4)]) (g := gName 4) (tt := tYes) rfl scDue.nd (pi_tup (pe_ix (r := rIxT K) ix_tup (pv 1) pe_int (fun _ _ => rfl)))
          (blkOk_by (N := nDue) (sc := defScope sDue) (by decide +kernel)) (fun _ _ _ _ _ => pg_name (i := 4) scDue.nd rfl (Or.inl rfl)) (fun _ _ _ _ _ => pts_nil)
          (fun _ _ _ _ _ => pe_op (show OpR _ _ (rCatT K) from op_catT) (pe_slice (show SlR _ (rSlT K) from sl_tup) (pv 4) po_none (po_some pe_int)) (pe_tup (pa_cons (pe_dget2 (hu_of hr) (pv 2) (pe_ix (r := rIxT K) ix_tup (pv 4) pe_int (fun _ _ => rfl)) (pe_ix (r := rIxT K) ix_tup (pv 4) pe_int (fun _ _ => rfl)) (by constructor <;> rfl)) pa_nil)))) pa_nil))
        (pa_cons (pe_ix (r := rIxT K) ix_tup (pv 1) pe_int (fun _ _ => rfl)) pa_nil))))))))))), ?_⟩
    have e60 : (10 : Int) ^ (60 : Int).toNat = ten60 := rfl
    obtain ⟨t, hp, xs, ts, px⟩ := id pa
    have lx : xs.length = es.length := px.length
    have lf := g.few
    have oddf : ∀ {y : V}, OddV H y → (∀ i, y ≠ .int i) ∧ IntV K H y ∧ (∀ H', Same H H' → OddV H' y) := fun h => ⟨(OddV.facts (K := K) h).2.2.1, (OddV.facts h).2.1, fun H' s => h.mono s⟩
    have sNum : ∀ (u : Addr) (H1 : Hp), Same H H1 → outcome es k way o = .num → ∀ z, H1 z = none → Q (.ref z) (upd H1 z (.tup [.str "number", y])) := fun u H1 s1 eo z hz => q _ _ (s1.trans (fresh hz)) (by rw [eo]; exact ⟨z, rfl, upd_same⟩)
    have sq0 : SqT K H p [.ref t, .int k] := SqT.of hp
    have wayI : 1 ≤ way → way ≠ 3 → (∀ fs j, o ≠ .tape fs j) ∧ (∀ kvs, o ≠ .tab kvs) ∧ IntV K H y ∧ (∀ i, y = .int i → o = .int i) ∧ ((∀ i, y ≠ .int i) → o = .odd) := fun h1 h3 => by
      cases o with
      | tape fs j =>
        have := op.1
        omega
      | tab kvs => exact (h3 op.1).elim
      | int i =>
        have e := op.2
        refine ⟨(fun _ _ z => nomatch z), (fun _ z => nomatch z), .inl ⟨i, e⟩, fun j ej => ?_, fun n => (n i e).elim⟩
        rw [e] at ej
        cases ej
        rfl
      | odd =>
        have z := oddf op.2
        exact ⟨(fun _ _ z => nomatch z), (fun _ z => nomatch z), z.2.1, fun i e => (z.1 i e).elim, fun _ => rfl⟩
    match way, w3 with
    | 0, _ =>
      refine ⟨_, rfl, rfl, _, rfl, ite2 (fun _ => ?_) (fun c => (c rfl).elim)⟩
      cases o with
      | tape fs j =>
        obtain ⟨_, q', rfl, qa, gb, few⟩ := op
        refine ⟨_, rfl, _, rfl, p, q', es, fs, k, j, rfl, pa, qa, few, fun r H1 s1 ra => ?_⟩
        obtain ⟨u, hr1', _⟩ := id ra
        refine ⟨_, rfl, r, _, _, _, rfl, rfl, SqT.of hr1', atI_nat (j := 1) rfl, _, _, rfl, rfl, ⟨by decide, by decide, by decide⟩, _, _, rfl, rfl, _, rfl, ?_⟩
        refine ite2 (fun c => ?_) (fun c => ?_)
        · have c' : j + k < ten60 := of_decide_eq_true c
          have eo : outcome es k 0 (.tape fs j) = .tp (es ++ shift fs k) (k + j) := if_pos (by omega)
          refine ⟨_, rfl, q _ H1 s1 ?_⟩
          rw [eo, Int.add_comm k j]
          exact ⟨r, rfl, ra⟩
        · have c' : ¬ j + k < ten60 := fun h => c (decide_eq_true h)
          have eo : outcome es k 0 (.tape fs j) = .word "tape" := if_neg (by omega)
          exact q _ H1 s1 (by rw [eo]; exact rfl)
      | tab kvs => exact nomatch op.1
      | int i => exact absurd op.1 (by decide)
      | odd => exact absurd op.1 (by decide)
    | 1, _ =>
      obtain ⟨nt, nb, iv, io, iodd⟩ := wayI (by decide) (by decide)
      refine ⟨_, rfl, rfl, _, rfl, ite2 (fun c => nomatch c) (fun _ => ?_)⟩
      refine ⟨_, rfl, _, _, rfl, rfl, _, rfl, ite2 (fun _ => ?_) (fun c => (c rfl).elim)⟩
      refine ⟨_, rfl, y, rfl, iv, fun b hb => ⟨b, rfl, ?_⟩⟩
      cases b with
      | false =>
        refine iteT (iteT ⟨_, rfl, (by show 2 ≤ sizeLine; decide), fun z hz => sNum p H (Same.refl _) ?_ z hz⟩)
        by_cases hy : ∃ i, y = .int i
        · obtain ⟨i, e⟩ := hy
          rw [io i e]
          exact if_neg fun h => Bool.noConfusion (hb.mpr ⟨i, e, Int.lt_of_lt_of_le (by decide +kernel : -ten60 < 0) h.1, h.2⟩)
        · rw [iodd fun i e => hy ⟨i, e⟩]
          rfl
      | true =>
        obtain ⟨i, rfl, _, i1⟩ := hb.mp rfl
        obtain rfl := io i rfl
        refine iteF ⟨_, rfl, _, _, rfl, rfl, _, rfl, ?_⟩
        refine ite2 (fun c => ?_) (fun c => ?_)
        · have c' : i < 0 := of_decide_eq_true c
          exact ⟨_, rfl, (by show 2 ≤ sizeLine; decide), fun z hz => sNum p H (Same.refl _) (if_neg fun h => by omega) z hz⟩
        · have c' : ¬ i < 0 := fun h => c (decide_eq_true h)
          refine ⟨_, rfl, rfl, _, rfl, ite2 (fun _ => ?_) (fun c => (c rfl).elim)⟩
          refine ⟨_, rfl, _, rfl, p, es, k, i, rfl, pa, lf, fun r H1 s1 ra => ?_⟩
          obtain ⟨u, hr1', _⟩ := id ra
          refine ⟨_, rfl, r, _, _, _, rfl, rfl, SqT.of hr1', atI_nat (j := 1) rfl, _, _, rfl, rfl, ⟨by decide, by decide, by decide⟩, _, _, rfl, rfl, _, rfl, ?_⟩
          have e0 : outcome es k 1 (.int i) = if k + i < ten60 then .tp (shift es i) (k + i) else .word "tape" := if_pos ⟨by omega, i1⟩
          refine ite2 (fun c => ?_) (fun c => ?_)
          · have c' : k + i < ten60 := of_decide_eq_true c
            refine ⟨_, rfl, q _ H1 s1 ?_⟩
            rw [e0, if_pos c']
            exact ⟨r, rfl, ra⟩
          · have c' : ¬ k + i < ten60 := fun h => c (decide_eq_true h)
            exact q _ H1 s1 (by rw [e0, if_neg c']; exact rfl)
    | 2, _ =>
      obtain ⟨nt, nb, iv, io, iodd⟩ := wayI (by decide) (by decide)
      have k60 := g.hi
      refine ⟨_, rfl, rfl, _, rfl, ite2 (fun c => nomatch c) (fun _ => ?_)⟩
      refine ⟨_, rfl, _, _, rfl, rfl, _, rfl, ite2 (fun _ => ?_) (fun c => (c rfl).elim)⟩
      refine ⟨_, rfl, y, rfl, iv, fun b hb => ⟨b, rfl, ?_⟩⟩
      cases b with
      | false =>
        refine iteT (iteT ⟨_, rfl, (by show 2 ≤ sizeLine; decide), fun z hz => sNum p H (Same.refl _) ?_ z hz⟩)
        by_cases hy : ∃ i, y = .int i
        · obtain ⟨i, e⟩ := hy
          rw [io i e]
          exact if_neg fun h => Bool.noConfusion (hb.mpr ⟨i, e, Int.lt_of_lt_of_le (by decide +kernel : -ten60 < 0) h.1, by omega⟩)
        · rw [iodd fun i e => hy ⟨i, e⟩]
          rfl
      | true =>
        obtain ⟨i, rfl, _, i1⟩ := hb.mp rfl
        obtain rfl := io i rfl
        refine iteF ⟨_, rfl, _, _, rfl, rfl, _, rfl, ?_⟩
        refine ite2 (fun c => ?_) (fun c => ?_)
        · have c' : i < 0 := of_decide_eq_true c
          exact ⟨_, rfl, (by show 2 ≤ sizeLine; decide), fun z hz => sNum p H (Same.refl _) (if_neg fun h => by omega) z hz⟩
        · have c' : ¬ i < 0 := fun h => c (decide_eq_true h)
          refine ⟨_, rfl, rfl, _, rfl, ite2 (fun c => nomatch c) (fun _ => ?_)⟩
          refine ⟨_, rfl, rfl, _, rfl, ite2 (fun _ => ?_) (fun c => (c rfl).elim)⟩
          refine ⟨_, rfl, _, rfl, p, _, _, _, rfl, rfl, sq0, atI_nat (j := 1) rfl, _, _, rfl, rfl, _, rfl, ?_⟩
          refine ite2 (fun c => ?_) (fun c => ?_)
          · have c2 : i > k := of_decide_eq_true c
            exact ⟨_, rfl, (by show 2 ≤ sizeLine; decide), fun z hz => sNum p H (Same.refl _) (if_neg fun h => by omega) z hz⟩
          · have c2 : ¬ i > k := fun h => c (decide_eq_true h)
            have eo : outcome es k 2 (.int i) = .tp (cutAt es i) i := if_pos ⟨by omega, by omega⟩
            refine ⟨_, rfl, rfl, _, rfl, ite2 (fun _ => ?_) (fun c => (c rfl).elim)⟩
            refine ⟨_, rfl, p, _, _, _, rfl, rfl, sq0, atI_nat (j := 0) rfl, t, rfl, ⟨xs, ts.sq⟩, fun D hD => ?_⟩
            refine lc_keep (walk_tup (K := K) (xs := xs) (a := t)) (fun j => match es[j]? with | some e => decide (e.t ≤ i) | none => false) (fun j H y => ∃ e, es[j]? = some e ∧ EvAt H y e) (fun j H H' y kp ⟨e, h1, h2⟩ => ⟨e, h1, h2.mono kp⟩) hD (by omega)
              (fun H s => (ts.mono (Kp.of s)).sq) ?_ ?_
            · rintro j x H1 H' kT kF hj s1 ⟨rfl, hx⟩ hT hF
              obtain ⟨e, he, a1, rfl, q1⟩ := paired_get px hx
              refine ⟨rfl, _, rfl, a1, _, _, _, rfl, rfl, SqT.of (s1 _ _ q1), atI_nat (j := 0) rfl, _, rfl, _, _, rfl, rfl, _, rfl, ?_⟩
              rw [he] at hT hF
              refine ite2 (fun c => ?_) (fun c => ?_)
              · exact ⟨_, rfl, hT c _ _ (Same.refl _) ⟨e, rfl, a1, rfl, s1 _ _ q1⟩⟩
              · exact hF (by simpa using c) _ (Same.refl _)
            · intro H2 ys s2 hD2 hl pr
              refine ⟨D, _, rfl, .inl ⟨SqL.of hD2, fun l hl2 => ?_⟩⟩
              have s3 : Same H2 (upd H2 l (.tup ys)) := fresh hl2
              have pe := paired_map pr
              rw [lx, filter_range es (fun e => decide (e.t ≤ i)) _ (fun j e h => by rw [h])] at pe
              refine ⟨_, rfl, (by show 2 ≤ sizeLine; decide), fun z hz => q _ _ ((s2.trans s3).trans (fresh hz)) ?_⟩
              rw [eo]
              exact ⟨z, rfl, l, upd_same, ys, .inl ((fresh hz) _ _ upd_same), Paired.mono (fun _ _ h => h.mono ((Kp.of s3).trans (Kp.of (fresh hz)))) pe⟩
    | 3, _ =>
      have alt : (Isi K H y "dict" false ∧ outcome es k 3 o = .word "tape") ∨ ∃ d kvs, y = .ref d ∧ H d = some (.dK kvs) ∧ kvs.length ≤ 100 ∧ (kvs.map (·.1)).Nodup ∧ (∀ p ∈ kvs, ∀ H', IntV K H' p.2) ∧
          ((∀ p ∈ kvs, IntKV p) → outcome es k 3 o = .tp (swap kvs es) k) ∧ ((∃ p ∈ kvs, ¬ IntKV p) → outcome es k 3 o = .word "tape") := by
        cases o with
        | tape fs j => exact nomatch op.1
        | int i =>
          have e := op.2
          subst e
          exact .inl ⟨isi_ty (.base (.int i)) (by decide), rfl⟩
        | tab kvs =>
          obtain ⟨_, d, e, hd, few, nd, iv⟩ := op
          exact .inr ⟨d, kvs, e, hd, few, nd, fun p hp H' => let ⟨_, i, e, _⟩ := iv p hp; .inl ⟨i, e⟩, fun _ => rfl, fun ⟨p, hp, n⟩ => (n (iv p hp)).elim⟩
        | odd =>
          rcases (OddV.facts (K := K) op.2).2.2.2 with i1 | ⟨d, kv, e, hd, nk, iv⟩
          · exact .inl ⟨i1, rfl⟩
          · refine .inr ⟨d, _, e, hd, (by show 1 ≤ 100; decide), by simp, fun p hp H' => ?_, fun all => (nk (all kv (by simp))).elim, fun _ => rfl⟩
            rw [List.mem_singleton.mp hp]
            exact iv H'
      refine ⟨_, rfl, rfl, _, rfl, ite2 (fun c => nomatch c) (fun _ => ?_)⟩
      refine ⟨_, rfl, _, _, rfl, rfl, _, rfl, ite2 (fun c => nomatch c) (fun _ => ?_)⟩
      refine ⟨_, rfl, rfl, _, rfl, ite2 (fun c => nomatch c) (fun _ => ?_)⟩
      refine ⟨_, rfl, rfl, _, rfl, ite2 (fun c => nomatch c) (fun _ => ?_)⟩
      refine ⟨_, rfl, rfl, _, rfl, ite2 (fun c => nomatch c) (fun _ => ?_)⟩
      rcases alt with ⟨i1, eo⟩ | ⟨d, kvs, rfl, hd, few, nd, iv, eT, eF⟩
      · exact ⟨_, rfl, _, i1, _, rfl, iteT (q _ H (Same.refl _) (by rw [eo]; exact rfl))⟩
      refine ⟨_, rfl, true, isi_ty (.base (.dK hd)) (by decide), _, rfl, iteF ⟨d, _, hd, True.intro, fun od => ?_⟩⟩
      have h1 : (upd H d (.frz od (.dK kvs))) d = some (.frz od (.dK kvs)) := upd_same
      generalize hH : upd H d (.frz od (.dK kvs)) = Hf at h1
      refine ⟨_, rfl, d, od, rfl, .inl ⟨kvs, h1, fun D hD => ?_⟩⟩
      refine lc_bools (walk_keys (kvs := kvs) (d := d) (o := od)) (fun i => ∃ p, kvs[i]? = some p ∧ IntKV p) hD (by omega) (fun H s => s _ _ h1) ?_ ?_
      · rintro i x H1 H' kk hi s1 ⟨rfl, ky, vy, hx, rfl⟩ h
        have hmem := List.mem_of_getElem? hx
        refine ⟨rfl, _, rfl, kV ky, rfl, key_int K _ ky, fun b2 hb2 => ⟨b2, rfl, ?_⟩⟩
        cases b2 with
        | false => exact iteF (h _ _ (Same.refl _) (nay fun ⟨p, hp, q, _⟩ => by rw [hx] at hp; cases hp; exact Bool.noConfusion (hb2.mpr q)))
        | true =>
          refine iteT ⟨_, rfl, _, rfl, d, vy, rfl, ?_, vy, rfl, iv _ hmem _, fun b3 hb3 => h _ _ (Same.refl _) (hb3.trans ⟨fun q => ⟨_, hx, hb2.mp rfl, q⟩, fun ⟨p, hp, _, q⟩ => by rw [hx] at hp; cases hp; exact q⟩)⟩
          rw [← val_at nd hx]
          exact .inl ⟨kvs, ky, .inr ⟨od, s1 _ _ h1⟩, rfl, rfl⟩
      · rintro H1 bs s1 hD1 hb
        rw [all_at] at hb
        have e2 := s1 _ _ h1
        have nD : D ≠ d := fun q => by
          rw [q, h1] at hD
          cases hD
        have un : Same H (upd H1 d (.dK kvs)) := fun b o e => by
          by_cases q : b = d
          · subst q
            rw [hd] at e
            rw [upd_same]
            exact e
          · rw [upd_ne q]
            refine s1 _ _ ?_
            rw [← hH, upd_ne q]
            exact e
        refine ⟨e2, D, bs, rfl, SqL.of ((upd_ne nD).trans hD1), _, rfl, ?_⟩
        have hd2 : (upd H1 d (.dK kvs)) d = some (.dK kvs) := upd_same
        generalize upd H1 d (.dK kvs) = H2 at un hd2
        cases eb : bs.all id with
        | false =>
          refine iteT (q _ _ un ?_)
          have : ∃ p ∈ kvs, ¬ IntKV p := Classical.byContradiction fun z => Bool.noConfusion (eb.symm.trans (hb.mpr fun p hp => Classical.byContradiction fun y => z ⟨p, hp, y⟩))
          rw [eF this]
          exact rfl
        | true =>
          have good := hb.mp eb
          have eo := eT good
          refine iteF ?_
          have hp2 := un _ _ hp
          have ts2 := ts.mono (Kp.of un)
          have px2 : Paired (EvAt H2) xs es := Paired.mono (fun _ _ q => q.mono (Kp.of un)) px
          refine ⟨_, rfl, p, _, _, _, rfl, rfl, SqT.of hp2, atI_nat (j := 0) rfl, t, rfl, ⟨xs, ts2.sq⟩, fun D hD => ?_⟩
          refine lc_each (walk_tup (K := K) (xs := xs) (a := t)) (fun j H y => ∃ e, es[j]? = some e ∧ EvAt H y (e.sub kvs)) (fun j H H' y kp ⟨e, h1, h2⟩ => ⟨e, h1, h2.mono kp⟩) hD (by omega) (fun H s => (ts2.mono (Kp.of s)).sq) ?_ ?_
          · rintro j x H1 H' kT hj s1 ⟨rfl, hx⟩ h
            obtain ⟨e, he, a1, rfl, q1⟩ := paired_get px2 hx
            have q2 := s1 _ _ q1
            have hd3 := s1 _ _ hd2
            refine ⟨rfl, _, rfl, _, rfl, a1, _, rfl, SqT.of q2, (by show ¬ (HT.sIx 4 0 none = 0 ∧ HT.sIx 4 4 (some 3) = 4); decide), fun z2 hz2 => ?_⟩
            have s3 : Same H' (upd H' z2 (.tup (cutV e.vs none (some 3)))) := fresh hz2
            have e3 : (upd H' z2 (.tup (cutV e.vs none (some 3)))) z2 = some (.tup [.int e.t, .str e.s, .str ⟨#[e.l]⟩]) := upd_same
            generalize upd H' z2 (.tup (cutV e.vs none (some 3))) = H3 at s3 e3 ⊢
            have q3 := s3 _ _ q2
            refine ⟨_, rfl, d, rfl, .inl ⟨kvs, .inl (s3 _ _ hd3)⟩, _, rfl, a1, _, _, _, rfl, rfl, SqT.of q3, atI_nat (j := 3) rfl, _, rfl, a1, _, _, _, rfl, rfl, SqT.of q3, atI_nat (j := 3) rfl, valV kvs (.inl e.v), DGet.k (k := Sum.inl e.v) (s3 _ _ hd3), (by show 1 ≤ sizeLine; decide), fun z4 hz4 => ?_⟩
            have s4 : Same H3 (upd H3 z4 (.tup [(valV kvs (.inl e.v)).getD (.int e.v)])) := fresh hz4
            refine ⟨z2, z4, [.int e.t, .str e.s, .str ⟨#[e.l]⟩], [(valV kvs (.inl e.v)).getD (.int e.v)], rfl, rfl, SqT.of (s4 _ _ e3), SqT.of upd_same, (fun q => nomatch q), (by show 4 ≤ sizeLine; decide), (fun q => nomatch q), fun _ z5 hz5 => ?_⟩
            refine h _ _ ((s3.trans s4).trans (fresh hz5)) ⟨e, he, z5, rfl, ?_⟩
            rw [upd_same, (sub_get good e).1]
            rfl
          · intro H3 ys s2 hD2 hl hy
            refine ⟨D, _, rfl, .inl ⟨SqL.of hD2, fun l hl2 => ?_⟩⟩
            have s3 : Same H3 (upd H3 l (.tup ys)) := fresh hl2
            have e3 : (upd H3 l (.tup ys)) l = some (.tup ys) := upd_same
            have hy3 : ∀ (j : Nat) y, ys[j]? = some y → ∃ e, es[j]? = some e ∧ EvAt (upd H3 l (.tup ys)) y (e.sub kvs) := fun j y h => let ⟨e, h1, h2⟩ := hy j y h; ⟨e, h1, h2.mono (Kp.of s3)⟩
            have s03 := s2.trans s3
            generalize upd H3 l (.tup ys) = H4 at s3 e3 hy3 s03
            have ev : Evs K H4 l (swap kvs es) := ⟨ys, .inl e3, paired_of (by unfold swap; rw [List.length_map, hl, lx]) fun j y e h1 h2 => by
              obtain ⟨e', q1, q2⟩ := hy3 j y h1
              unfold swap at h2
              rw [List.getElem?_map, q1] at h2
              cases h2
              exact q2⟩
            refine ⟨_, rfl, p, _, _, _, rfl, rfl, SqT.of (s03 _ _ hp2), atI_nat (j := 1) rfl, (by show 2 ≤ sizeLine; decide), fun z hz => q _ _ ((un.trans s03).trans (fresh hz)) ?_⟩
            rw [eo]
            exact ⟨z, rfl, l, upd_same, ev.mono (Kp.of (fresh hz))⟩
end
end Wd

set_option Elab.async false
set_option linter.all false
set_option maxRecDepth 100000
set_option maxHeartbeats 4000000
/-! tapes, used where nothing is refused -/
namespace Wd
open PySem PySem.Spec PyProof.Rows L2
def rAddOk (K : PySem.W.Frag) (C : Addr) : R2 := fun x y H Q => ∃ a b es fs k j, x = .ref a ∧ y = .ref b ∧ TapeAt K C H a es k ∧ Good es k ∧ TapeAt K C H b fs j ∧ Good fs j ∧ es.length + fs.length ≤ 300 ∧ k + j < ten60 ∧
  ∀ c H', Same H H' → TapeAt K C H' c (es ++ shift fs k) (k + j) → Good (es ++ shift fs k) (k + j) → Q (.ref c) H'
def rShrOk (K : PySem.W.Frag) (C : Addr) : R2 := fun x y H Q => ∃ a es k i, x = .ref a ∧ y = .int i ∧ TapeAt K C H a es k ∧ Good es k ∧ 0 ≤ i ∧ k + i < ten60 ∧
  ∀ c H', Same H H' → TapeAt K C H' c (shift es i) (k + i) → Good (shift es i) (k + i) → Q (.ref c) H'
def rEqOk (K : PySem.W.Frag) (C : Addr) : R2 := fun x y H Q => ∃ a b es fs k j, x = .ref a ∧ y = .ref b ∧ TapeAt K C H a es k ∧ Good es k ∧ TapeAt K C H b fs j ∧ Good fs j ∧ ∀ r, (r = true ↔ es = fs ∧ k = j) → Q (.bl r) H
def spUptoOk (K : PySem.W.Frag) (C : Addr) : Sp := fun vs H Q _ => ∃ a es k i, vs = [.ref a, .int i] ∧ TapeAt K C H a es k ∧ Good es k ∧ 0 ≤ i ∧ i ≤ k ∧ ∀ c H', Same H H' → TapeAt K C H' c (cutAt es i) i → Good (cutAt es i) i → Q (.ref c) H'
def spChgOk (K : PySem.W.Frag) (C : Addr) : Sp := fun vs H Q _ => ∃ a es k d kvs, vs = [.ref a, .ref d] ∧ TapeAt K C H a es k ∧ Good es k ∧ H d = some (.dK kvs) ∧ kvs.length ≤ 100 ∧ (kvs.map (·.1)).Nodup ∧ (∀ p ∈ kvs, IntKV p) ∧
  ∀ c H', Same H H' → TapeAt K C H' c (swap kvs es) k → Good (swap kvs es) k → Q (.ref c) H'
/-- the methods of tapes that raise nothing -/
structure TM2 (P : Program) (w : World) (K : PySem.W.Frag) (mg : Str → Option Value) (base : Heap) (C f1 f2 : Addr) : Prop where
  y : TpTxt K mg C f1 f2
  eq : ∃ fd, FnOk P w K mg base CX0 1 f2 fd ["self", "other"] (spEqT K C) ∧ Binds K fd ["self", "other"] []
  len : ∃ f fd, OO.Dun K C "__len__" f ∧ FnOk P w K mg base CX0 1 f fd ["self"] (spLenT K C) ∧ Binds K fd ["self"] []
  item : ∃ f fd, OO.Dun K C "__getitem__" f ∧ PySem.W.fnIn K f = true ∧ FnOk P w K mg base CX0 3 f fd ["self", "index"] (spItemT K C) ∧ Binds K fd ["self", "index"] []
  stm : ∃ f fd, Meth K C "stamps" f ∧ FnOk P w K mg base CX0 1 f fd ["self"] (spStamps K C) ∧ Binds K fd ["self"] []
  pE : PropG P w K mg base C "events" "_events"
  pL : PropG P w K mg base C "last" "_last"
theorem pass9 {X : Cx} : Passes (L2.CX X.prog X.w) X (fun _ _ _ => False) := passes_call takes0 (fun _ _ _ _ h => h)
section
variable {P : Program} {w : World} {K : PySem.W.Frag} {mg : Str → Option Value} {base : Heap} {C CIN CIO CIT f1 f2 t0 : Addr}
theorem op_addT {X : Cx} (M : TM1 P w K mg base C CIN CIO CIT) (e1 : X.prog = P) (e2 : X.w = w) (e3 : X.K = K) (e4 : X.mg = mg) (e5 : X.base = base) (hr : Room 8 X.A) : OpR X (binaryOp .Add) (rAddOk K C) := by
  subst e1 e2 e3 e4 e5
  obtain ⟨f, fd, D, F, b⟩ := M.add
  intro pins s σ H x y v u Q I rx ry ⟨a, b', es, fs, k, j, ex, ey, ta, g, tb, gb, few, lt, q⟩
  obtain ⟨dx, t, ha, _⟩ := id ta
  obtain ⟨dy, u', hb, _⟩ := id tb
  exact OO.op_same (op := .Add) D M.sf F hr b pass9 pins s σ H x y v u Q I rx ry ⟨a, b', dx, dy, _, _, ex, ey, ha, hb, a, es, k, y, by rw [ex], ta, g, .inr ⟨b', fs, j, ey, tb, gb, few, fun h => by omega, fun c H' _ s' tc => q c H' s' tc (g.join gb lt few)⟩⟩
theorem op_shrT {X : Cx} (M : TM1 P w K mg base C CIN CIO CIT) (e1 : X.prog = P) (e2 : X.w = w) (e3 : X.K = K) (e4 : X.mg = mg) (e5 : X.base = base) (hr : Room 7 X.A) : OpR X (binaryOp .RShift) (rShrOk K C) := by
  subst e1 e2 e3 e4 e5
  obtain ⟨f, fd, D, F, b⟩ := M.shr
  intro pins s σ H x y v u Q I rx ry ⟨a, es, k, i, ex, ey, ta, g, i0, lt, q⟩
  obtain ⟨dx, t, ha, _⟩ := id ta
  have k0 := g.lastN
  exact OO.op_with (op := .RShift) (T := "int") D M.sf (M.bR "int" (by decide)) F hr b pass9 pins s σ H x y v u Q I rx ry ⟨a, dx, _, ex, by rw [ey]; exact .int i, ha, a, es, k, y, by rw [ex], ta, g, .inl ⟨i, ey⟩,
    fun n => (n ⟨i, ey, i0, by omega⟩).elim, fun i' e _ _ h => by rw [ey] at e; cases e; omega, fun i' c H' e _ _ _ s' tc => by rw [ey] at e; cases e; exact q c H' s' tc (g.shift i0 lt)⟩
theorem op_eqT {X : Cx} (M : TM2 P w K mg base C f1 f2) (e1 : X.prog = P) (e2 : X.w = w) (e3 : X.K = K) (e4 : X.mg = mg) (e5 : X.base = base) (hr : Room 1 X.A) : OpR X (compareOp .Eq) (rEqOk K C) := by
  subst e1 e2 e3 e4 e5
  obtain ⟨fd, G, b⟩ := M.eq
  have Y := M.y
  intro pins s σ H x y v u Q I rx ry ⟨a, b', es, fs, k, j, ex, ey, ta, g, tb, gb, q⟩
  subst ex ey
  cases rx
  cases ry
  obtain ⟨dx, t, ha, _⟩ := id ta
  obtain ⟨dy, u', hb, _⟩ := id tb
  obtain ⟨mA, J, _⟩ := ins_get I.hok hb
  obtain ⟨od, J, _⟩ := J.look
  refine cmp_own (E := E0) (y := .ref b') (tb := .ref C) G Y.eqm Y.eqf b pass0 hr I ha rfl J.type Y.nf ?_
  exact ⟨a, b', es, fs, k, j, rfl, ta, tb, g.near, gb.near, fun r hr => ⟨r, rfl, q r hr⟩⟩
theorem ok_uptoOk {f : Addr} {fd : FuncData} (F : FnOk P w K mg base (L2.CX P w) 7 f fd ["self", "time"] (spUpto K C CIN)) : FnOk P w K mg base (L2.CX P w) 7 f fd ["self", "time"] (spUptoOk K C) :=
  F.imp fun vs H Q E ⟨a, es, k, i, ev, ta, g, i0, ik, q⟩ => ⟨a, es, k, .int i, ev, ta, g, .inl ⟨i, rfl⟩, fun n => (n ⟨i, rfl, i0, ik⟩).elim, fun i' b H' e _ _ s' tb => by cases e; exact q b H' s' tb (g.cut i0 ik)⟩
theorem ok_chgOk {f : Addr} {fd : FuncData} (F : FnOk P w K mg base (L2.CX P w) 7 f fd ["self", "table"] (spChg K C CIT)) : FnOk P w K mg base (L2.CX P w) 7 f fd ["self", "table"] (spChgOk K C) :=
  F.imp fun vs H Q E ⟨a, es, k, d, kvs, ev, ta, g, hd, few, nd, iv, q⟩ => ⟨a, es, k, .ref d, ev, ta, g, .inr ⟨d, kvs, rfl, hd, few, nd, fun p hp H' _ => let ⟨_, i, e, _⟩ := iv p hp; .inl ⟨i, e⟩, fun ⟨p, hp, n⟩ => (n (iv p hp)).elim, fun _ b H' s' tb => q b H' s' tb (g.swap iv)⟩⟩
theorem call_lenT {X : Cx} (M : TM2 P w K mg base C f1 f2) (e1 : X.prog = P) (e2 : X.w = w) (e3 : X.K = K) (e4 : X.mg = mg) (e5 : X.base = base) (hr : Room 2 X.A) :
    CallR X (.builtin "len") (fun xs H Q => ∃ a es k, xs = [.ref a] ∧ TapeAt K C H a es k ∧ es.length ≤ 600 ∧ Q (.int es.length) H) := by
  subst e1 e2 e3 e4 e5
  obtain ⟨f, fd, D, F, b⟩ := M.len
  intro pins s σ H xs us Q I r ⟨a, es, k, ex, ta, few, q⟩
  obtain ⟨dx, t, ha, _⟩ := id ta
  exact OO.len_own (E := E0) D F hr b pass0 pins s σ H xs us Q I r ⟨a, dx, _, ex, ha, a, es, k, ex, ta, es.length, rfl, by omega, q⟩
def tIxT (K : PySem.W.Frag) (C : Addr) (to ti : TE) : TE := fun σ H Q => to σ H fun x H1 => ti σ H1 fun y H2 => ∃ a es k, ∃ i : Nat, ∃ e, x = .ref a ∧ y = .int i ∧ TapeAt K C H2 a es k ∧ es.length ≤ 600 ∧ es[i]? = some e ∧ ∀ v, EvAt H2 v e → Q v H2
theorem pe_ixT {X : Cx} (M : TM2 P w K mg base C f1 f2) (e1 : X.prog = P) (e2 : X.w = w) (e3 : X.K = K) (e4 : X.mg = mg) (e5 : X.base = base) (hr : Room 4 X.A) {o i : Expr} {to ti : TE} {pos : Pos} (ho : PE X o to) (hi : PE X i ti)
    (hs : ∀ v u : Value, subscripted i true v u = runValue (.builtin "lifetime.subscript" ⟨[v, u], []⟩) := by intro _ _; with_unfolding_all rfl) : PE X (.Subscript o i pos) (tIxT K C to ti) := by
  subst e1 e2 e3 e4 e5
  obtain ⟨f, fd, D, fn, F, b⟩ := M.item
  refine ⟨fun pins s σ H Q I h => Subscript_ (thn (ho.run pins s σ H _ I h) fun v s1 ⟨x, H1, I1, r1, q1⟩ => ?_)⟩
  refine thn (hi.run pins s1 σ H1 _ I1 q1) fun u s2 ⟨y, H2, I2, r2, a, es, k, i', e, ex, ey, ta, few, he, q⟩ => ?_
  subst ex
  cases r1
  obtain ⟨dx, t, ha, _⟩ := id ta
  exact OO.ix_own (E := E0) D fn F hr b pass0 I2 ha r2 ⟨a, es, k, i', e, by rw [ey], ta, few, he, q⟩ (hs _ _)
/-- a good tape is made -/
theorem new_good {t x dx : Addr} {H : Hp} {es : List Ev} {k : Int} {Q : VK} {E : XK} (hx : H x = none) (hd : H dx = none) (ne : dx ≠ x) (ev : Evs K H t es) (g : Good es k) (q : ∀ b H', Same H H' → TapeAt K C H' b es k → Q (.ref b) H') :
    spInitT K C CIT [.ref x, .ref t, .int k] (upd (upd H dx (.own x)) x (.ins C dx [])) (fun v H3 => v = .non ∧ Q (.ref x) H3) E := by
  have few := g.few
  refine new_reads hx hd ne ev g.near (by omega) (.inr ⟨k, rfl⟩) (fun k' row hk b H' s' tb => ?_) fun nb H' s' => (nb ⟨g.row, .inr ⟨k, rfl, g.lo, g.hi⟩⟩).elim
  rcases hk with ⟨hk, _⟩ | ⟨hk, _, _⟩
  · cases hk
  · cases hk
    exact q b H' s' tb
theorem new_zero {t x dx : Addr} {H : Hp} {Q : VK} {E : XK} (hx : H x = none) (hd : H dx = none) (ne : dx ≠ x) (ev : Evs K H t []) (q : ∀ b H', Same H H' → TapeAt K C H' b [] 0 → Q (.ref b) H') :
    spInitT K C CIT [.ref x, .ref t, .non] (upd (upd H dx (.own x)) x (.ins C dx [])) (fun v H3 => v = .non ∧ Q (.ref x) H3) E := by
  refine new_reads hx hd ne ev (fun e h => nomatch h) (by decide) (.inl rfl) (fun k' row hk b H' s' tb => ?_) fun nb H' s' => (nb ⟨⟨(fun e h => nomatch h), .nil⟩, .inl rfl⟩).elim
  rcases hk with ⟨_, hk⟩ | ⟨hk, _, _⟩
  · have hk' : k' = 0 := hk
    subst hk'
    exact q b H' s' tb
  · cases hk
theorem good_nil {k : Int} (h : 0 ≤ k) (h2 : k < ten60) : Good [] k := ⟨(fun e h => nomatch h), ⟨(fun e h => nomatch h), .nil⟩, h, h2, by decide⟩
theorem init_mono {vs : List V} {H : Hp} {Q Q' : VK} {E : XK} (h : spInitT K C CIT vs H Q E) (m : ∀ v H', Q v H' → Q' v H') : spInitT K C CIT vs H Q' E :=
  let ⟨p, dx, t, es, lv, a, b, c, d, e, f, k, no⟩ := h
  ⟨p, dx, t, es, lv, a, b, c, d, e, f, fun k' H' r h1 h2 h3 => m _ _ (k k' H' r h1 h2 h3), no⟩
theorem new_goodX {t x dx : Addr} {H : Hp} {es : List Ev} {k : Int} {Q : VK} {E : XK} (hx : H x = none) (hd : H dx = none) (ne : dx ≠ x) (ev : Evs K H t es) (g : Good es k) (q : ∀ H', Same H H' → TapeAt K C H' x es k → Q .non H') :
    spInitT K C CIT [.ref x, .ref t, .int k] (upd (upd H dx (.own x)) x (.ins C dx [])) Q E :=
  init_mono (new_good (Q := fun v H3 => ∃ b, v = .ref b ∧ Same H H3 ∧ TapeAt K C H3 b es k) hx hd ne ev g fun b H' s t => ⟨b, rfl, s, t⟩) fun v H' ⟨ev, b, eb, s, t⟩ => by
    subst ev
    cases eb
    exact q H' s t
theorem new_zeroX {t x dx : Addr} {H : Hp} {Q : VK} {E : XK} (hx : H x = none) (hd : H dx = none) (ne : dx ≠ x) (ev : Evs K H t []) (q : ∀ H', Same H H' → TapeAt K C H' x [] 0 → Q .non H') :
    spInitT K C CIT [.ref x, .ref t, .non] (upd (upd H dx (.own x)) x (.ins C dx [])) Q E :=
  init_mono (new_zero (Q := fun v H3 => ∃ b, v = .ref b ∧ Same H H3 ∧ TapeAt K C H3 b [] 0) hx hd ne ev fun b H' s t => ⟨b, rfl, s, t⟩) fun v H' ⟨ev, b, eb, s, t⟩ => by
    subst ev
    cases eb
    exact q H' s t
/-! ### whether it fits -/
def Flatd (H : Hp) (y : V) : Prop := (∃ i, y = .int i) ∨ OddV H y
theorem flatd_eqd {H : Hp} {y : V} (h : Flatd H y) : Eqd K H 2 y y := by
  rcases h with ⟨i, rfl⟩ | rfl | rfl | rfl | ⟨p, rfl, e⟩ | ⟨p, rfl, e⟩ | ⟨p, rfl, e⟩ | ⟨p, rfl, e⟩
  · exact .sc (.inr (.inr (.inl ⟨i, rfl⟩)))
  · exact .sc (.inl rfl)
  · exact .sc (.inr (.inl ⟨_, rfl⟩))
  · exact .sc (.inr (.inr (.inr ⟨_, rfl⟩)))
  · exact .tup (.inl e) (.inl e) rfl (by decide) fun i x y h => by simp at h
  · refine .lst e e rfl (by decide) fun i x y h1 h2 => ?_
    rw [h1] at h2
    cases h2
    have := List.mem_of_getElem? h1
    rw [List.mem_singleton.mp this]
    exact .sc (.inr (.inr (.inl ⟨0, rfl⟩)))
  · exact .dic e trivial (.inr (.inl ⟨_, rfl⟩)) (by decide)
  · exact .dic e (by show PyData.strOk _ = true; decide +kernel) (.inr (.inr (.inl ⟨_, rfl⟩))) (by decide)
def spFits (K : PySem.W.Frag) (C : Addr) : Sp := fun vs H Q _ => ∃ (v u y : V) (o : Out), vs = [v, u] ∧ Ans K C H v y o ∧ Due K H u y o ∧ (∀ es k, o = .tp es k → es.length ≤ 300) ∧ (o = .num → Flatd H y) ∧ ∀ H', Same H H' → Q (.bl true) H'
theorem scFits : FnScope ["answer", "due"] ["answer", "due"] (defScope sFits) := ⟨rfl, rfl, rfl, by decide +kernel, rfl, by decide +kernel, by decide +kernel⟩
theorem ok_fits {f fS fTp fI fL : Addr} {fd fdS fdT : FuncData} (F : Fun K "_law_fits" "_law_fits" sFits f fd) (X : WTxt mg fI fL)
    (mS : mg "_law_same" = some (.ref fS)) (kS : PySem.W.keepIn K (.ref fS) = true) (bS : Binds K fdS ["one", "other"] []) (GS : FnOk P w K mg base CX0 6 fS fdS ["one", "other"] (spSameE K 3))
    (mT : mg "_law_is_tape" = some (.ref fTp)) (kT : PySem.W.keepIn K (.ref fTp) = true) (bT : Binds K fdT ["tape", "plain"] []) (GT : FnOk P w K mg base CX0 7 fTp fdT ["tape", "plain"] (spIsTape K C)) :
    FnOk P w K mg base CX0 8 f fd ["answer", "due"] (spFits K C) := by
  refine F.ok scFits (fun vs H Q E h => ?_) (fun cdv A outer s H vs Q E hr h => ?_)
  · obtain ⟨v, u, y, o, rfl, _⟩ := h
    rfl
  · obtain ⟨v, u, y, o, rfl, an, du, few, fl, q⟩ := h
    have hr6 : Room 6 _ := hr.mono (by decide)
    refine ⟨_, pss_cons (ps_if (PW.pt (pw_and (pt_val (pe_isi (N := "tuple") (pv 1) X.isin X.tup)) (pw_and1 (pt_not (pt_val (pe_isi (N := "str") (pe_ix (r := rIxT K) ix_tup (pv 1) pe_int (fun _ _ => rfl)) X.isin X.str))))))
        (pss_one (ps_ret (pe_call GT hr rfl mT kT bT .nil pass0 (pa_cons (pv 0) (pa_cons (pv 1) pa_nil))))) pss_nil)
      (pss_one (ps_ret (pe_call GS hr6 rfl mS kS bS .nil pass0 (pa_cons (pv 0) (pa_cons (pv 1) pa_nil))))), ?_⟩
    cases o with
    | tp es k =>
      obtain ⟨a, rfl, ta⟩ := an
      obtain ⟨p, rfl, pa⟩ := du
      obtain ⟨t, hp, xs, ts, px⟩ := id pa
      refine ⟨_, rfl, true, isi_ty (.base (.tup hp)) (by decide), _, rfl, iteT ⟨_, rfl, p, _, _, _, rfl, rfl, SqT.of hp, atI_nat (j := 0) rfl, false, isi_ty ts.ty (by decide), _, rfl, iteT ?_⟩⟩
      exact ⟨_, rfl, _, rfl, a, p, es, k, rfl, ta, pa, few _ _ rfl, q⟩
    | num =>
      obtain ⟨p1, rfl, h1⟩ := an
      obtain ⟨p2, rfl, h2⟩ := du
      refine ⟨_, rfl, true, isi_ty (.base (.tup h2)) (by decide), _, rfl, iteT ⟨_, rfl, p2, _, _, _, rfl, rfl, SqT.of h2, atI_nat (j := 0) rfl, true, isi_ty (.base (.str _)) (by decide), _, rfl, iteF ?_⟩⟩
      refine ⟨_, rfl, _, rfl, _, _, rfl, .tup (.inl h1) (.inl h2) rfl (by show 2 ≤ 900; decide) (fun i x z e1 e2 => ?_), q⟩
      rw [e1] at e2
      cases e2
      have m := List.mem_of_getElem? e1
      simp only [List.mem_cons, List.not_mem_nil, or_false] at m
      rcases m with rfl | rfl
      · exact .sc (.inr (.inr (.inr ⟨_, rfl⟩)))
      · exact flatd_eqd (fl rfl)
    | word z =>
      have e1 : v = .str z := an
      have e2 : u = .str z := du
      subst e1 e2
      refine ⟨_, rfl, false, isi_ty (.base (.str _)) (by decide), _, rfl, iteF ?_⟩
      exact ⟨_, rfl, _, rfl, _, _, rfl, .sc (.inr (.inr (.inr ⟨_, rfl⟩))), q⟩
end
end Wd

set_option Elab.async false
set_option linter.all false
set_option maxRecDepth 100000
set_option maxHeartbeats 4000000
/-! other ways -/
namespace Wd
open PySem PySem.Spec PyProof.Rows L2
theorem shift_app (es fs : List Ev) (d : Int) : shift (es ++ fs) d = shift es d ++ shift fs d := by simp [shift]
theorem shift_shift (es : List Ev) (d e : Int) : shift (shift es d) e = shift es (d + e) := by
  unfold shift
  rw [List.map_map]
  refine List.map_congr_left fun x _ => ?_
  show ({ x with t := x.t + d + e } : Ev) = { x with t := x.t + (d + e) }
  rw [Int.add_assoc]
theorem shift_zero (es : List Ev) : shift es 0 = es := by
  unfold shift
  conv => rhs; rw [← List.map_id es]
  refine List.map_congr_left fun x _ => ?_
  show ({ x with t := x.t + 0 } : Ev) = x
  rw [Int.add_zero]
theorem cut_all {es : List Ev} {k : Int} (g : Good es k) : cutAt es k = es := by
  unfold cutAt
  rw [List.filter_eq_self]
  intro e he
  have := last_max g.row.2 e he
  have := g.lo
  exact decide_eq_true (by omega)
theorem swap_nil (es : List Ev) : swap [] es = es := by
  unfold swap
  conv => rhs; rw [← List.map_id es]
  refine List.map_congr_left fun x _ => rfl
theorem swap_back (low : Int) (es : List Ev) : swap [(.inl low, .int (low + 1)), (.inl (low + 1), .int low)] (swap [(.inl low, .int (low + 1)), (.inl (low + 1), .int low)] es) = es := by
  unfold swap
  rw [List.map_map]
  conv => rhs; rw [← List.map_id es]
  refine List.map_congr_left fun x _ => ?_
  have get : ∀ v : Int, valV [((.inl low : Key), V.int (low + 1)), (.inl (low + 1), .int low)] (.inl v) = if low = v then some (.int (low + 1)) else if low + 1 = v then some (.int low) else none := by
    intro v
    by_cases h1 : low = v
    · rw [if_pos h1, h1]
      exact valV_pos rfl
    · rw [if_neg h1]
      have n1 : ¬ (Sum.inl low : Key) = .inl v := fun h => h1 (by cases h; rfl)
      rw [valV_neg n1]
      by_cases h2 : low + 1 = v
      · rw [if_pos h2, h2]
        exact valV_pos rfl
      · rw [if_neg h2]
        have n2 : ¬ (Sum.inl (low + 1) : Key) = .inl v := fun h => h2 (by cases h; rfl)
        rw [valV_neg n2]
        rfl
  show Ev.sub _ (Ev.sub _ x) = x
  obtain ⟨t, s, l, v⟩ := x
  have one : ∀ v : Int, Ev.sub [(.inl low, .int (low + 1)), (.inl (low + 1), .int low)] ⟨t, s, l, v⟩ = ⟨t, s, l, if low = v then low + 1 else if low + 1 = v then low else v⟩ := by
    intro v
    unfold Ev.sub
    simp only [get]
    by_cases h1 : low = v
    · simp [h1]
    · by_cases h2 : low + 1 = v
      · simp [h1, h2]
      · simp [h1, h2]
  rw [one, one]
  have : (if low = (if low = v then low + 1 else if low + 1 = v then low else v) then low + 1 else if low + 1 = (if low = v then low + 1 else if low + 1 = v then low else v) then low else (if low = v then low + 1 else if low + 1 = v then low else v)) = v := by
    by_cases h1 : low = v
    · rw [if_pos h1, if_neg (by omega), if_pos rfl]
      exact h1
    · rw [if_neg h1]
      by_cases h2 : low + 1 = v
      · rw [if_pos h2, if_pos rfl]
        exact h2
      · rw [if_neg h2, if_neg h1, if_neg h2]
  rw [this]
def spWays (K : PySem.W.Frag) (C : Addr) : Sp := fun vs H Q _ => ∃ (B p a q r : Addr) (es fs gs : List Ev) (k j l : Int), vs = [.ref B, .ref p, .ref a, .ref q, .ref r] ∧ BagAt H B ∧ PlainAt K H p es k ∧ TapeAt K C H a es k ∧ Good es k ∧ PlainAt K H q fs j ∧ Good fs j ∧ PlainAt K H r gs l ∧ Good gs l ∧
  es.length + fs.length + gs.length ≤ 300 ∧ ∀ H', SB B H H' → BagAt H' B → Q (.bl true) H'
section
variable {P : Program} {w : World} {K : PySem.W.Frag} {mg : Str → Option Value} {base : Heap} {C CIN CIO CIT f1 f2 t0 fT fP fI fL fV : Addr}
abbrev nWays : List Str := ["bag", "plain", "tape", "other", "third", "one", "two", "by", "answers", "low", "back", "answer"]
theorem scWays : FnScope nWays ["bag", "plain", "tape", "other", "third"] (defScope sWays) := ⟨rfl, rfl, rfl, by decide +kernel, rfl, by decide +kernel, by decide +kernel⟩
theorem ok_ways {f : Addr} {fd fdT fdN fdV : FuncData} (F : Fun K "_law_ways" "_law_ways" sWays f fd) (X : WTxt mg fI fL) (T : GTxt mg fT fP) (FT : Fun K "_law_throw" "_law_throw" sThrow fT fdT) (bT : Binds K fdT ["bag", "total"] [])
    (mV : mg "_law_value" = some (.ref fV)) (FV : Fun K "_law_value" "_law_value" sValue fV fdV) (bV : Binds K fdV ["bag"] [])
    (M : TM1 P w K mg base C CIN CIO CIT) (M2 : TM2 P w K mg base C f1 f2) (N : TNew P w K mg base C CIT f1 f2 t0 fdN) :
    FnOk P w K mg base CX0 9 f fd ["bag", "plain", "tape", "other", "third"] (spWays K C) := by
  have GT : FnOk P w K mg base CX0 1 fT fdT ["bag", "total"] spThrow := ok_throw FT T.toTxtA
  have GV : FnOk P w K mg base CX0 2 fV fdV ["bag"] spValue := ok_value FV T.toTxtA FT bT
  obtain ⟨g2, kb2⟩ := N.k2
  obtain ⟨g1, kb1⟩ := N.k1
  obtain ⟨ds0, v0, b0⟩ := N.b0
  obtain ⟨fu, fdu, du, Fu0, bu⟩ := M.upto
  obtain ⟨fc, fdc, dc, Fc0, bc⟩ := M.chg
  have Fu := ok_uptoOk Fu0
  have Fc := ok_chgOk Fc0
  refine F.ok scWays (fun vs H Q E h => ?_) (fun cdv A outer s H vs Q E hr h => ?_)
  · obtain ⟨B, p, a, q, r, es, fs, gs, k, j, l, rfl, _⟩ := h
    rfl
  · obtain ⟨B, p, a, q, r, es, fs, gs, k, j, l, rfl, hB, pa, ta, g, qa, gf, ra, gg, few, fin⟩ := h
    have hr1 : Room 1 _ := hr.mono (by decide)
    have hr2 : Room 2 _ := hr.mono (by decide)
    have hr6 : Room 6 _ := hr.mono (by decide)
    have hr7 : Room 7 _ := hr.mono (by decide)
    have oA := op_addT (X := (cxOf CX0 P w K mg base nWays "_law_ways" (defScope sWays) f cdv A outer s H E).nox) M rfl rfl rfl rfl rfl hr
    have oS := op_shrT (X := (cxOf CX0 P w K mg base nWays "_law_ways" (defScope sWays) f cdv A outer s H E).nox) M rfl rfl rfl rfl rfl hr7
    have oE := op_eqT (X := (cxOf CX0 P w K mg base nWays "_law_ways" (defScope sWays) f cdv A outer s H E).nox) M2 rfl rfl rfl rfl rfl hr1
    have mkP : ∀ {e1 e2 : Expr} {t1 t2 : TE} {p1 p2 p3 : Pos}, True := trivial
    refine ⟨_, pss_cons (ps_par (i := 5) (j := 6) (by rfl) scWays.nd rfl rfl (by decide) rfl rfl (pa_cons (pe_makeN (n := 1) N.y.mak N.g hr6 rfl N.y.mgC kb2 pass9 (pa_cons (pe_ix (r := rIxT K) ix_tup (pv 3) pe_int (fun _ _ => rfl)) pa_nil) (pk_cons (pe_ix (r := rIxT K) ix_tup (pv 3) pe_int (fun _ _ => rfl)) pk_nil))
          (pa_cons (pe_makeN (n := 1) N.y.mak N.g hr6 rfl N.y.mgC kb2 pass9 (pa_cons (pe_ix (r := rIxT K) ix_tup (pv 4) pe_int (fun _ _ => rfl)) pa_nil) (pk_cons (pe_ix (r := rIxT K) ix_tup (pv 4) pe_int (fun _ _ => rfl)) pk_nil)) pa_nil)) (by rfl))
      (pss_cons (ps_set (i := 7) scWays.nd rfl (Or.inl rfl) (pe_call GT hr1 rfl T.thr FT.kp bT .nil pass0 (pa_cons (pv 0) (pa_cons (pe_op op_pow pe_int pe_int) pa_nil))))
      (pss_cons (ps_if (pt_cmpR op_ge (pe_op op_add (pe_op op_add (pe_op op_add (pe_ix (r := rIxT K) ix_tup (pv 1) pe_int (fun _ _ => rfl)) (pe_ix (r := rIxT K) ix_tup (pv 3) pe_int (fun _ _ => rfl))) (pe_ix (r := rIxT K) ix_tup (pv 4) pe_int (fun _ _ => rfl))) (pv 7)) (pe_op op_pow pe_int pe_int) (nomark _)) (pss_one (ps_ret pe_bl)) pss_nil)
      (pss_cons (ps_set (i := 8) scWays.nd rfl (Or.inl rfl) (pe_lst (pa_cons (pe_cmpR oE (pe_op oA (pe_op oA (pv 2) (pv 5)) (pv 6)) (pe_op oA (pv 2) (pe_op oA (pv 5) (pv 6))) (nomark _))
          (pa_cons (pe_cmpR oE (pe_op oA (pe_op oS (pv 2) (pv 7)) (pv 5)) (pe_op oS (pe_op oA (pv 2) (pv 5)) (pv 7)) (nomark _)) pa_nil))))
      (pss_cons (ps_set (i := 8) scWays.nd rfl (Or.inl rfl) (pe_op op_cat (pv 8) (pe_lst (pa_cons (pe_cmpR oE (pe_op oA (pe_makeK0 N.y.mak N.g hr6 rfl N.y.mgC kb1 pass9 (pk_cons (pv 7) pk_nil)) (pv 2)) (pe_op oS (pv 2) (pv 7)) (nomark _))
          (pa_cons (pe_cmpR oE (pe_op oA (pv 2) (pe_make0 N.y.mak N.g hr6 rfl N.y.mgC b0 v0 pass9)) (pv 2) (nomark _)) (pa_cons (pe_cmpR oE (pe_op oA (pe_make0 N.y.mak N.g hr6 rfl N.y.mgC b0 v0 pass9) (pv 2)) (pv 2) (nomark _)) pa_nil))))))
      (pss_cons (ps_set (i := 8) scWays.nd rfl (Or.inl rfl) (pe_op op_cat (pv 8) (pe_lst (pa_cons (pe_cmpR oE (pe_op oA (pv 2) (pe_makeK0 N.y.mak N.g hr6 rfl N.y.mgC kb1 pass9 (pk_cons (pv 7) pk_nil)))
              (pe_makeN (n := 1) N.y.mak N.g hr6 rfl N.y.mgC kb2 pass9 (pa_cons (pe_ix (r := rIxT K) ix_tup (pv 1) pe_int (fun _ _ => rfl)) pa_nil) (pk_cons (pe_op op_add (pe_ix (r := rIxT K) ix_tup (pv 1) pe_int (fun _ _ => rfl)) (pv 7)) pk_nil)) (nomark _))
          (pa_cons (pe_cmpR oE (pe_meth (pv 2) M.cl du Fu hr7 bu .nil pass9 (pa_cons (pe_ix (r := rIxT K) ix_tup (pv 1) pe_int (fun _ _ => rfl)) pa_nil)) (pv 2) (nomark _)) pa_nil)))))
      (pss_cons (ps_set (i := 9) scWays.nd rfl (Or.inl rfl) (pe_op op_mod (pe_callTy call_int1 (by rfl) T.int (by decide +kernel) (pa_cons (pe_call GV hr2 rfl mV FV.kp bV .nil pass0 (pa_cons (pv 0) pa_nil)) pa_nil)) (pe_op op_pow pe_int pe_int)))
      (pss_cons (ps_set (i := 10) scWays.nd rfl (Or.inl rfl) (pe_disp (pps_cons (pv 9) (pe_op op_add (pv 9) pe_int) (pps_cons (pe_op op_add (pv 9) pe_int) (pv 9) pps_nil)) (by rfl) (by rfl) (fun z => by cases z) (by decide)))
      (pss_cons (ps_set (i := 8) scWays.nd rfl (Or.inl rfl) (pe_op op_cat (pv 8) (pe_lst (pa_cons (pe_cmpR oE (pe_meth (pe_meth (pv 2) M.cl dc Fc hr7 bc .nil pass9 (pa_cons (pv 10) pa_nil)) M.cl dc Fc hr7 bc .nil pass9 (pa_cons (pv 10) pa_nil)) (pv 2) (nomark _))
          (pa_cons (pe_cmpR oE (pe_meth (pv 2) M.cl dc Fc hr7 bc .nil pass9 (pa_cons pe_dnewK pa_nil)) (pv 2) (nomark _)) pa_nil)))))
      (pss_one (ps_ret (pe_callB (cr_all rfl) (by rfl) X.all (by decide +kernel) (pa_cons (pe_lc (own := [("answer", 11)]) (g := gName 11) (tt := tYes) rfl scWays.nd (pi_list (pv 8))
          (blkOk_by (N := nWays) (sc := defScope sWays) (by decide +kernel)) (fun _ _ _ _ _ => pg_name (i := 11) scWays.nd rfl (Or.inl rfl)) (fun _ _ _ _ _ => pts_nil)
          (fun _ _ _ _ _ => pe_and (show PE _ _ (tIsi K "bool" _) from pe_isi (N := "bool") (pv 11) X.isin X.bool) (pe_one (pv 11)))) pa_nil)))))))))))), ?_⟩
    have t58 : (10 : Int) ^ (58 : Int).toNat = 10 ^ 58 := rfl
    have t60' : (10 : Int) ^ (60 : Int).toNat = ten60 := rfl
    have k0 := g.lastN
    have j0 := gf.lastN
    have l0 := gg.lastN
    obtain ⟨tq, hq, evq⟩ := id qa
    obtain ⟨tr, hr', evr⟩ := id ra
    obtain ⟨tp, hp, evp⟩ := id pa
    refine ⟨_, rfl, q, _, _, _, rfl, rfl, SqT.of hq, atI_nat (j := 0) rfl, _, rfl, q, _, _, _, rfl, rfl, SqT.of hq, atI_nat (j := 1) rfl, rfl, rfl, fun x1 d1 hx1 hd1 ne1 => ?_⟩
    refine new_goodX hx1 hd1 ne1 evq gf fun H1 s1 t1 => ⟨rfl, ?_⟩
    generalize hn_one : x1 = one at t1 ⊢
    refine ⟨_, rfl, r, _, _, _, rfl, rfl, SqT.of (s1 _ _ hr'), atI_nat (j := 0) rfl, _, rfl, r, _, _, _, rfl, rfl, SqT.of (s1 _ _ hr'), atI_nat (j := 1) rfl, rfl, rfl, fun x2 d2 hx2 hd2 ne2 => ?_⟩
    refine new_goodX hx2 hd2 ne2 (evr.mono (Kp.of s1)) gg fun H2 s2 t2 => ⟨rfl, ?_⟩
    generalize hn_two : x2 = two at t2 ⊢
    have s12 := s1.trans s2
    have bag2 : BagAt H2 B := by
      obtain ⟨y1, y2, y3, e⟩ := hB
      exact ⟨y1, y2, y3, s12 _ _ e⟩
    refine ⟨_, _, rfl, _, rfl, _, _, rfl, rfl, ⟨by decide, by decide, by decide⟩, B, _, rfl, bag2, by decide +kernel, by decide +kernel, fun b H3 b0 b1 s3 bag3 => ?_⟩
    have kp3 : Kp H H3 := (Kp.of s12).trans (Kp.sb bag2 s3)
    have sb3 : SB B H H3 := (SB.of s12).trans s3
    have b58 : b < 10 ^ 58 := b1
    have ta := ta.mono kp3
    have t1 := (t1.mono (Kp.of s2)).mono (Kp.sb bag2 s3)
    have t2 := t2.mono (Kp.sb bag2 s3)
    have hp3 := kp3.1 _ _ hp
    have hq3 := kp3.1 _ _ hq
    have hr3 := kp3.1 _ _ hr'
    have evp := evp.mono kp3
    refine ⟨_, rfl, p, _, _, _, rfl, rfl, SqT.of hp3, atI_nat (j := 1) rfl, _, rfl, q, _, _, _, rfl, rfl, SqT.of hq3, atI_nat (j := 1) rfl, _, _, rfl, rfl, _, rfl, r, _, _, _, rfl, rfl, SqT.of hr3, atI_nat (j := 1) rfl, _, _, rfl, rfl, _, rfl, _, _, rfl, rfl,
      _, _, rfl, rfl, ⟨by decide, by decide, by decide⟩, _, _, rfl, rfl, _, rfl, ?_⟩
    refine ite2 (fun _ => fin H3 sb3 bag3) (fun c => ?_)
    have c' : ¬ k + j + l + b ≥ ten60 := fun h => c (decide_eq_true h)
    have lsh : ∀ (es : List Ev) (d : Int), (shift es d).length = es.length := fun es d => by unfold shift; rw [List.length_map]
    have few1 : es.length + fs.length ≤ 300 := by omega
    have fewA : (es ++ shift fs k).length + gs.length ≤ 300 := by rw [List.length_append, lsh]; omega
    have fewB : fs.length + gs.length ≤ 300 := by omega
    have fewC : es.length + (fs ++ shift gs j).length ≤ 300 := by rw [List.length_append, lsh]; omega
    have fewD : (shift es b).length + fs.length ≤ 300 := by rw [lsh]; omega
    have fewE : ([] : List Ev).length + es.length ≤ 300 := by show 0 + _ ≤ _; omega
    have fewF : es.length + ([] : List Ev).length ≤ 300 := by show _ + 0 ≤ _; omega
    -- the first
    refine ⟨_, rfl, _, rfl, a, one, es, fs, k, j, rfl, rfl, ta, g, t1, gf, few1, by omega, fun c1 K1 u1 tc1 gc1 => ?_⟩
    refine ⟨_, rfl, c1, two, _, gs, _, l, rfl, rfl, tc1, gc1, t2.mono (Kp.of u1), gg, fewA, by omega, fun c2 K2 u2 tc2 gc2 => ?_⟩
    have u12 := u1.trans u2
    refine ⟨_, rfl, _, rfl, _, rfl, one, two, fs, gs, j, l, rfl, rfl, t1.mono (Kp.of u12), gf, t2.mono (Kp.of u12), gg, fewB, by omega, fun c3 K3 u3 tc3 gc3 => ?_⟩
    have u13 := u12.trans u3
    refine ⟨a, c3, es, _, k, _, rfl, rfl, ta.mono (Kp.of u13), g, tc3, gc3, fewC, by omega, fun c4 K4 u4 tc4 gc4 => ?_⟩
    have u14 := u13.trans u4
    refine ⟨c2, c4, _, _, _, _, rfl, rfl, tc2.mono (Kp.of (u3.trans u4)), gc2, tc4, gc4, fun r1 hr1 => ?_⟩
    obtain rfl : r1 = true := hr1.mpr ⟨by rw [shift_app, shift_shift, List.append_assoc, Int.add_comm j k], by omega⟩
    -- the second
    refine ⟨_, rfl, _, rfl, a, es, k, b, rfl, rfl, ta.mono (Kp.of u14), g, b0, by omega, fun c5 K5 u5 tc5 gc5 => ?_⟩
    have u15 := u14.trans u5
    refine ⟨_, rfl, c5, one, _, fs, _, j, rfl, rfl, tc5, gc5, t1.mono (Kp.of u15), gf, fewD, by omega, fun c6 K6 u6 tc6 gc6 => ?_⟩
    have u16 := u15.trans u6
    refine ⟨_, rfl, _, rfl, a, one, es, fs, k, j, rfl, rfl, ta.mono (Kp.of u16), g, t1.mono (Kp.of u16), gf, few1, by omega, fun c7 K7 u7 tc7 gc7 => ?_⟩
    have u17 := u16.trans u7
    refine ⟨_, rfl, c7, _, _, b, rfl, rfl, tc7, gc7, b0, by omega, fun c8 K8 u8 tc8 gc8 => ?_⟩
    have u18 := u17.trans u8
    refine ⟨c6, c8, _, _, _, _, rfl, rfl, tc6.mono (Kp.of (u7.trans u8)), gc6, tc8, gc8, fun r2 hr2 => ?_⟩
    obtain rfl : r2 = true := hr2.mpr ⟨by rw [shift_app, shift_shift], by omega⟩
    refine ⟨(by show 2 ≤ sizeLine; decide), fun L1 hL1 => ?_⟩
    have v1 : Same H3 (upd K8 L1 (.lst [.bl true, .bl true])) := u18.trans (fresh hL1)
    have e1 : (upd K8 L1 (.lst [.bl true, .bl true])) L1 = some (.lst [.bl true, .bl true]) := upd_same
    generalize upd K8 L1 (.lst [.bl true, .bl true]) = M1 at v1 e1
    -- the third list
    have fewG : (es ++ shift fs k).length ≤ 300 := by rw [List.length_append, lsh]; omega
    have ev0 : ∀ H', Evs K H' t0 [] := fun H' => ⟨[], .inr ⟨rfl, N.z⟩, .nil⟩
    have g0 : Good [] 0 := good_nil (Int.le_refl _) (by omega)
    have gb : Good [] b := good_nil b0 (by omega)
    refine ⟨_, rfl, _, rfl, rfl, rfl, fun x3 d3 hx3 hd3 ne3 => ?_⟩
    refine new_goodX hx3 hd3 ne3 (ev0 _) gb fun A1 w1 tn1 => ⟨rfl, ?_⟩
    generalize hn_n1 : x3 = n1 at tn1 ⊢
    have z1 := v1.trans w1
    refine ⟨_, rfl, n1, a, [], es, b, k, rfl, rfl, tn1, gb, ta.mono (Kp.of z1), g, fewE, by omega, fun c1 A2 w2 td1 gd1 => ?_⟩
    have z2 := z1.trans w2
    refine ⟨_, rfl, _, rfl, a, es, k, b, rfl, rfl, ta.mono (Kp.of z2), g, b0, by omega, fun c2 A3 w3 td2 gd2 => ?_⟩
    have z3 := z2.trans w3
    refine ⟨c1, c2, _, _, _, _, rfl, rfl, td1.mono (Kp.of w3), gd1, td2, gd2, fun r3 hr3 => ?_⟩
    obtain rfl : r3 = true := hr3.mpr ⟨rfl, by omega⟩
    refine ⟨_, rfl, fun x4 d4 hx4 hd4 ne4 => ?_⟩
    refine new_zeroX hx4 hd4 ne4 (ev0 _) fun A4 w4 tn2 => ⟨rfl, ?_⟩
    generalize hn_n2 : x4 = n2 at tn2 ⊢
    have z4 := z3.trans w4
    refine ⟨a, n2, es, [], k, 0, rfl, rfl, ta.mono (Kp.of z4), g, tn2, g0, fewF, by omega, fun c3 A5 w5 td3 gd3 => ?_⟩
    have z5 := z4.trans w5
    refine ⟨_, rfl, c3, a, _, es, _, k, rfl, rfl, td3, gd3, ta.mono (Kp.of z5), g, fun r4 hr4 => ?_⟩
    obtain rfl : r4 = true := hr4.mpr ⟨List.append_nil _, by omega⟩
    refine fun x5 d5 hx5 hd5 ne5 => ?_
    refine new_zeroX hx5 hd5 ne5 (ev0 _) fun A6 w6 tn3 => ⟨rfl, ?_⟩
    generalize hn_n3 : x5 = n3 at tn3 ⊢
    have z6 := z5.trans w6
    refine ⟨_, rfl, n3, a, [], es, 0, k, rfl, rfl, tn3, g0, ta.mono (Kp.of z6), g, fewE, by omega, fun c4 A7 w7 td4 gd4 => ?_⟩
    have z7 := z6.trans w7
    refine ⟨_, rfl, c4, a, _, es, _, k, rfl, rfl, td4, gd4, ta.mono (Kp.of z7), g, fun r5 hr5 => ?_⟩
    obtain rfl : r5 = true := hr5.mpr ⟨shift_zero es, by omega⟩
    refine ⟨(by show 3 ≤ sizeLine; decide), fun L2 hL2 => ?_⟩
    have y7 : Same M1 A7 := (((((w1.trans w2).trans w3).trans w4).trans w5).trans w6).trans w7
    have z8 : Same H3 (upd A7 L2 (.lst [.bl true, .bl true, .bl true])) := z7.trans (fresh hL2)
    have f1 : (upd A7 L2 (.lst [.bl true, .bl true, .bl true])) L1 = some (.lst [.bl true, .bl true]) := (fresh hL2) _ _ (y7 _ _ e1)
    have f2 : (upd A7 L2 (.lst [.bl true, .bl true, .bl true])) L2 = some (.lst [.bl true, .bl true, .bl true]) := upd_same
    generalize upd A7 L2 (.lst [.bl true, .bl true, .bl true]) = A8 at z8 f1 f2
    refine ⟨L1, L2, _, _, rfl, rfl, f1, f2, (by show 5 ≤ sizeLine; decide), fun L3 hL3 => ?_⟩
    have z9 := z8.trans (fresh (o := .lst [.bl true, .bl true, .bl true, .bl true, .bl true]) hL3)
    have e3 : (upd A8 L3 (.lst [.bl true, .bl true, .bl true, .bl true, .bl true])) L3 = some (.lst [.bl true, .bl true, .bl true, .bl true, .bl true]) := upd_same
    show tSeq _ _ _ _ (upd A8 L3 (.lst [.bl true, .bl true, .bl true, .bl true, .bl true]))
    generalize upd A8 L3 (.lst [.bl true, .bl true, .bl true, .bl true, .bl true]) = M2 at z9 e3 ⊢
    -- with the tape made of the plain one
    refine ⟨_, rfl, _, rfl, _, rfl, rfl, rfl, fun x6 d6 hx6 hd6 ne6 => ?_⟩
    refine new_goodX hx6 hd6 ne6 (ev0 _) gb fun B1 o1 tn4 => ⟨rfl, ?_⟩
    generalize hn_n4 : x6 = n4 at tn4 ⊢
    have p1 := z9.trans o1
    refine ⟨a, n4, es, [], k, b, rfl, rfl, ta.mono (Kp.of p1), g, tn4, gb, fewF, by omega, fun c5 B2 o2 td5 gd5 => ?_⟩
    have p2 := p1.trans o2
    have gkb : Good es (k + b) := ⟨g.near, g.row, by have := g.lo; omega, by omega, g.few⟩
    refine ⟨_, rfl, p, _, _, _, rfl, rfl, SqT.of (p2 _ _ hp3), atI_nat (j := 0) rfl, _, rfl, p, _, _, _, rfl, rfl, SqT.of (p2 _ _ hp3), atI_nat (j := 1) rfl, _, rfl, _, _, rfl, rfl, rfl, rfl, fun x7 d7 hx7 hd7 ne7 => ?_⟩
    refine new_goodX hx7 hd7 ne7 (evp.mono (Kp.of p2)) gkb fun B3 o3 tn5 => ⟨rfl, ?_⟩
    generalize hn_n5 : x7 = n5 at tn5 ⊢
    have p3 := p2.trans o3
    refine ⟨c5, n5, _, es, _, _, rfl, rfl, td5.mono (Kp.of o3), gd5, tn5, gkb, fun r6 hr6 => ?_⟩
    obtain rfl : r6 = true := hr6.mpr ⟨List.append_nil _, by omega⟩
    obtain ⟨dxa, tta, hta, _⟩ := id ta
    refine ⟨_, rfl, a, dxa, _, rfl, p3 _ _ hta, rfl, _, rfl, p, _, _, _, rfl, rfl, SqT.of (p3 _ _ hp3), atI_nat (j := 1) rfl, a, es, k, k, rfl, ta.mono (Kp.of p3), g, k0, Int.le_refl _, fun c6 B4 o4 td6 gd6 => ?_⟩
    have p4 := p3.trans o4
    refine ⟨_, rfl, c6, a, _, es, _, k, rfl, rfl, td6, gd6, ta.mono (Kp.of p4), g, fun r7 hr7 => ?_⟩
    obtain rfl : r7 = true := hr7.mpr ⟨cut_all g, rfl⟩
    refine ⟨(by show 2 ≤ sizeLine; decide), fun L4 hL4 => ?_⟩
    have p5 : Same H3 (upd B4 L4 (.lst [.bl true, .bl true])) := p4.trans (fresh hL4)
    have f3 : (upd B4 L4 (.lst [.bl true, .bl true])) L3 = some (.lst [.bl true, .bl true, .bl true, .bl true, .bl true]) := (fresh hL4) _ _ ((((o1.trans o2).trans o3).trans o4) _ _ e3)
    have f4 : (upd B4 L4 (.lst [.bl true, .bl true])) L4 = some (.lst [.bl true, .bl true]) := upd_same
    generalize upd B4 L4 (.lst [.bl true, .bl true]) = B5 at p5 f3 f4
    refine ⟨L3, L4, _, _, rfl, rfl, f3, f4, (by show 7 ≤ sizeLine; decide), fun L5 hL5 => ?_⟩
    have p6 := p5.trans (fresh (o := .lst [.bl true, .bl true, .bl true, .bl true, .bl true, .bl true, .bl true]) hL5)
    have e5 : (upd B5 L5 (.lst [.bl true, .bl true, .bl true, .bl true, .bl true, .bl true, .bl true])) L5 = some (.lst [.bl true, .bl true, .bl true, .bl true, .bl true, .bl true, .bl true]) := upd_same
    show tSeq _ _ _ _ (upd B5 L5 (.lst [.bl true, .bl true, .bl true, .bl true, .bl true, .bl true, .bl true]))
    generalize upd B5 L5 (.lst [.bl true, .bl true, .bl true, .bl true, .bl true, .bl true, .bl true]) = M3 at p6 e5 ⊢
    -- low
    have bag4 : BagAt M3 B := by
      obtain ⟨y1, y2, y3, e⟩ := bag3
      exact ⟨y1, y2, y3, p6 _ _ e⟩
    refine ⟨_, rfl, B, rfl, bag4, fun v M4 v0' v1' s4 bag5 => .inl ⟨v, rfl, _, _, rfl, rfl, ⟨by decide, by decide, by decide⟩, _, _, rfl, rfl, (by show (0 : Int) < _; decide +kernel), ?_⟩⟩
    have t59 : (10 : Int) ^ (59 : Int).toNat = 10 ^ 59 := rfl
    obtain ⟨low, hlow, low0, low1⟩ : ∃ low : Int, v % 10 ^ 59 = low ∧ 0 ≤ low ∧ low < 10 ^ 59 := ⟨_, rfl, Int.emod_nonneg _ (by decide +kernel), Int.emod_lt_of_pos _ (by decide +kernel)⟩
    have t5960 : (10 : Int) ^ 59 + 1 < ten60 := by decide +kernel
    rw [t59]
    generalize hz : (fun i j : Int => V.int (i % j)) v (10 ^ 59) = lowV
    obtain rfl : lowV = V.int low := hz.symm.trans (congrArg V.int hlow)
    have n5B : L5 ≠ B := fun q => by
      obtain ⟨y1, y2, y3, e⟩ := bag4
      rw [q, e] at e5
      cases e5
    have e6 := s4 _ _ n5B e5
    have sb4 : SB B H M4 := (sb3.trans (SB.of p6)).trans s4
    have ta := (ta.mono (Kp.of p6)).mono (Kp.sb bag4 s4)
    have kv : mergeK [] [((.inl low : Key), V.int (low + 1)), (.inl (low + 1), .int low)] = [((.inl low : Key), V.int (low + 1)), (.inl (low + 1), .int low)] := by
      have n1 : ¬ low = low + 1 := by omega
      simp [mergeK, putK, n1]
    refine fun D hD => ⟨_, rfl, _, rfl, _, _, rfl, rfl, _, rfl, _, _, rfl, rfl, _, rfl, upd_same, [(.inl low, .int (low + 1)), (.inl (low + 1), .int low)], rfl, (by show 2 ≤ 15; decide), ?_⟩
    rw [kv]
    have sD : SB B M4 (upd (upd M4 D (.dK [])) D (.dK [((.inl low : Key), V.int (low + 1)), (.inl (low + 1), .int low)])) := ((SB.refl B M4).new hD).own hD
    have bag6 := (bag5.new (o := .dK []) hD).other (p := D) (o := .dK [((.inl low : Key), V.int (low + 1)), (.inl (low + 1), .int low)]) (Ne.symm (bag5.ne hD))
    have eD : (upd (upd M4 D (.dK [])) D (.dK [((.inl low : Key), V.int (low + 1)), (.inl (low + 1), .int low)])) D = some (.dK [((.inl low : Key), V.int (low + 1)), (.inl (low + 1), .int low)]) := upd_same
    generalize upd (upd M4 D (.dK [])) D (.dK [((.inl low : Key), V.int (low + 1)), (.inl (low + 1), .int low)]) = M5 at sD bag6 eD ⊢
    have e7 := sD _ _ n5B e6
    have sb5 := sb4.trans sD
    have ta := ta.mono (Kp.sb bag5 sD)
    obtain ⟨dxb, ttb, htb, _⟩ := id ta
    have ndk : ([((.inl low : Key), V.int (low + 1)), (.inl (low + 1), .int low)].map (·.1)).Nodup := by
      have n1 : ¬ low = low + 1 := by omega
      simp [n1]
    have ikv : ∀ p ∈ [((.inl low : Key), V.int (low + 1)), (.inl (low + 1), .int low)], IntKV p := fun p hp => by
      simp only [List.mem_cons, List.not_mem_nil, or_false] at hp
      rcases hp with rfl | rfl
      · exact ⟨⟨low, rfl, by omega, by omega⟩, ⟨low + 1, rfl, by omega, by omega⟩⟩
      · exact ⟨⟨low + 1, rfl, by omega, by omega⟩, ⟨low, rfl, by omega, by omega⟩⟩
    refine ⟨_, rfl, _, rfl, a, dxb, _, rfl, htb, rfl, _, rfl, a, es, k, D, _, rfl, ta, g, eD, (by show 2 ≤ 100; decide), ndk, ikv, fun c7 G1 h1 tc7 gc7 => ?_⟩
    obtain ⟨dxc, ttc, htc, _⟩ := id tc7
    refine ⟨c7, dxc, _, rfl, htc, rfl, _, rfl, c7, _, k, D, _, rfl, tc7, gc7, h1 _ _ eD, (by show 2 ≤ 100; decide), ndk, ikv, fun c8 G2 h2 tc8 gc8 => ?_⟩
    have h12 := h1.trans h2
    refine ⟨_, rfl, c8, a, _, es, _, k, rfl, rfl, tc8, gc8, ta.mono (Kp.of h12), g, fun r8 hr8 => ?_⟩
    obtain rfl : r8 = true := hr8.mpr ⟨swap_back low es, rfl⟩
    refine ⟨_, rfl, a, dxb, _, rfl, h12 _ _ htb, rfl, fun D2 hD2 => ?_⟩
    have h3 : Same G2 (upd G2 D2 (.dK [])) := fresh hD2
    have h13 := h12.trans h3
    refine ⟨a, es, k, D2, [], rfl, ta.mono (Kp.of h13), g, upd_same, (by decide), List.nodup_nil, (fun p hp => nomatch hp), fun c9 G3 h4 tc9 gc9 => ?_⟩
    have h14 := h13.trans h4
    refine ⟨_, rfl, c9, a, _, es, _, k, rfl, rfl, tc9, gc9, ta.mono (Kp.of h14), g, fun r9 hr9 => ?_⟩
    obtain rfl : r9 = true := hr9.mpr ⟨swap_nil es, rfl⟩
    refine ⟨(by show 2 ≤ sizeLine; decide), fun L6 hL6 => ?_⟩
    have h5 : Same M5 (upd G3 L6 (.lst [.bl true, .bl true])) := h14.trans (fresh hL6)
    have f6 : (upd G3 L6 (.lst [.bl true, .bl true])) L6 = some (.lst [.bl true, .bl true]) := upd_same
    generalize upd G3 L6 (.lst [.bl true, .bl true]) = G4 at h5 f6
    refine ⟨L5, L6, _, _, rfl, rfl, h5 _ _ e7, f6, (by show 9 ≤ sizeLine; decide), fun L7 hL7 => ?_⟩
    have e9 : (upd G4 L7 (.lst ([.bl true, .bl true, .bl true, .bl true, .bl true, .bl true, .bl true] ++ [.bl true, .bl true]))) L7 = some (.lst ((List.replicate 9 true).map V.bl)) := upd_same
    have h6 : Same M5 (upd G4 L7 (.lst ([.bl true, .bl true, .bl true, .bl true, .bl true, .bl true, .bl true] ++ [.bl true, .bl true]))) := h5.trans (fresh hL7)
    generalize upd G4 L7 (.lst ([.bl true, .bl true, .bl true, .bl true, .bl true, .bl true, .bl true] ++ [.bl true, .bl true])) = G5 at e9 h6 ⊢
    refine ⟨_, rfl, L7, rfl, ⟨_, SqL.of e9⟩, fun D3 hD3 => ?_⟩
    refine lc_bools (walk_list (K := K) (xs := (List.replicate 9 true).map V.bl) (a := L7)) (fun _ => True) hD3 (by show 9 ≤ 1000; decide) (fun H s => SqL.of (s _ _ e9)) ?_ ?_
    · rintro i x K1' K2' kk hi s1 ⟨rfl, hx⟩ h
      have hx' : x = .bl true := by
        have := List.mem_of_getElem? hx
        obtain ⟨b', hb', rfl⟩ := List.mem_map.mp this
        rw [List.eq_of_mem_replicate hb']
      subst hx'
      exact ⟨rfl, _, rfl, true, isi_ty (.base (.bl true)) (by decide), true, rfl, iteT ⟨_, rfl, h true _ (Same.refl _) (yea trivial)⟩⟩
    · intro G6 bs s1 hD4 hb
      have hb' : bs.all id = true := hb.mpr fun _ _ => trivial
      refine ⟨D3, bs, rfl, SqL.of hD4, ?_⟩
      rw [hb']
      have same : Same M5 G6 := h6.trans s1
      refine fin G6 (sb5.trans (SB.of same)) ?_
      obtain ⟨y1, y2, y3, e⟩ := bag6
      exact ⟨y1, y2, y3, same _ _ e⟩
end
end Wd

set_option Elab.async false
set_option linter.all false
set_option maxRecDepth 100000
set_option maxHeartbeats 4000000
/-! doubled tapes -/
namespace Wd
open PySem PySem.Spec PyProof.Rows L2
def dblE (m : Nat) : Ev := ⟨2 * (m : Int) + 1, "s", 97, 5⟩
def dbl (n : Nat) : List Ev := (List.range n).map dblE
theorem dbl_facts : ∀ i < 9, (cutAt (dbl (2 ^ i)) ((2 ^ i : Nat) : Int)).length = (2 ^ i + 1) / 2 ∧ (stamps (dbl (2 ^ i)))[2 ^ i - 1]? = some (2 * ((2 ^ i : Nat) : Int) - 1, 1) := by decide +kernel
theorem dbl_len (n : Nat) : (dbl n).length = n := by simp [dbl]
theorem dbl_join (n : Nat) : dbl n ++ shift (dbl n) (2 * (n : Int)) = dbl (2 * n) := by
  unfold dbl shift
  rw [List.map_map, Nat.two_mul, List.range_add, List.map_append, List.map_map]
  congr 1
  refine List.map_congr_left fun m _ => ?_
  show ({ dblE m with t := 2 * (m : Int) + 1 + 2 * (n : Int) } : Ev) = dblE (n + m)
  unfold dblE
  rw [show 2 * (m : Int) + 1 + 2 * (n : Int) = 2 * ((n + m : Nat) : Int) + 1 by omega]
theorem s_name : NameS "s" := by
  refine ⟨by decide, by decide, ?_, by decide +kernel⟩
  unfold low
  decide +kernel
theorem t300 : (1000 : Int) < ten60 := by decide +kernel
theorem dbl_good {n : Nat} (h1 : 1 ≤ n) (h : n ≤ 256) : Good (dbl n) (2 * (n : Int)) := by
  have t := t300
  have mem : ∀ e ∈ dbl n, ∃ m, m < n ∧ e = dblE m := fun e he => by
    obtain ⟨m, hm, rfl⟩ := List.mem_map.mp he
    exact ⟨m, List.mem_range.mp hm, rfl⟩
  refine ⟨fun e he => ?_, ⟨fun e he => ?_, ?_⟩, ?_, by omega, by rw [dbl_len]; omega⟩
  · obtain ⟨m, hm, rfl⟩ := mem e he
    refine ⟨by show (0 : Int) ≤ 2 * (m : Int) + 1; omega, s_name, (by show 97 ≤ 97 ∧ 97 ≤ 122; decide), by show -ten60 < (5 : Int); omega, by show (5 : Int) < ten60; omega⟩
  · obtain ⟨m, hm, rfl⟩ := mem e he
    show 2 * (m : Int) + 1 < ten60
    omega
  · unfold dbl
    rw [List.pairwise_map]
    refine List.Pairwise.imp ?_ (List.pairwise_lt_range (n := n))
    intro a b hab
    show 2 * (a : Int) + 1 ≤ 2 * (b : Int) + 1
    omega
  · unfold lastOf
    cases e : (dbl n).getLast? with
    | none => show (0 : Int) ≤ _; omega
    | some x =>
      obtain ⟨m, hm, rfl⟩ := mem x (List.mem_of_getLast? e)
      show 2 * (m : Int) + 1 ≤ 2 * (n : Int)
      omega
theorem dbl_at {n : Nat} (h : 1 ≤ n) : (dbl n)[n - 1]? = some ⟨2 * (n : Int) - 1, "s", 97, 5⟩ := by
  unfold dbl
  rw [List.getElem?_map, List.getElem?_range (by omega)]
  show some (dblE (n - 1)) = _
  unfold dblE
  rw [show 2 * ((n - 1 : Nat) : Int) + 1 = 2 * (n : Int) - 1 by omega]
theorem a_sign : (Str.ofString "a") = ⟨#[97]⟩ := by decide +kernel
theorem shaped_ev {e : Ev} (h : Near e) : SeqAt.shaped (evD e) = true := by
  obtain ⟨_, ⟨_, _, lo, _⟩, ll, _⟩ := h
  unfold SeqAt.shaped
  rw [Bool.and_eq_true]
  refine ⟨?_, decide_eq_true (by show max 0 (max 0 (max 0 (max 0 0))) + 1 ≤ 64; decide)⟩
  show (true && (PyData.strOk e.s && (PyData.strOk ⟨#[e.l]⟩ && (true && true)))) = true
  rw [lows_ok lo, sign_ok ll]
  rfl
def spDbl : Sp := fun vs H Q _ => ∃ B : Addr, vs = [.ref B] ∧ BagAt H B ∧ ∀ H', SB B H H' → BagAt H' B → Q (.bl true) H'
section
variable {P : Program} {w : World} {K : PySem.W.Frag} {mg : Str → Option Value} {base : Heap} {C CIN CIO CIT f1 f2 t0 fT fP fI fL fV : Addr}
abbrev nDbl : List Str := ["bag", "grown", "size", "turn", "due"]
theorem scDbl : FnScope nDbl ["bag"] (defScope sDoubled) := ⟨rfl, rfl, rfl, by decide +kernel, rfl, by decide +kernel, by decide +kernel⟩
theorem ok_doubled {f : Addr} {fd fdT fdN : FuncData} (F : Fun K "_law_doubled" "_law_doubled" sDoubled f fd) (X : WTxt mg fI fL) (T : GTxt mg fT fP) (FT : Fun K "_law_throw" "_law_throw" sThrow fT fdT) (bT : Binds K fdT ["bag", "total"] [])
    (M : TM1 P w K mg base C CIN CIO CIT) (M2 : TM2 P w K mg base C f1 f2) (N : TNew P w K mg base C CIT f1 f2 t0 fdN) :
    FnOk P w K mg base CX0 9 f fd ["bag"] spDbl := by
  have GT : FnOk P w K mg base CX0 1 fT fdT ["bag", "total"] spThrow := ok_throw FT T.toTxtA
  obtain ⟨g2, kb2⟩ := N.k2
  obtain ⟨fu, fdu, du, Fu0, bu⟩ := M.upto
  have Fu := ok_uptoOk Fu0
  obtain ⟨fs, fds, ds, Fs, bs⟩ := M2.stm
  obtain ⟨pl, gl, fdl, pl1, pl2, pl3⟩ := M2.pL
  refine F.ok scDbl (fun vs H Q E h => ?_) (fun cdv A outer s H vs Q E hr h => ?_)
  · obtain ⟨B, rfl, _⟩ := h
    rfl
  · obtain ⟨B, rfl, hB, fin⟩ := h
    have hr1 : Room 1 _ := hr.mono (by decide)
    have hr2 : Room 2 _ := hr.mono (by decide)
    have hr4 : Room 4 _ := hr.mono (by decide)
    have hr6 : Room 6 _ := hr.mono (by decide)
    have hr7 : Room 7 _ := hr.mono (by decide)
    have oA := op_addT (X := (cxOf CX0 P w K mg base nDbl "_law_doubled" (defScope sDoubled) f cdv A outer s H E).nox) M rfl rfl rfl rfl rfl hr
    have oL := call_lenT (X := (cxOf CX0 P w K mg base nDbl "_law_doubled" (defScope sDoubled) f cdv A outer s H E).nox) M2 rfl rfl rfl rfl rfl hr2
    refine ⟨_, pss_cons (ps_par (i := 1) (j := 2) (by rfl) scDbl.nd rfl rfl (by decide) rfl rfl (pa_cons (pe_makeN (n := 1) N.y.mak N.g hr6 rfl N.y.mgC kb2 pass9 (pa_cons (pe_tup (pa_cons (pe_tup (pa_cons pe_int (pa_cons pe_str (pa_cons pe_str (pa_cons pe_int pa_nil))))) pa_nil)) pa_nil) (pk_cons pe_int pk_nil)) (pa_cons pe_int pa_nil)) (by rfl))
      (pss_cons (ps_for PassesOwn.never rfl (pi_range1 rfl T.range (pa_cons (pe_call GT hr1 rfl T.thr FT.kp bT .nil pass0 (pa_cons (pv 0) (pa_cons pe_int pa_nil))) pa_nil)) (pg_name (i := 3) scDbl.nd rfl (Or.inl rfl))
        (pss_one (ps_par (i := 1) (j := 2) (by rfl) scDbl.nd rfl rfl (by decide) rfl rfl (pa_cons (pe_op oA (pv 1) (pv 1)) (pa_cons (pe_op op_mul pe_int (pv 2)) pa_nil)) (by rfl))))
      (pss_cons (ps_set (i := 4) scDbl.nd rfl (Or.inl rfl) (pe_lst (pa_cons (pe_cmpR op_eq (pe_prop (pv 1) N.y.cl pl1 pl2 hr2 pl3 .nil pass0 rfl) (pe_op op_mul pe_int (pv 2)) (nomark _))
          (pa_cons (pe_cmpR op_eq (pe_callB oL (by rfl) X.len PySem.boot_len (pa_cons (pv 1) pa_nil)) (pv 2) (nomark _))
          (pa_cons (pe_cmpR (op_eqD hr.units) (pe_ixT M2 rfl rfl rfl rfl rfl hr4 (pv 1) (pe_op op_sub (pv 2) pe_int)) (pe_tup (pa_cons (pe_op op_sub (pe_op op_mul pe_int (pv 2)) pe_int) (pa_cons pe_str (pa_cons pe_str (pa_cons pe_int pa_nil))))) (nomark _)) pa_nil)))))
      (pss_one (ps_ret (pe_and (pe_callB (cr_all rfl) (by rfl) X.all (by decide +kernel) (pa_cons (pv 4) pa_nil))
        (pe_and (pe_cmpR (op_eqD hr.units) (pe_ix (r := rIxT K) ix_tup (pe_meth0 (pv 1) M.cl ds Fs hr1 bs .nil pass0) (pe_op op_sub (pv 2) pe_int) (fun _ _ => rfl)) (pe_tup (pa_cons (pe_op op_sub (pe_op op_mul pe_int (pv 2)) pe_int) (pa_cons pe_int pa_nil))) (nomark _))
          (pe_one (pe_cmpR op_eq (pe_callB oL (by rfl) X.len PySem.boot_len (pa_cons (pe_meth (pv 1) M.cl du Fu hr7 bu .nil pass9 (pa_cons (pv 2) pa_nil)) pa_nil)) (pe_op op_fdiv (pe_op op_add (pv 2) pe_int) pe_int) (nomark _))))))))), ?_⟩
    have t6 := t300
    have pw1 : ∀ i : Nat, 1 ≤ 2 ^ i := fun i => Nat.one_le_two_pow
    have pw8 : ∀ i : Nat, i ≤ 8 → 2 ^ i ≤ 256 := fun i h => Nat.le_trans (Nat.pow_le_pow_right (by decide) h) (by decide)
    have pw7 : ∀ i : Nat, i ≤ 7 → 2 ^ i ≤ 128 := fun i h => Nat.le_trans (Nat.pow_le_pow_right (by decide) h) (by decide)
    refine ⟨(by show 4 ≤ sizeLine; decide), fun z1 hz1 => ⟨(by show 1 ≤ sizeLine; decide), fun z2 hz2 => ⟨rfl, rfl, fun x1 d1 hx1 hd1 ne1 => ?_⟩⟩⟩
    have sz1 : Same H (upd H z1 (.tup [.int 1, .str "s", .str "a", .int 5])) := fresh hz1
    have ez1 : (upd H z1 (.tup [.int 1, .str "s", .str "a", .int 5])) z1 = some (.tup (dblE 0).vs) := by
      rw [upd_same]
      show some (HO.tup [.int 1, .str "s", .str (Str.ofString "a"), .int 5]) = some (HO.tup [.int (2 * ((0 : Nat) : Int) + 1), .str "s", .str ⟨#[97]⟩, .int 5])
      rw [a_sign]
      rfl
    generalize upd H z1 (.tup [.int 1, .str "s", .str "a", .int 5]) = HA at sz1 ez1 hz2 hx1 hd1 ⊢
    have sz2 : Same HA (upd HA z2 (.tup [.ref z1])) := fresh hz2
    have ez2 : (upd HA z2 (.tup [.ref z1])) z2 = some (.tup [.ref z1]) := upd_same
    generalize upd HA z2 (.tup [.ref z1]) = HB at sz2 ez2 hx1 hd1 ⊢
    have evd : Evs K HB z2 (dbl 1) := ⟨_, .inl ez2, .cons ⟨z1, rfl, sz2 _ _ ez1⟩ .nil⟩
    have gd1 : Good (dbl 1) 2 := dbl_good (n := 1) (by decide) (by decide)
    refine new_goodX hx1 hd1 ne1 evd gd1 fun H1 s1 t1 => ⟨rfl, ?_⟩
    generalize hn_1 : x1 = a1 at t1 ⊢
    refine ⟨_, _, rfl, ?_⟩
    have s01 : Same H H1 := (sz1.trans sz2).trans s1
    have bag1 : BagAt H1 B := by
      obtain ⟨y1, y2, y3, e⟩ := hB
      exact ⟨y1, y2, y3, s01 _ _ e⟩
    refine ⟨_, rfl, B, _, rfl, bag1, by decide, by decide +kernel, fun r H2 r0 r1 s2 b2 => ⟨_, rfl, by omega, by omega, ?_⟩⟩
    refine for_range (lo := 0) (n := r.toNat) (fun i σ H' => SB B H H' ∧ BagAt H' B ∧ ∃ a v3 v4, σ = [some (.ref B), some (.ref a), some (.int ((2 ^ i : Nat) : Int)), v3, v4] ∧ TapeAt K C H' a (dbl (2 ^ i)) (2 * ((2 ^ i : Nat) : Int)))
      ⟨(SB.of s01).trans s2, b2, a1, _, _, rfl, (show TapeAt K C H1 a1 (dbl (2 ^ 0)) (2 * ((2 ^ 0 : Nat) : Int)) from t1).mono (Kp.sb bag1 s2)⟩ ?_ ?_
    · rintro i σ H3 hi ⟨sb, bg, a, v3, v4, rfl, ta⟩
      have g := dbl_good (pw1 i) (pw8 i (by omega))
      have p8 := pw7 i (by omega)
      refine ⟨_, rfl, _, rfl, a, a, _, _, _, _, rfl, rfl, ta, g, ta, g, by rw [dbl_len]; omega, by omega, fun c H4 s4 tc gc => ?_⟩
      refine ⟨_, rfl, _, _, rfl, rfl, .inl ⟨by decide, by decide⟩, _, _, rfl, ?_⟩
      have e1 : (2 : Int) * ((2 ^ i : Nat) : Int) = ((2 ^ (i + 1) : Nat) : Int) := by
        rw [Nat.pow_succ]
        omega
      have bg4 : BagAt H4 B := by
        obtain ⟨y1, y2, y3, e⟩ := bg
        exact ⟨y1, y2, y3, s4 _ _ e⟩
      refine ⟨sb.trans (SB.of s4), bg4, c, some (.int (0 + (i : Int))), v4, ?_, ?_⟩
      · show [some (V.ref B), some (.ref c), some (V.int (2 * ((2 ^ i : Nat) : Int))), some (.int (0 + (i : Int))), v4] = _
        rw [e1]
      · have e2 : 2 * 2 ^ i = 2 ^ (i + 1) := by rw [Nat.pow_succ]; omega
        rw [dbl_join, e2, e1] at tc
        have e3 : ((2 ^ (i + 1) : Nat) : Int) + ((2 ^ (i + 1) : Nat) : Int) = 2 * ((2 ^ (i + 1) : Nat) : Int) := by omega
        rw [e3] at tc
        exact tc
    · rintro σ H3 ⟨sb, bg, a, v3, v4, rfl, ta⟩
      have i8 : r.toNat < 9 := by omega
      obtain ⟨fc1, fc2⟩ := dbl_facts r.toNat i8
      have n1 := pw1 r.toNat
      have n8 := pw8 r.toNat (by omega)
      generalize 2 ^ r.toNat = n at fc1 fc2 n1 n8 ta ⊢
      have g := dbl_good n1 n8
      have ln := dbl_len n
      obtain ⟨dx, t, ha, ev⟩ := id ta
      have ge := g.near _ (List.mem_of_getElem? (dbl_at n1))
      refine ⟨.ref a, rfl, a, dx, _, rfl, ha, a, dx, _, _, rfl, ha, tf_last t _, _, rfl, _, _, rfl, rfl, .inl ⟨by decide, by decide⟩, rfl, ?_⟩
      refine ⟨_, rfl, a, _, _, rfl, ta, by omega, _, rfl, rfl, ?_⟩
      refine ⟨_, rfl, _, rfl, _, _, rfl, rfl, a, _, _, n - 1, _, rfl, by rw [show ((n - 1 : Nat) : Int) = (n : Int) - 1 by omega], ta, by omega, dbl_at n1, fun v hv => ?_⟩
      refine ⟨_, rfl, _, _, rfl, rfl, .inl ⟨by decide, by decide⟩, _, _, rfl, rfl, (by show 4 ≤ sizeLine; decide), fun z hz => ?_⟩
      have sz : Same H3 (upd H3 z (.tup [.int (2 * (n : Int) - 1), .str "s", .str "a", .int 5])) := fresh hz
      have ez : EvAt (upd H3 z (.tup [.int (2 * (n : Int) - 1), .str "s", .str "a", .int 5])) (.ref z) ⟨2 * (n : Int) - 1, "s", 97, 5⟩ := ⟨z, rfl, by
        rw [upd_same]
        show some (HO.tup [.int (2 * (n : Int) - 1), .str "s", .str (Str.ofString "a"), .int 5]) = some (HO.tup [.int (2 * (n : Int) - 1), .str "s", .str ⟨#[97]⟩, .int 5])
        rw [a_sign]⟩
      generalize upd H3 z (.tup [.int (2 * (n : Int) - 1), .str "s", .str "a", .int 5]) = H4 at sz ez ⊢
      refine ⟨_, _, dp_ev (hv.mono (Kp.of sz)), dp_ev ez, shaped_ev ge, shaped_ev ge, ?_⟩
      refine ⟨(by show 3 ≤ sizeLine; decide), fun L hL => ?_⟩
      have eL : ∀ b1 b2 b3 : Bool, b1 = true → b2 = true → b3 = true → (upd H4 L (.lst [.bl b1, .bl b2, .bl b3])) L = some (.lst ([true, true, true].map V.bl)) := fun b1 b2 b3 h1 h2 h3 => by
        subst h1 h2 h3
        exact upd_same
      have eL1 := eL (decide (V.int (2 * (n : Int)) = V.int (2 * (n : Int)))) (decide (V.int ((dbl n).length : Int) = V.int (n : Int))) (PyData.eqv (evD ⟨2 * (n : Int) - 1, "s", 97, 5⟩) (evD ⟨2 * (n : Int) - 1, "s", 97, 5⟩)) (decide_eq_true rfl) (decide_eq_true (by rw [ln])) (evD_iff.mpr rfl)
      have sL : Same H4 (upd H4 L (.lst [.bl (decide (V.int (2 * (n : Int)) = V.int (2 * (n : Int)))), .bl (decide (V.int ((dbl n).length : Int) = V.int (n : Int))), .bl (PyData.eqv (evD ⟨2 * (n : Int) - 1, "s", 97, 5⟩) (evD ⟨2 * (n : Int) - 1, "s", 97, 5⟩))])) := fresh hL
      generalize upd H4 L (.lst [.bl (decide (V.int (2 * (n : Int)) = V.int (2 * (n : Int)))), .bl (decide (V.int ((dbl n).length : Int) = V.int (n : Int))), .bl (PyData.eqv (evD ⟨2 * (n : Int) - 1, "s", 97, 5⟩) (evD ⟨2 * (n : Int) - 1, "s", 97, 5⟩))]) = H5 at eL1 sL ⊢
      have s35 := sz.trans sL
      have ta5 := ta.mono (Kp.of s35)
      have ha5 := s35 _ _ ha
      refine ⟨_, rfl, L, _, rfl, SqL.of eL1, true, rfl, iteT ?_⟩
      refine ⟨_, rfl, a, dx, _, rfl, ha5, rfl, a, _, _, rfl, ta5, by omega, fun l xs H6 s6 el px => ?_⟩
      obtain ⟨y, hy, pa⟩ : ∃ y, xs[n - 1]? = some y ∧ StampV H6 y (2 * (n : Int) - 1, 1) := paired_getR px fc2
      obtain ⟨b, rfl, hb⟩ := pa
      have hyI : atI xs ((n : Int) - 1) = some (.ref b) := at_nn (by omega) (by rw [show ((n : Int) - 1).toNat = n - 1 by omega]; exact hy)
      refine ⟨_, rfl, _, _, rfl, rfl, l, xs, _, _, rfl, rfl, SqT.of el, hyI, ?_⟩
      refine ⟨_, rfl, _, _, rfl, rfl, .inl ⟨by decide, by decide⟩, _, _, rfl, rfl, (by show 2 ≤ sizeLine; decide), fun z' hz' => ?_⟩
      have sz' : Same H6 (upd H6 z' (.tup [.int (2 * (n : Int) - 1), .int 1])) := fresh hz'
      have ez' : (upd H6 z' (.tup [.int (2 * (n : Int) - 1), .int 1])) z' = some (.tup [.int (2 * (n : Int) - 1), .int 1]) := upd_same
      generalize upd H6 z' (.tup [.int (2 * (n : Int) - 1), .int 1]) = H7 at sz' ez' ⊢
      refine ⟨.tuple [.int (2 * (n : Int) - 1), .int 1], .tuple [.int (2 * (n : Int) - 1), .int 1], .tup (SqT.of (sz' _ _ hb)) (.cons (.int _) (.cons (.int _) .nil)), .tup (SqT.of ez') (.cons (.int _) (.cons (.int _) .nil)), rfl, rfl, _, rfl, ?_⟩
      rw [show PyData.eqv (.tuple [.int (2 * (n : Int) - 1), .int 1]) (.tuple [.int (2 * (n : Int) - 1), .int 1]) = true by
        show ((2 * (n : Int) - 1 == 2 * (n : Int) - 1) && (((1 : Int) == 1) && true)) = true
        simp]
      have s37 := s35.trans (s6.trans sz')
      refine iteT ⟨_, rfl, a, dx, _, rfl, s37 _ _ ha, rfl, _, rfl, a, _, _, n, rfl, ta.mono (Kp.of s37), g, by omega, by omega, fun c H8 s8 tc gc => ⟨c, _, _, rfl, tc, (by have := gc.few; omega), ?_⟩⟩
      refine ⟨_, rfl, _, _, rfl, rfl, _, _, rfl, rfl, ⟨by decide, by decide⟩, rfl, ?_⟩
      have s38 := s37.trans s8
      rw [decide_eq_true (show V.int ((cutAt (dbl n) (n : Int)).length : Int) = V.int (((n : Int) + 1) / 2) by rw [fc1]; congr 1)]
      refine fin H8 (sb.trans (SB.of s38)) ?_
      obtain ⟨y1, y2, y3, e⟩ := bg
      exact ⟨y1, y2, y3, s38 _ _ e⟩
end
end Wd

set_option Elab.async false
set_option linter.all false
set_option maxRecDepth 100000
set_option maxHeartbeats 4000000
namespace Wd
open PySem PySem.Spec PyProof.Rows L2
theorem Ans.any {K : PySem.W.Frag} {C : Addr} {H : Hp} {v y y' : V} {o : Out} (n : o ≠ .num) (h : Ans K C H v y o) : Ans K C H v y' o := by
  cases o with
  | tp es k => exact h
  | num => exact (n rfl).elim
  | word s => exact h
def OpdOk (es : List Ev) : Opd → Prop
  | .tape fs j => Good fs j ∧ es.length + fs.length ≤ 20
  | .tab kvs => ∀ p ∈ kvs, IntKV p
  | _ => True
theorem tp_inj {es es' : List Ev} {k k' : Int} (h : Out.tp es k = .tp es' k') : es = es' ∧ k = k' := by
  cases h
  exact ⟨rfl, rfl⟩
theorem out_good {es : List Ev} {k : Int} (g : Good es k) (few : es.length ≤ 20) : ∀ (way : Nat) (o : Opd), OpdOk es o → ∀ es' k', outcome es k way o = .tp es' k' → Good es' k' ∧ es'.length ≤ 20 := by
  have lsh : ∀ (es : List Ev) (d : Int), (shift es d).length = es.length := fun es d => by unfold shift; rw [List.length_map]
  intro way o ok es' k' h
  match way, o, ok, h with
  | 0, .tape fs j, ok, h =>
    have h' : (if k + j < ten60 then Out.tp (es ++ shift fs k) (k + j) else .word "tape") = .tp es' k' := h
    split at h'
    · rename_i c
      obtain ⟨rfl, rfl⟩ := tp_inj h'
      have l2 := ok.2
      exact ⟨g.join ok.1 c (by omega), by rw [List.length_append, lsh]; exact l2⟩
    · cases h'
  | 0, .int i, _, h => cases h
  | 0, .tab kvs, _, h => cases h
  | 0, .odd, _, h => cases h
  | 1, .tape fs j, _, h => cases h
  | 1, .int i, _, h =>
    have h' : (if 0 ≤ i ∧ i < ten60 then (if k + i < ten60 then Out.tp (shift es i) (k + i) else .word "tape") else .num) = .tp es' k' := h
    split at h'
    · rename_i c
      split at h'
      · rename_i c2
        obtain ⟨rfl, rfl⟩ := tp_inj h'
        exact ⟨g.shift c.1 c2, by rw [lsh]; exact few⟩
      · cases h'
    · cases h'
  | 1, .tab kvs, _, h => cases h
  | 1, .odd, _, h => cases h
  | 2, .tape fs j, _, h => cases h
  | 2, .int i, _, h =>
    have h' : (if 0 ≤ i ∧ i ≤ k then Out.tp (cutAt es i) i else .num) = .tp es' k' := h
    split at h'
    · rename_i c
      obtain ⟨rfl, rfl⟩ := tp_inj h'
      exact ⟨g.cut c.1 c.2, Nat.le_trans (List.length_filter_le _ _) few⟩
    · cases h'
  | 2, .tab kvs, _, h => cases h
  | 2, .odd, _, h => cases h
  | n + 3, .tape fs j, _, h => cases h
  | n + 3, .int i, _, h => cases h
  | n + 3, .tab kvs, ok, h =>
    obtain ⟨rfl, rfl⟩ := tp_inj (h : Out.tp (swap kvs es) k = .tp es' k')
    exact ⟨g.swap ok, by unfold swap; rw [List.length_map]; exact few⟩
  | n + 3, .odd, _, h => cases h
theorem out_num0 (es : List Ev) (k : Int) (o : Opd) : outcome es k 0 o ≠ .num := by
  cases o with
  | tape fs j =>
    show (if k + j < ten60 then Out.tp (es ++ shift fs k) (k + j) else .word "tape") ≠ .num
    split <;> exact fun h => by cases h
  | int i => exact fun h => by cases h
  | tab kvs => exact fun h => by cases h
  | odd => exact fun h => by cases h
theorem out_num3 (es : List Ev) (k : Int) (o : Opd) (n : Nat) : outcome es k (n + 3) o ≠ .num := by
  cases o <;> exact fun h => by cases h
theorem merge_ok : ∀ (kvs d : List (Key × V)), (d.map (·.1)).Nodup → (∀ p ∈ d, IntKV p) → (∀ p ∈ kvs, IntKV p) → (mergeK d kvs).length ≤ d.length + kvs.length ∧ ((mergeK d kvs).map (·.1)).Nodup ∧ ∀ p ∈ mergeK d kvs, IntKV p
  | [], d, nd, id, _ => ⟨Nat.le_refl _, nd, id⟩
  | p :: r, d, nd, id, ir => by
    have ih := merge_ok r (putK d p.1 p.2) (put_nodup _ nd) (fun q hq => (put_mem hq).elim (id q) fun e => e ▸ ir p (by simp)) fun q hq => ir q (List.mem_cons_of_mem _ hq)
    have l := length_putK d p.1 p.2
    refine ⟨?_, ih.2.1, ih.2.2⟩
    have := ih.1
    show (mergeK (putK d p.1 p.2) r).length ≤ d.length + (r.length + 1)
    omega
end Wd

set_option Elab.async false
set_option linter.all false
set_option maxRecDepth 100000
set_option maxHeartbeats 4000000
/-! the law -/
namespace Wd
open PySem PySem.Spec PyProof.Rows L2
theorem pss_mono {X : Cx} {l : List Stmt} {t t' : TS} (P : PSs X l t) (h : ∀ D σ H, t' D σ H → t D σ H) : PSs X l t' := ⟨fun pins s σ H D I q => P.run pins s σ H D I (h D σ H q)⟩
def spLaw (K : PySem.W.Frag) : Sp := fun vs H Q _ => ∃ (a : Addr) (ns : List Int), vs = [.ref a] ∧ SqL K H a (ns.map V.int) ∧ ns.length ≤ 63 ∧ ∀ H', Q (.bl true) H'
/-- a def that stands at its name -/
structure At (P : Program) (w : World) (K : PySem.W.Frag) (mg : Str → Option Value) (base : Heap) (k : Nat) (x : Str) (f : Addr) (fd : FuncData) (ps : List Str) (sp : Sp) : Prop where
  m : mg x = some (.ref f)
  kp : PySem.W.keepIn K (.ref f) = true
  b : Binds K fd ps []
  g : FnOk P w K mg base CX0 k f fd ps sp
def HeldV (K : PySem.W.Frag) (C : Addr) (H : Hp) (x : V) : Prop := ∃ z a p es k, x = .ref z ∧ H z = some (.tup [.ref a, .ref p]) ∧ TapeAt K C H a es k ∧ PlainAt K H p es k ∧ Good es k ∧ es.length ≤ 20
theorem HeldV.mono {K : PySem.W.Frag} {C : Addr} {H H' : Hp} {x : V} (kp : Kp H H') (h : HeldV K C H x) : HeldV K C H' x := let ⟨z, a, p, es, k, e, h1, h2, h3, r⟩ := h; ⟨z, a, p, es, k, e, kp.1 _ _ h1, h2.mono kp, h3.mono kp, r⟩
/-- what the loop of the law keeps -/
structure LSt (K : PySem.W.Frag) (C : Addr) (H0 H : Hp) (B d HL a p : Addr) (n : Nat) (es : List Ev) (k : Int) : Prop where
  s0 : Same H0 H
  nB : H0 B = none
  nL : H0 HL = none
  bag : BagAt H B
  lay : LayO H d
  held : ∃ xs, H HL = some (.lst xs) ∧ 1 ≤ xs.length ∧ xs.length ≤ n ∧ ∀ x ∈ xs, HeldV K C H x
  tape : TapeAt K C H a es k
  plain : PlainAt K H p es k
  good : Good es k
  few : es.length ≤ 20
theorem LSt.ne {K : PySem.W.Frag} {C : Addr} {H0 H : Hp} {B d HL a p : Addr} {n : Nat} {es : List Ev} {k : Int} (S : LSt K C H0 H B d HL a p n es k) : HL ≠ B := by
  obtain ⟨xs, h, h1, _, hv⟩ := S.held
  obtain ⟨x, y, z, e⟩ := S.bag
  intro q
  rw [q, e] at h
  cases h
  obtain ⟨_, _, _, _, _, e2, _⟩ := hv (.int x) (by simp)
  cases e2
theorem LSt.sb {K : PySem.W.Frag} {C : Addr} {H0 H H' : Hp} {B d HL a p : Addr} {n : Nat} {es : List Ev} {k : Int} (S : LSt K C H0 H B d HL a p n es k) (s : SB B H H') (b : BagAt H' B) : LSt K C H0 H' B d HL a p n es k := by
  have kp := Kp.sb S.bag s
  obtain ⟨xs, h, h1, h2, hv⟩ := S.held
  exact ⟨fun c o e => s _ _ (ne_of_none e S.nB) (S.s0 _ _ e), S.nB, S.nL, b, S.lay.sb S.bag s, ⟨xs, s _ _ S.ne h, h1, h2, fun x hx => (hv x hx).mono kp⟩, S.tape.mono kp, S.plain.mono kp, S.good, S.few⟩
theorem BagAt.same {H H' : Hp} {B : Addr} (b : BagAt H B) (s : Same H H') : BagAt H' B := let ⟨x, y, z, e⟩ := b; ⟨x, y, z, s _ _ e⟩
theorem LSt.same {K : PySem.W.Frag} {C : Addr} {H0 H H' : Hp} {B d HL a p : Addr} {n : Nat} {es : List Ev} {k : Int} (S : LSt K C H0 H B d HL a p n es k) (s : Same H H') : LSt K C H0 H' B d HL a p n es k := S.sb (SB.of s) (S.bag.same s)
/-- a new bag -/
theorem LSt.rebag {K : PySem.W.Frag} {C : Addr} {H0 H H' : Hp} {B B' d HL a p : Addr} {n : Nat} {es : List Ev} {k : Int} (S : LSt K C H0 H B d HL a p n es k) (s : Same H H') (hB : H B' = none) (b : BagAt H' B') : LSt K C H0 H' B' d HL a p n es k := by
  have S' := S.same s
  refine ⟨S'.s0, ?_, S'.nL, b, S'.lay, S'.held, S'.tape, S'.plain, S'.good, S'.few⟩
  cases e : H0 B' with
  | none => rfl
  | some o =>
    rw [S.s0 _ _ e] at hB
    cases hB
/-- the loop's own names -/
def LInv (K : PySem.W.Frag) (C : Addr) (H0 : Hp) (S d HL : Addr) (n : Nat) (σ : L2.St) (H : Hp) : Prop := ∃ B a p es k, ∃ v6 v7 v8 v9 v10 v11 v12 v13 v14 v15 v16 v17 v18 : Option V,
  σ = [some (.ref S), some (.ref B), some (.ref d), some (.ref p), some (.ref a), some (.ref HL), v6, v7, v8, v9, v10, v11, v12, v13, v14, v15, v16, v17, v18] ∧ LSt K C H0 H B d HL a p n es k
abbrev Lσ (S B d p a HL : Addr) (v6 v7 v8 v9 v10 v11 v12 v13 v14 v15 v16 v17 v18 : Option V) : L2.St := [some (.ref S), some (.ref B), some (.ref d), some (.ref p), some (.ref a), some (.ref HL), v6, v7, v8, v9, v10, v11, v12, v13, v14, v15, v16, v17, v18]
/-- the walk goes on from here -/
def TL (K : PySem.W.Frag) (C : Addr) (H0 : Hp) : TS := fun D σ H => ∃ S d HL m, m ≤ 90 ∧ LInv K C H0 S d HL m σ H ∧ ∀ σ' H', LInv K C H0 S d HL m σ' H' → D.nx σ' H'
def TA (K : PySem.W.Frag) (C : Addr) (H0 : Hp) : TS := fun D σ H => ∃ S d HL n, n ≤ 80 ∧ LInv K C H0 S d HL n σ H ∧ ∀ σ' H', LInv K C H0 S d HL (n + 1) σ' H' → D.nx σ' H'
/-- the way is known -/
def TB (K : PySem.W.Frag) (C : Addr) (H0 : Hp) : TS := fun D σ H => ∃ S d HL n B a p es k q fs j r gs l, ∃ way : Nat, ∃ v6 v10 v11 v12 v13 v14 v15 v16 v17 v18 : Option V, n ≤ 80 ∧ σ = Lσ S B d p a HL v6 (some (.int way)) (some (.ref q)) (some (.ref r)) v10 v11 v12 v13 v14 v15 v16 v17 v18 ∧
  LSt K C H0 H B d HL a p n es k ∧ PlainAt K H q fs j ∧ Good fs j ∧ fs.length ≤ 3 ∧ PlainAt K H r gs l ∧ Good gs l ∧ gs.length ≤ 3 ∧ way ≤ 3 ∧ (14 < es.length → way = 2) ∧ ∀ σ' H', LInv K C H0 S d HL (n + 1) σ' H' → D.nx σ' H'
/-- behind a deed -/
def TRest (K : PySem.W.Frag) (C : Addr) (H0 : Hp) : TS := fun D σ H => ∃ S d HL n B a p q r es k fs j gs l u v y o, ∃ v6 v7 v10 v13 v14 v15 v16 v17 v18 : Option V,
  n ≤ 80 ∧ σ = Lσ S B d p a HL v6 v7 (some (.ref q)) (some (.ref r)) v10 (some u) (some v) v13 v14 v15 v16 v17 v18 ∧ LSt K C H0 H B d HL a p n es k ∧
  PlainAt K H q fs j ∧ Good fs j ∧ fs.length ≤ 20 ∧ PlainAt K H r gs l ∧ Good gs l ∧ gs.length ≤ 20 ∧ Ans K C H v y o ∧ Due K H u y o ∧ (∀ es' k', o = .tp es' k' → Good es' k' ∧ es'.length ≤ 20) ∧ (o = .num → Flatd H y) ∧
  ∀ σ' H', LInv K C H0 S d HL (n + 1) σ' H' → D.nx σ' H'
theorem Ans.mono {K : PySem.W.Frag} {C : Addr} {H H' : Hp} {v y : V} {o : Out} (kp : Kp H H') (h : Ans K C H v y o) : Ans K C H' v y o := by
  cases o with
  | tp es k => obtain ⟨b, e, t⟩ := h; exact ⟨b, e, t.mono kp⟩
  | num => obtain ⟨p, e, t⟩ := h; exact ⟨p, e, kp.1 _ _ t⟩
  | word s => exact h
theorem Due.mono {K : PySem.W.Frag} {H H' : Hp} {v y : V} {o : Out} (kp : Kp H H') (h : Due K H v y o) : Due K H' v y o := by
  cases o with
  | tp es k => obtain ⟨b, e, t⟩ := h; exact ⟨b, e, t.mono kp⟩
  | num => obtain ⟨p, e, t⟩ := h; exact ⟨p, e, kp.1 _ _ t⟩
  | word s => exact h
theorem Flatd.sb {B : Addr} {H H' : Hp} {y : V} (b : BagAt H B) (s : SB B H H') (h : Flatd H y) : Flatd H' y := h.elim .inl fun h => .inr (h.sb b s)
section
variable {P : Program} {w : World} {K : PySem.W.Frag} {mg : Str → Option Value} {base : Heap} {C CIN CIO CIT f1 f2 t0 fI fL : Addr}
  {fT fS fY fTp fP fV fW fD fA fM fZ fG : Addr} {fdT fdS fdY fdTp fdP fdV fdW fdD fdA fdM fdZ fdG fdN : FuncData}
abbrev nLaw : List Str := ["script", "bag", "layout", "plain", "tape", "held", "at", "way", "other", "third", "odd", "due", "answer", "table", "some", "operand", "turn", "one", "two"]
theorem scLaw : FnScope nLaw ["script"] (defScope sLaw) := ⟨rfl, rfl, rfl, by decide +kernel, rfl, by decide +kernel, by decide +kernel⟩


theorem ok_law {f : Addr} {fd : FuncData} (F : Fun K "law" "law" sLaw f fd) (X : WTxt mg fI fL) (mmax : mg "max" = none) (mdict : mg "dict" = none)
    (M : TM1 P w K mg base C CIN CIO CIT) (M2 : TM2 P w K mg base C f1 f2) (N : TNew P w K mg base C CIT f1 f2 t0 fdN)
    (aT : At P w K mg base 1 "_law_throw" fT fdT ["bag", "total"] spThrow) (aS : At P w K mg base 1 "_law_start" fS fdS ["script", "at"] (spStart K)) (aY : At P w K mg base 4 "_law_layout" fY fdY ["bag", "sources", "letters"] spLayout)
    (aTp : At P w K mg base 4 "_law_tape" fTp fdTp ["bag", "layout", "most", "gap"] (spLTape K)) (mP : mg "_law_pick" = some (.ref fP)) (kP : PySem.W.keepIn K (.ref fP) = true) (bP : Binds K fdP ["bag", "items"] []) (gP : FnOk P w K mg base CX0 2 fP fdP ["bag", "items"] spPickL)
    (aV : At P w K mg base 2 "_law_value" fV fdV ["bag"] spValue) (aW : At P w K mg base 9 "_law_ways" fW fdW ["bag", "plain", "tape", "other", "third"] (spWays K C)) (aD : At P w K mg base 9 "_law_doubled" fD fdD ["bag"] spDbl)
    (aA : At P w K mg base 9 "_law_deed" fA fdA ["way", "tape", "operand"] (spDeed K C)) (aM : At P w K mg base 6 "_law_same" fM fdM ["one", "other"] (spSameE K 3)) (aZ : At P w K mg base 8 "_law_fits" fZ fdZ ["answer", "due"] (spFits K C))
    (aG : At P w K mg base 3 "_law_due" fG fdG ["way", "plain", "operand"] (spDue K)) {fQ : Addr} {fdQ : FuncData} (aQ : At P w K mg base 7 "_law_is_tape" fQ fdQ ["tape", "plain"] (spIsTape K C)) :
    FnOk P w K mg base CX0 10 f fd ["script"] (spLaw K) := by
  obtain ⟨g2, kb2⟩ := N.k2
  refine F.ok scLaw (fun vs H Q E h => ?_) (fun cdv A outer s H vs Q E hr h => ?_)
  · obtain ⟨a, ns, rfl, _⟩ := h
    rfl
  · obtain ⟨S, ns, rfl, hS, h63, fin⟩ := h
    have rm : ∀ {j : Nat}, j ≤ 9 → Room j _ := fun h => hr.mono h
    refine ⟨_, (pss_cons (ps_set (i := 1) scLaw.nd rfl (Or.inr rfl) (pe_call aS.g (rm (by decide)) rfl aS.m aS.kp aS.b .nil pass0 (pa_cons (pv 0) (pa_cons pe_int pa_nil))))
        (pss_cons (ps_set (i := 2) scLaw.nd rfl (Or.inl rfl) (pe_call aY.g (rm (by decide)) rfl aY.m aY.kp aY.b .nil pass0 (pa_cons (pv 1) (pa_cons pe_int (pa_cons pe_int pa_nil)))))
        (pss_cons (ps_set (i := 3) scLaw.nd rfl (Or.inl rfl) (pe_call aTp.g (rm (by decide)) rfl aTp.m aTp.kp aTp.b .nil pass0 (pa_cons (pv 1) (pa_cons (pv 2) (pa_cons pe_int (pa_cons
          (pe_call gP (rm (by decide)) rfl mP kP bP .nil pass0 (pa_cons (pv 1) (pa_cons (pe_lst (pa_cons pe_int (pa_cons (pe_op op_pow pe_int pe_int) pa_nil))) pa_nil))) pa_nil))))))
        (pss_cons (ps_set (i := 4) scLaw.nd rfl (Or.inl rfl) (pe_makeN (n := 1) N.y.mak N.g (rm (by decide)) rfl N.y.mgC kb2 pass9 (pa_cons (pe_ix (r := rIxT K) ix_tup (pv 3) pe_int (fun _ _ => rfl)) pa_nil) (pk_cons (pe_ix (r := rIxT K) ix_tup (pv 3) pe_int (fun _ _ => rfl)) pk_nil)))
        (pss_cons (ps_set (i := 5) scLaw.nd rfl (Or.inl rfl) (pe_lst (pa_cons (pe_tup (pa_cons (pv 4) (pa_cons (pv 3) pa_nil))) pa_nil)))
        (pss_cons (ps_for PassesOwn.never rfl (pi_range1 rfl X.range (pa_cons (pe_callB (call_max2 rfl) (by rfl) mmax (by decide +kernel) (pa_cons pe_int (pa_cons (pe_callB call_len_seq (by rfl) X.len PySem.boot_len (pa_cons (pv 0) pa_nil)) pa_nil))) pa_nil)) (pg_name (i := 6) scLaw.nd rfl (Or.inl rfl))
        (pss_cons (ps_if (pt_cmpR op_gt (pv 6) pe_int (nomark _)) (pss_one (ps_set (i := 1) scLaw.nd rfl (Or.inr rfl) (pe_call aS.g (rm (by decide)) rfl aS.m aS.kp aS.b .nil pass0 (pa_cons (pv 0) (pa_cons (pv 6) pa_nil))))) pss_nil)
        (pss_mono (t' := TA K C H) (pss_cons (ps_set (i := 7) scLaw.nd rfl (Or.inl rfl) (pe_call gP (rm (by decide)) rfl mP kP bP .nil pass0 (pa_cons (pv 1) (pa_cons (pe_lst (pa_cons pe_int (pa_cons pe_int (pa_cons pe_int (pa_cons pe_int (pa_cons pe_int (pa_cons pe_int (pa_cons pe_int (pa_cons pe_int (pa_cons pe_int (pa_cons pe_int pa_nil))))))))))) pa_nil))))
        (pss_cons (ps_set (i := 8) scLaw.nd rfl (Or.inl rfl) (pe_call aTp.g (rm (by decide)) rfl aTp.m aTp.kp aTp.b .nil pass0 (pa_cons (pv 1) (pa_cons (pv 2) (pa_cons pe_int (pa_cons
          (pe_call gP (rm (by decide)) rfl mP kP bP .nil pass0 (pa_cons (pv 1) (pa_cons (pe_lst (pa_cons pe_int (pa_cons (pe_op op_pow pe_int pe_int) pa_nil))) pa_nil))) pa_nil))))))
        (pss_cons (ps_set (i := 9) scLaw.nd rfl (Or.inl rfl) (pe_call aTp.g (rm (by decide)) rfl aTp.m aTp.kp aTp.b .nil pass0 (pa_cons (pv 1) (pa_cons (pv 2) (pa_cons pe_int (pa_cons pe_int pa_nil))))))
        (pss_cons (ps_if (pt_cmpR op_gt (pe_callB call_len_seq (by rfl) X.len PySem.boot_len (pa_cons (pe_ix (r := rIxT K) ix_tup (pv 3) pe_int (fun _ _ => rfl)) pa_nil)) pe_int (nomark _)) (pss_one (ps_set (i := 7) scLaw.nd rfl (Or.inl rfl) pe_int)) pss_nil)
        (pss_mono (t' := TB K C H) (pss_cons (ps_set (i := 10) scLaw.nd rfl (Or.inl rfl) (pe_call gP (rm (by decide)) rfl mP kP bP .nil pass0 (pa_cons (pv 1) (pa_cons (pe_lst (pa_cons pe_non (pa_cons pe_bl (pa_cons (pe_un un_neg pe_int) (pa_cons (pe_op op_pow pe_int pe_int)
            (pa_cons pe_str (pa_cons (pe_tup pa_nil) (pa_cons (pe_lst (pa_cons pe_int pa_nil)) (pa_cons (pe_disp (pps_cons pe_int pe_bl pps_nil) (by rfl) (by rfl) (fun z => by cases z) (by decide)) (pa_cons (pe_disp (pps_cons pe_str pe_int pps_nil) (by rfl) (by rfl) (fun z => by cases z) (by decide))
            (pa_cons (pe_op op_sub (pe_op op_pow pe_int pe_int) pe_int) pa_nil))))))))))) pa_nil))))
        (pss_cons (ps_if (pt_cmpR op_eq (pv 7) pe_int (nomark _))
        (pss_cons (ps_set (i := 8) scLaw.nd rfl (Or.inl rfl) (pe_call gP (rm (by decide)) rfl mP kP bP .nil pass0 (pa_cons (pv 1) (pa_cons (pe_lst (pa_cons (pv 8) (pa_cons (pv 8) (pa_cons (pe_ifExp (pt_cmpR op_lt (pe_callB call_len_seq (by rfl) X.len PySem.boot_len (pa_cons (pe_ix (r := rIxT K) ix_tup (pv 3) pe_int (fun _ _ => rfl)) pa_nil)) pe_int (nomark _)) (pv 3) (pv 8)) pa_nil)))) pa_nil))))
        (pss_cons (ps_par (i := 11) (j := 12) (by rfl) scLaw.nd rfl rfl (by decide) rfl rfl (pa_cons (pe_call aG.g (rm (by decide)) rfl aG.m aG.kp aG.b .nil pass0 (pa_cons pe_int (pa_cons (pv 3) (pa_cons (pv 8) pa_nil))))
            (pa_cons (pe_call aA.g (rm (by decide)) rfl aA.m aA.kp aA.b .nil pass0 (pa_cons pe_int (pa_cons (pv 4) (pa_cons (pe_makeN (n := 1) N.y.mak N.g (rm (by decide)) rfl N.y.mgC kb2 pass9 (pa_cons (pe_ix (r := rIxT K) ix_tup (pv 8) pe_int (fun _ _ => rfl)) pa_nil) (pk_cons (pe_ix (r := rIxT K) ix_tup (pv 8) pe_int (fun _ _ => rfl)) pk_nil)) pa_nil)))) pa_nil)) (by rfl))
        (pss_one (ps_if (pt_not (pt_val (pe_call aM.g (rm (by decide)) rfl aM.m aM.kp aM.b .nil pass0 (pa_cons (pe_call aA.g (rm (by decide)) rfl aA.m aA.kp aA.b .nil pass0 (pa_cons pe_int (pa_cons (pv 4) (pa_cons (pv 10) pa_nil)))) (pa_cons pe_str pa_nil))))) (pss_one (ps_ret pe_bl)) pss_nil))))
        (pss_cons (ps_set (i := 13) scLaw.nd rfl (Or.inl rfl) (pe_callTy (call_dictP rfl) (by rfl) mdict (by decide +kernel) (pa_cons (pe_lc (own := [("turn", 16)]) (g := gName 16) (tt := tYes) rfl scLaw.nd (pi_range1 rfl X.range (pa_cons (pe_call aT.g (rm (by decide)) rfl aT.m aT.kp aT.b .nil pass0 (pa_cons (pv 1) (pa_cons pe_int pa_nil))) pa_nil))
              (blkOk_by (N := nLaw) (sc := defScope sLaw) (by decide +kernel)) (fun _ _ _ _ _ => pg_name (i := 16) scLaw.nd rfl (Or.inl rfl)) (fun _ _ _ _ _ => pts_nil)
              (fun _ _ _ _ _ => pe_tup (pa_cons (pe_call aV.g (rm (by decide)) rfl aV.m aV.kp aV.b .nil pass0 (pa_cons (pv 1) pa_nil)) (pa_cons (pe_call aV.g (rm (by decide)) rfl aV.m aV.kp aV.b .nil pass0 (pa_cons (pv 1) pa_nil)) pa_nil)))) pa_nil)))
        (pss_cons (ps_set (i := 14) scLaw.nd rfl (Or.inl rfl) (pe_ix ix_list (pe_lst (pa_cons pe_int (pa_cons (pe_call aT.g (rm (by decide)) rfl aT.m aT.kp aT.b .nil pass0 (pa_cons (pv 1) (pa_cons (pe_call gP (rm (by decide)) rfl mP kP bP .nil pass0 (pa_cons (pv 1) (pa_cons (pe_lst (pa_cons pe_int (pa_cons (pe_op op_pow pe_int pe_int) pa_nil))) pa_nil))) pa_nil)))
              (pa_cons (pe_call aT.g (rm (by decide)) rfl aT.m aT.kp aT.b .nil pass0 (pa_cons (pv 1) (pa_cons (pe_op op_add (pe_ix (r := rIxT K) ix_tup (pv 3) pe_int (fun _ _ => rfl)) pe_int) pa_nil))) (pa_cons (pv 13) pa_nil))))) (pv 7) (fun _ _ => rfl)))
        (pss_cons (ps_set (i := 15) scLaw.nd rfl (Or.inl rfl) (pe_ifExp (pt_cmpR op_eq (pe_call aT.g (rm (by decide)) rfl aT.m aT.kp aT.b .nil pass0 (pa_cons (pv 1) (pa_cons pe_int pa_nil))) pe_int (nomark _)) (pv 10) (pv 14)))
        (pss_one (ps_par (i := 11) (j := 12) (by rfl) scLaw.nd rfl rfl (by decide) rfl rfl (pa_cons (pe_call aG.g (rm (by decide)) rfl aG.m aG.kp aG.b .nil pass0 (pa_cons (pv 7) (pa_cons (pv 3) (pa_cons (pv 15) pa_nil))))
            (pa_cons (pe_call aA.g (rm (by decide)) rfl aA.m aA.kp aA.b .nil pass0 (pa_cons (pv 7) (pa_cons (pv 4) (pa_cons (pv 15) pa_nil)))) pa_nil)) (by rfl)))))))
        (pss_mono (t' := TRest K C H) (pss_cons (ps_if (pt_not (pt_val (pe_call aZ.g (rm (by decide)) rfl aZ.m aZ.kp aZ.b .nil pass0 (pa_cons (pv 12) (pa_cons (pv 11) pa_nil))))) (pss_one (ps_ret pe_bl)) pss_nil)
        (pss_cons (ps_if (PW.pt (pw_and (pt_cmpR op_eq (pe_call aT.g (rm (by decide)) rfl aT.m aT.kp aT.b .nil pass0 (pa_cons (pv 1) (pa_cons pe_int pa_nil))) pe_int (nomark _)) (pw_and1 (pt_not (pt_val (pe_call aW.g (rm (by decide)) rfl aW.m aW.kp aW.b .nil pass0 (pa_cons (pv 1) (pa_cons (pv 3) (pa_cons (pv 4) (pa_cons (pv 8) (pa_cons (pv 9) pa_nil))))))))))) (pss_one (ps_ret pe_bl)) pss_nil)
        (pss_mono (t' := TRest K C H) (pss_cons (ps_if (PW.pt (pw_and (pt_val (pe_isi (N := "tuple") (pv 11) X.isin X.tup)) (pw_and1 (pt_not (pt_val (pe_isi (N := "str") (pe_ix (r := rIxT K) ix_tup (pv 11) pe_int (fun _ _ => rfl)) X.isin X.str))))))
          (pss_cons (ps_par (i := 4) (j := 3) (by rfl) scLaw.nd rfl rfl (by decide) rfl rfl (pa_cons (pv 12) (pa_cons (pv 11) pa_nil)) (by rfl))
          (pss_one (ps_expr (pe_bm PySem.F.plainAttrs_list PySem.F.slot_list_append PySem.F.type_list_append mt_append (pv 5) (pa_cons (pe_tup (pa_cons (pv 4) (pa_cons (pv 3) pa_nil))) pa_nil))))) pss_nil)
        (pss_mono (t' := TL K C H) (pss_one (ps_if (pt_cmpR op_eq (pe_call aT.g (rm (by decide)) rfl aT.m aT.kp aT.b .nil pass0 (pa_cons (pv 1) (pa_cons pe_int pa_nil))) pe_int (nomark _))
          (pss_one (ps_asg (pe_call gP (rm (by decide)) rfl mP kP bP .nil pass0 (pa_cons (pv 1) (pa_cons (pv 5) pa_nil))) (pg_tup rfl (pgs_cons (pg_name (i := 4) scLaw.nd rfl (Or.inl rfl)) (pgs_cons (pg_name (i := 3) scLaw.nd rfl (Or.inl rfl)) pgs_nil))))) pss_nil)) ?last)) ?app))) ?rest))) ?deed))))) ?top)))
        (pss_one (ps_ret (pe_and (pe_callB (cr_all rfl) (by rfl) X.all (by decide +kernel) (pa_cons (pe_lc (own := [("one", 17), ("two", 18)]) (g := gTup K 2 (gCons (gName 17) (gCons (gName 18) gNil))) (tt := tYes) rfl scLaw.nd (pi_list (pv 5))
          (blkOk_by (N := nLaw) (sc := defScope sLaw) (by decide +kernel)) (fun _ _ _ _ _ => pg_tup rfl (pgs_cons (pg_name (i := 17) scLaw.nd rfl (Or.inl rfl)) (pgs_cons (pg_name (i := 18) scLaw.nd rfl (Or.inl rfl)) pgs_nil))) (fun _ _ _ _ _ => pts_nil)
          (fun _ _ _ _ _ => pe_call aQ.g (rm (by decide)) rfl aQ.m aQ.kp aQ.b .nil pass0 (pa_cons (pv 17) (pa_cons (pv 18) pa_nil)))) pa_nil))
        (pe_one (pe_call aD.g (rm (by decide)) rfl aD.m aD.kp aD.b .nil pass0 (pa_cons (pv 1) pa_nil)))))))))))), ?_⟩
    case last =>
      rintro D σ H1 ⟨S', d, HL, m, m90, ⟨B, a, p, es, k, v6, v7, v8, v9, v10, v11, v12, v13, v14, v15, v16, v17, v18, rfl, L⟩, kn⟩
      refine ⟨_, rfl, B, 6, rfl, L.bag, by decide, by decide +kernel, fun r H2 r0 r1 s2 b2 => ?_⟩
      have L2 := L.sb s2 b2
      refine ⟨rfl, _, rfl, ite2 (fun _ => ?_) (fun _ => kn _ H2 ⟨B, a, p, es, k, v6, v7, v8, v9, v10, v11, v12, v13, v14, v15, v16, v17, v18, rfl, L2⟩)⟩
      obtain ⟨xs, hx, x1, xm, hv⟩ := L2.held
      refine ⟨_, rfl, _, rfl, B, HL, xs, rfl, L2.bag, L2.ne.symm, hx, by omega, by omega, fun y H3 hy s3 b3 => ?_⟩
      have L3 := L2.sb s3 b3
      obtain ⟨z, a', p', es', k', rfl, hz, ta', pa', g', f'⟩ := (hv y hy).mono (Kp.sb b2 s3)
      refine ⟨z, _, rfl, SqT.of hz, rfl, _, _, rfl, _, _, rfl, rfl, ?_⟩
      exact kn _ H3 ⟨B, a', p', es', k', v6, v7, v8, v9, v10, v11, v12, v13, v14, v15, v16, v17, v18, rfl, ⟨L3.s0, L3.nB, L3.nL, L3.bag, L3.lay, L3.held, ta', pa', g', f'⟩⟩
    case app =>
      rintro D σ H1 ⟨S', d, HL, n, B, a, p, q, r, es, k, fs, j, gs, l, u, v, y, o, v6, v7, v10, v13, v14, v15, v16, v17, v18, n80, rfl, L, pq, gf, ff, pr, gg, fg, an, du, tp, nm, kn⟩
      have nxt : LSt K C H H1 B d HL a p (n + 1) es k := ⟨L.s0, L.nB, L.nL, L.bag, L.lay, let ⟨xs, h1, h2, h3, h4⟩ := L.held; ⟨xs, h1, h2, by omega, h4⟩, L.tape, L.plain, L.good, L.few⟩
      cases o with
      | tp es' k' =>
        obtain ⟨a', rfl, ta'⟩ := an
        obtain ⟨p', rfl, pa'⟩ := du
        obtain ⟨t, hp, xs, ts, px⟩ := id pa'
        obtain ⟨g', f'⟩ := tp _ _ rfl
        refine ⟨_, rfl, true, isi_ty (.base (.tup hp)) (by decide), _, rfl, iteT ⟨_, rfl, p', _, _, _, rfl, rfl, SqT.of hp, atI_nat (j := 0) rfl, false, isi_ty ts.ty (by decide), _, rfl, iteT ?_⟩⟩
        refine ⟨_, rfl, _, rfl, _, _, rfl, ?_⟩
        obtain ⟨hs, hh, h1, hn, hv⟩ := L.held
        refine ⟨_, rfl, .inl ⟨rfl, _, SqL.of hh⟩, _, rfl, _, rfl, (by show 2 ≤ sizeLine; decide), fun z hz => ?_⟩
        have nz : HL ≠ z := ne_of_none hh hz
        have s1 : Same H1 (upd H1 z (.tup [.ref a', .ref p'])) := fresh hz
        have ez : (upd H1 z (.tup [.ref a', .ref p'])) z = some (.tup [.ref a', .ref p']) := upd_same
        have eh := s1 _ _ hh
        have b1 := L.bag.new (o := .tup [.ref a', .ref p']) hz
        generalize upd H1 z (.tup [.ref a', .ref p']) = H2 at s1 ez eh b1 ⊢
        refine ⟨HL, hs, _, rfl, rfl, eh, small1000 (by omega), ?_⟩
        have kp := (Kp.of s1).trans (kp_lst (ys := hs ++ [.ref z]) eh)
        obtain ⟨kvs, hd, _⟩ := id L.lay
        have ndL : d ≠ HL := fun e => by
          rw [e, hh] at hd
          cases hd
        refine ⟨S', d, HL, n + 1, by omega, ⟨B, a', p', es', k', v6, v7, _, _, v10, _, _, v13, v14, v15, v16, v17, v18, rfl, ⟨fun b o e => ?_, L.nB, L.nL, b1.other L.ne.symm, L.lay.mono kp ((upd_ne ndL).trans ((s1 _ _ hd).trans hd.symm)), ⟨_, upd_same, ?_, ?_, fun x hx => ?_⟩, ta'.mono kp, pa'.mono kp, g', f'⟩⟩, kn⟩
        · rw [upd_ne (ne_of_none e L.nL)]
          exact s1 _ _ (L.s0 _ _ e)
        · rw [List.length_append]
          omega
        · rw [List.length_append]
          show hs.length + 1 ≤ n + 1
          omega
        · rcases List.mem_append.mp hx with h | h
          · exact (hv x h).mono kp
          · rw [List.mem_singleton.mp h]
            exact ⟨z, a', p', es', k', rfl, (kp_lst (ys := hs ++ [.ref z]) eh).1 _ _ ez, ta'.mono kp, pa'.mono kp, g', f'⟩
      | num =>
        obtain ⟨p1, rfl, h1⟩ := an
        obtain ⟨p2, rfl, h2⟩ := du
        exact ⟨_, rfl, true, isi_ty (.base (.tup h2)) (by decide), _, rfl, iteT ⟨_, rfl, p2, _, _, _, rfl, rfl, SqT.of h2, atI_nat (j := 0) rfl, true, isi_ty (.base (.str _)) (by decide), _, rfl, iteF ⟨S', d, HL, n + 1, by omega, ⟨B, a, p, es, k, v6, v7, _, _, v10, _, _, v13, v14, v15, v16, v17, v18, rfl, nxt⟩, kn⟩⟩⟩
      | word z =>
        have e2 : u = .str z := du
        subst e2
        exact ⟨_, rfl, false, isi_ty (.base (.str _)) (by decide), _, rfl, iteF ⟨S', d, HL, n + 1, by omega, ⟨B, a, p, es, k, v6, v7, _, _, v10, _, _, v13, v14, v15, v16, v17, v18, rfl, nxt⟩, kn⟩⟩
    case rest =>
      rintro D σ H1 ⟨S', d, HL, n, B, a, p, q, r, es, k, fs, j, gs, l, u, v, y, o, v6, v7, v10, v13, v14, v15, v16, v17, v18, n80, rfl, L, pq, gf, ff, pr, gg, fg, an, du, tp, nm, kn⟩
      refine ⟨_, rfl, _, rfl, v, u, y, o, rfl, an, du, fun es k e => Nat.le_trans (tp es k e).2 (by decide), nm, fun H2 s2 => ⟨true, rfl, iteF ?_⟩⟩
      have L2 := L.same s2
      refine ⟨_, rfl, B, 3, rfl, L2.bag, by decide, by decide +kernel, fun r' H3 r0 r1 s3 b3 => ?_⟩
      have L3 := L2.sb s3 b3
      have kp3 := (Kp.of s2).trans (Kp.sb L2.bag s3)
      have few := L.few
      have back : ∀ H', SB B H3 H' → BagAt H' B → TRest K C H D (Lσ S' B d p a HL v6 v7 (some (.ref q)) (some (.ref r)) v10 (some u) (some v) v13 v14 v15 v16 v17 v18) H' := fun H' s b =>
        have kp := kp3.trans (Kp.sb b3 s)
        ⟨S', d, HL, n, B, a, p, q, r, es, k, fs, j, gs, l, u, v, y, o, v6, v7, v10, v13, v14, v15, v16, v17, v18, n80, rfl, L3.sb s b, pq.mono kp, gf, ff, pr.mono kp, gg, fg, an.mono kp, du.mono kp, tp, fun e => (nm e).sb L.bag ((SB.of s2).trans (s3.trans s)), kn⟩
      refine ⟨rfl, _, rfl, ite2 (fun _ => ?_) (fun _ => back H3 (SB.refl _ _) b3)⟩
      exact ⟨_, rfl, _, rfl, _, rfl, _, rfl, _, rfl, B, p, a, q, r, es, fs, gs, k, j, l, rfl, L3.bag, L3.plain, L3.tape, L3.good, pq.mono kp3, gf, pr.mono kp3, gg, by omega, fun H4 s4 b4 => ⟨true, rfl, iteF (back H4 s4 b4)⟩⟩
    case top =>
      rintro D σ H1 ⟨S', d, HL, n, n80, ⟨B, a, p, es, k, v6, v7, v8, v9, v10, v11, v12, v13, v14, v15, v16, v17, v18, rfl, L⟩, kn⟩
      have big : ∀ z : Addr, H1 z = none → ∀ ys : List V, LSt K C H (upd H1 z (.lst ys)) B d HL a p n es k := fun z hz ys => L.same (fresh hz)
      refine ⟨_, rfl, (by show 10 ≤ sizeLine; decide), fun z hz => ?_⟩
      have L1 := big z hz [.int 0, .int 0, .int 0, .int 1, .int 2, .int 3, .int 0, .int 1, .int 2, .int 3]
      refine ⟨B, z, _, rfl, L1.bag, (L.bag.ne hz).symm, upd_same, by decide, by decide, fun y H2 hy s2 b2 => ?_⟩
      obtain ⟨way, rfl, w3⟩ : ∃ way : Nat, y = .int way ∧ way ≤ 3 := by
        simp only [List.mem_cons, List.not_mem_nil, or_false] at hy
        rcases hy with h | h | h | h | h | h | h | h | h | h
        · exact ⟨0, h, by decide⟩
        · exact ⟨0, h, by decide⟩
        · exact ⟨0, h, by decide⟩
        · exact ⟨1, h, by decide⟩
        · exact ⟨2, h, by decide⟩
        · exact ⟨3, h, by decide⟩
        · exact ⟨0, h, by decide⟩
        · exact ⟨1, h, by decide⟩
        · exact ⟨2, h, by decide⟩
        · exact ⟨3, h, by decide⟩
      have L2 := L1.sb s2 b2
      refine ⟨_, rfl, _, rfl, _, rfl, _, _, rfl, rfl, ⟨by decide, by decide, by decide⟩, (by show 2 ≤ sizeLine; decide), fun z2 hz2 => ?_⟩
      have s3 : Same H2 (upd H2 z2 (.lst [.int 3, .int (10 ^ (58 : Int).toNat)])) := fresh hz2
      have L3 := L2.same s3
      refine ⟨B, z2, _, rfl, L3.bag, (L2.bag.ne hz2).symm, upd_same, by decide, by decide, fun y H3 hy3 s4 b4 => ?_⟩
      obtain ⟨gap, rfl, gp1, gp58⟩ : ∃ gap : Int, y = .int gap ∧ 1 ≤ gap ∧ gap ≤ 10 ^ 58 := by
        simp only [List.mem_cons, List.not_mem_nil, or_false] at hy3
        rcases hy3 with h | h
        · exact ⟨3, h, by decide, by decide +kernel⟩
        · exact ⟨_, h, by decide +kernel, Int.le_refl _⟩
      have L4 := L3.sb s4 b4
      refine ⟨B, d, 3, gap, rfl, L4.bag, L4.lay, by decide, by decide, gp1, gp58, fun q fs j H4 pq gf ff _ s5 b5 => ?_⟩
      have L5 := L4.sb s5 b5
      refine ⟨_, rfl, _, rfl, B, d, 3, 9, rfl, L5.bag, L5.lay, by decide, by decide, by decide, by decide +kernel, fun r gs l H5 pr gg fg _ s6 b6 => ?_⟩
      have L6 := L5.sb s6 b6
      have pq := pq.mono (Kp.sb L5.bag s6)
      obtain ⟨t, hp, xs, ts, px⟩ := id L6.plain
      have lx := px.length
      refine ⟨_, rfl, p, _, _, _, rfl, rfl, SqT.of hp, atI_nat (j := 0) rfl, t, xs, rfl, .inr ts.sq, _, _, rfl, rfl, _, rfl, ite2 (fun c => ?_) (fun c => ?_)⟩
      · exact ⟨S', d, HL, n, B, a, p, es, k, q, fs, j, r, gs, l, 2, v6, v10, v11, v12, v13, v14, v15, v16, v17, v18, n80, rfl, L6, pq, gf, by omega, pr, gg, by omega, by decide, fun _ => rfl, kn⟩
      · have c' : ¬ (xs.length : Int) > 14 := fun h => c (decide_eq_true h)
        exact ⟨S', d, HL, n, B, a, p, es, k, q, fs, j, r, gs, l, way, v6, v10, v11, v12, v13, v14, v15, v16, v17, v18, n80, rfl, L6, pq, gf, by omega, pr, gg, by omega, w3, fun h => by omega, kn⟩
    case deed =>
      rintro D σ H1 ⟨S', d, HL, n, B, a, p, es, k, q, fs, j, r, gs, l, way, v6, v10, v11, v12, v13, v14, v15, v16, v17, v18, n80, rfl, L, pq, gf, ff, pr, gg, fg, w3, w14, kn⟩
      refine ⟨_, rfl, _, rfl, _, _, rfl, rfl, ⟨by decide, by decide, by decide⟩, (by show 0 ≤ sizeLine; decide), fun z1 hz1 => ?_⟩
      have s1 : Same H1 (upd H1 z1 (.tup [])) := fresh hz1
      have e1 : (upd H1 z1 (.tup [])) z1 = some (.tup []) := upd_same
      generalize upd H1 z1 (.tup []) = Ha at s1 e1 ⊢
      refine ⟨(by show 1 ≤ sizeLine; decide), fun z2 hz2 => ?_⟩
      have s2 : Same Ha (upd Ha z2 (.lst [.int 0])) := fresh hz2
      have e2 : (upd Ha z2 (.lst [.int 0])) z2 = some (.lst [.int 0]) := upd_same
      generalize upd Ha z2 (.lst [.int 0]) = Hb at s2 e2 ⊢
      refine fun z3 hz3 => ⟨upd_same, [(.inl 1, .bl true)], rfl, (by show 1 ≤ 15; decide), ?_⟩
      have s3 : Same Hb (upd (upd Hb z3 (.dK [])) z3 (.dK (mergeK [] [(.inl 1, .bl true)]))) := fun b o e => by
        rw [upd_ne (ne_of_none e hz3), upd_ne (ne_of_none e hz3)]
        exact e
      have e3 : (upd (upd Hb z3 (.dK [])) z3 (.dK (mergeK [] [(.inl 1, .bl true)]))) z3 = some (.dK [(.inl 1, .bl true)]) := upd_same
      generalize upd (upd Hb z3 (.dK [])) z3 (.dK (mergeK [] [(.inl 1, .bl true)])) = Hc at s3 e3 ⊢
      refine fun z4 hz4 => ⟨upd_same, [(.inr "a", .int 1)], rfl, (by show 1 ≤ 15; decide), ?_⟩
      have s4 : Same Hc (upd (upd Hc z4 (.dK [])) z4 (.dK (mergeK [] [(.inr "a", .int 1)]))) := fun b o e => by
        rw [upd_ne (ne_of_none e hz4), upd_ne (ne_of_none e hz4)]
        exact e
      have e4 : (upd (upd Hc z4 (.dK [])) z4 (.dK (mergeK [] [(.inr "a", .int 1)]))) z4 = some (.dK [(.inr "a", .int 1)]) := upd_same
      generalize upd (upd Hc z4 (.dK [])) z4 (.dK (mergeK [] [(.inr "a", .int 1)])) = Hd at s4 e4 ⊢
      refine ⟨_, _, rfl, rfl, ⟨by decide, by decide, by decide⟩, _, _, rfl, rfl, (by show 10 ≤ sizeLine; decide), fun z5 hz5 => ?_⟩
      have s14 := ((s1.trans s2).trans s3).trans s4
      have La := L.same s14
      refine ⟨B, z5, _, rfl, La.bag.new hz5, (La.bag.ne hz5).symm, upd_same, (by show 0 < 10; decide), (by show 10 ≤ 100; decide), fun yo H2 hy s6 b6 => ?_⟩
      have s6' : SB B Hd H2 := fun b o n e => s6 b o n (by rw [upd_ne (ne_of_none e hz5)]; exact e)
      have fl0 : Flatd Hd yo := by
        simp only [List.mem_cons, List.not_mem_nil, or_false] at hy
        rcases hy with h | h | h | h | h | h | h | h | h | h
        · exact .inr (.inl h)
        · exact .inr (.inr (.inl h))
        · exact .inl ⟨_, h⟩
        · exact .inl ⟨_, h⟩
        · exact .inr (.inr (.inr (.inl h)))
        · exact .inr (.inr (.inr (.inr (.inl ⟨z1, h, s4 _ _ (s3 _ _ (s2 _ _ e1))⟩))))
        · exact .inr (.inr (.inr (.inr (.inr (.inl ⟨z2, h, s4 _ _ (s3 _ _ e2)⟩)))))
        · exact .inr (.inr (.inr (.inr (.inr (.inr (.inl ⟨z3, h, s4 _ _ e3⟩))))))
        · exact .inr (.inr (.inr (.inr (.inr (.inr (.inr ⟨z4, h, e4⟩))))))
        · exact .inl ⟨_, h⟩
      have fl : Flatd H2 yo := fl0.sb La.bag s6'
      have L6 := La.sb s6' b6
      have kp6 := (Kp.of s14).trans (Kp.sb La.bag s6')
      have pq := pq.mono kp6
      have pr := pr.mono kp6
      clear hy e1 e2 e3 e4 s1 s2 s3 s4 fl0
      have odd0 : ∃ opd, (∀ way H', Flatd H' yo → OpdAt K C H' es way yo opd) ∧ (∀ way, 1 ≤ way → ∀ H', Flatd H' yo → DOpd K H' es way yo opd) ∧ OpdOk es opd ∧ outcome es k 0 opd = .word "operation" := by
        by_cases hi : ∃ i, yo = .int i
        · obtain ⟨i, e⟩ := hi
          exact ⟨.int i, fun _ _ _ => e, fun _ w _ _ => ⟨w, e⟩, trivial, rfl⟩
        · exact ⟨.odd, fun _ _ h => h.elim (fun h => (hi h).elim) id, fun _ w _ h => ⟨w, h.elim (fun h => (hi h).elim) id⟩, trivial, rfl⟩
      obtain ⟨opdO, oA1, oD1, oOk, oW⟩ := odd0
      have fL := L.few
      refine ⟨_, rfl, rfl, _, rfl, ite2 (fun c => ?_) (fun c => ?_)⟩
      · obtain rfl : way = 0 := by
          have := of_decide_eq_true c
          injection this with this
          omega
        have es14 : es.length ≤ 14 := Nat.le_of_not_lt fun h => nomatch w14 h
        obtain ⟨t, hp, xs, ts, px⟩ := id L6.plain
        have lx := px.length
        refine ⟨_, rfl, _, rfl, _, rfl, _, rfl, p, _, _, _, rfl, rfl, SqT.of hp, atI_nat (j := 0) rfl, t, xs, rfl, .inr ts.sq, _, _, rfl, rfl, _, rfl, ite2 (fun c8 => ⟨_, rfl, ?_⟩) (fun c8 => ⟨_, rfl, ?_⟩)⟩
        all_goals
          have c8' : decide ((xs.length : Int) < 8) = true ∨ True := .inr trivial
          refine ⟨(by show 3 ≤ sizeLine; decide), fun z6 hz6 => ?_⟩
          refine ⟨B, z6, _, rfl, L6.bag.new hz6, (L6.bag.ne hz6).symm, upd_same, (by show 0 < 3; decide), (by show 3 ≤ 100; decide), fun y H3 hy s7 b7 => ?_⟩
          have s7' : SB B H2 H3 := fun b o n e => s7 b o n (by rw [upd_ne (ne_of_none e hz6)]; exact e)
          have L7 := L6.sb s7' b7
          have kp7 := Kp.sb L6.bag s7'
          obtain ⟨q2, f2, j2, rfl, pq2, gf2, few2, few20⟩ : ∃ q2 f2 j2, y = .ref q2 ∧ PlainAt K H3 q2 f2 j2 ∧ Good f2 j2 ∧ f2.length ≤ 20 ∧ es.length + f2.length ≤ 20 := by
            simp only [List.mem_cons, List.not_mem_nil, or_false] at hy
            rcases hy with h | h | h
            · exact ⟨q, fs, j, h, pq.mono kp7, gf, by omega, by omega⟩
            · exact ⟨q, fs, j, h, pq.mono kp7, gf, by omega, by omega⟩
            · first
                | exact ⟨q, fs, j, h, pq.mono kp7, gf, by omega, by omega⟩
                | (have c9 : (xs.length : Int) < 8 := of_decide_eq_true c8
                   exact ⟨p, es, k, h, L7.plain, L7.good, by omega, by omega⟩)
          refine ⟨_, rfl, _, rfl, 0, p, .ref q2, es, k, .tape f2 j2, rfl, by decide, L7.plain, L7.good, ⟨rfl, q2, rfl, pq2, gf2, by omega⟩, fun u H4 s8 du => ?_⟩
          have L8 := L7.same s8
          have pq3 := pq2.mono (Kp.of s8)
          obtain ⟨tq, hq, evq⟩ := id pq3
          refine ⟨_, rfl, _, rfl, q2, _, _, _, rfl, rfl, SqT.of hq, atI_nat (j := 0) rfl, _, rfl, q2, _, _, _, rfl, rfl, SqT.of hq, atI_nat (j := 1) rfl, rfl, rfl, fun x1 d1 hx1 hd1 ne1 => ?_⟩
          refine new_goodX hx1 hd1 ne1 evq gf2 fun H5 s9 t9 => ⟨rfl, ?_⟩
          have L9 := L8.same s9
          refine ⟨0, a, .ref x1, es, k, .tape f2 j2, rfl, by decide, L9.tape, L9.good, ⟨rfl, x1, rfl, t9, gf2, by omega⟩, fun v H6 s10 an => ?_⟩
          refine ⟨_, _, rfl, ?_⟩
          have L10 := L9.same s10
          have flX : Flatd H6 yo := fl.sb L6.bag (s7'.trans (SB.of ((s8.trans s9).trans s10)))
          refine ⟨_, rfl, _, rfl, 0, a, yo, es, k, opdO, rfl, by decide, L10.tape, L10.good, oA1 _ _ flX, fun v2 H7 s11 an2 => ?_⟩
          rw [oW] at an2
          have ev2 : v2 = .str "operation" := an2
          subst ev2
          refine ⟨_, _, rfl, .sc (.inr (.inr (.inr ⟨_, rfl⟩))), fun H8 s12 => ⟨true, rfl, iteF ?_⟩⟩
          have sX := s11.trans s12
          have L12 := L10.same sX
          exact ⟨S', d, HL, n, B, a, p, q2, r, es, k, f2, j2, gs, l, u, v, .ref q2, outcome es k 0 (.tape f2 j2), v6, _, _, v13, v14, v15, v16, v17, v18, n80, rfl, L12, pq3.mono (Kp.of ((s9.trans s10).trans sX)), gf2, few2, pr.mono (kp7.trans (Kp.of (((s8.trans s9).trans s10).trans sX))), gg, by omega,
            (an.any (out_num0 _ _ _)).mono (Kp.of sX), du.mono (Kp.of ((s9.trans s10).trans sX)), out_good L.good fL 0 (.tape f2 j2) ⟨gf2, few20⟩, fun e => (out_num0 _ _ _ e).elim, kn⟩
      · have w1 : 1 ≤ way := by
          rcases Nat.eq_zero_or_pos way with e | e
          · subst e
            exact (c rfl).elim
          · exact e
        refine ⟨_, rfl, B, 3, rfl, L6.bag, by decide, by decide +kernel, fun r' H3 r0 r1 s7 b7 => ⟨_, rfl, by omega, by omega, fun D1 hD1 => ?_⟩⟩
        have L7 := L6.sb s7 b7
        have nDB : D1 ≠ B := b7.ne hD1
        refine lc_range (lo := 0) (n := r'.toNat) (fun i H' => SB B H3 H' ∧ BagAt H' B ∧ ∃ (ps : List Addr) (kvs : List (Key × V)), ps.length = i ∧ kvs.length = i ∧ H' D1 = some (.lst (ps.map V.ref)) ∧ Paired (fun z kv => H' z = some (.tup [kV kv.1, kv.2])) ps kvs ∧ ∀ kv ∈ kvs, IntKV kv)
          ⟨(SB.refl _ _).new hD1, b7.new hD1, [], [], rfl, rfl, upd_same, .nil, (fun p h => nomatch h)⟩ ?_ ?_
        · rintro i H' hi ⟨sb, bg, ps, kvs, l1, l2, hD', pr', iv⟩
          refine ⟨rfl, _, rfl, B, rfl, bg, fun x1 G1 x10 x11 t1 c1 => ⟨_, rfl, B, rfl, c1, fun x2 G2 x20 x21 t2 c2 => ⟨(by show 2 ≤ sizeLine; decide), fun z hz => ?_⟩⟩⟩
          have t12 := t1.trans t2
          have hD2 := t12 _ _ nDB hD'
          have nzD : D1 ≠ z := ne_of_none hD2 hz
          have kpa : Kp H' (upd (upd G2 z (.tup [.int x1, .int x2])) D1 (.lst (ps.map V.ref ++ [.ref z]))) := (Kp.sb bg t12).trans ((Kp.of (fresh hz)).trans (kp_lst ((upd_ne nzD).trans hD2)))
          refine ⟨_, (upd_ne nzD).trans hD2, by rw [List.length_map, l1]; exact small1000 (by omega), ((sb.trans t12).new hz).own hD1, (c2.new hz).other nDB.symm, ps ++ [z], kvs ++ [(.inl x1, .int x2)], by simp [l1], by simp [l2], ?_, ?_, fun kv hkv => ?_⟩
          · rw [upd_same, List.map_append]
            rfl
          · refine Paired.snoc (Paired.mono (fun _ _ h => kpa.1 _ _ h) pr') ?_
            rw [upd_ne (Ne.symm nzD)]
            exact upd_same
          · rcases List.mem_append.mp hkv with h | h
            · exact iv kv h
            · rw [List.mem_singleton.mp h]
              exact ⟨⟨x1, rfl, x10, x11⟩, ⟨x2, rfl, x20, x21⟩⟩
        · rintro H4 ⟨sb4, bg4, ps, kvs, l1, l2, hD4, pr', iv⟩
          obtain ⟨m1, m2, m3⟩ := merge_ok kvs [] List.nodup_nil (fun p h => nomatch h) iv
          have m1' : (mergeK [] kvs).length ≤ 100 := by
            have : (mergeK [] kvs).length ≤ 0 + kvs.length := m1
            omega
          have L8 := L7.sb sb4 bg4
          refine ⟨D1, ps, kvs, rfl, SqL.of hD4, Paired.mono (fun _ _ h => SqT.of h) pr', fun T0 hT0 => ?_⟩
          have s9 : Same H4 (upd H4 T0 (.dK (mergeK [] kvs))) := fresh hT0
          have eT : (upd H4 T0 (.dK (mergeK [] kvs))) T0 = some (.dK (mergeK [] kvs)) := upd_same
          have nTB : T0 ≠ B := bg4.ne hT0
          generalize mergeK [] kvs = tk at m1 m1' m2 m3 s9 eT ⊢
          generalize upd H4 T0 (.dK tk) = H5 at s9 eT ⊢
          have L9 := L8.same s9
          refine ⟨_, rfl, _, rfl, _, _, rfl, rfl, ⟨by decide, by decide, by decide⟩, (by show 2 ≤ sizeLine; decide), fun z7 hz7 => ?_⟩
          refine ⟨B, z7, _, rfl, L9.bag.new hz7, (L9.bag.ne hz7).symm, upd_same, (by show 0 < 2; decide), (by show 2 ≤ 100; decide), fun y7 H6 hy7 s10 b10 => ?_⟩
          obtain ⟨gap, rfl, gp1, gp59⟩ : ∃ gap : Int, y7 = .int gap ∧ 0 < gap ∧ gap ≤ ten61 := by
            simp only [List.mem_cons, List.not_mem_nil, or_false] at hy7
            rcases hy7 with h | h
            · exact ⟨9, h, by decide, by decide +kernel⟩
            · exact ⟨_, h, by decide +kernel, by decide +kernel⟩
          have s10' : SB B H5 H6 := fun b o n e => s10 b o n (by rw [upd_ne (ne_of_none e hz7)]; exact e)
          have L10 := L9.sb s10' b10
          refine ⟨B, gap, rfl, L10.bag, gp1, gp59, fun i1 H7 i10 i11 s11 b11 => ?_⟩
          have L11 := L10.sb s11 b11
          obtain ⟨tp, hp, xs, ts, px⟩ := id L11.plain
          have k0 := L.good.lastN
          have k60 := L.good.hi
          have t61 : ten60 + 2 ≤ ten61 := by decide +kernel
          refine ⟨_, rfl, _, rfl, p, _, _, _, rfl, rfl, SqT.of hp, atI_nat (j := 1) rfl, _, _, rfl, rfl, B, _, rfl, L11.bag, by omega, by omega, fun i2 H8 i20 i21 s12 b12 => ?_⟩
          have L12 := L11.sb s12 b12
          refine ⟨_, rfl, (by show 4 ≤ sizeLine; decide), fun z8 hz8 => ?_⟩
          have s13 : Same H8 (upd H8 z8 (.lst [.int 0, .int i1, .int i2, .ref T0])) := fresh hz8
          have e8 : (upd H8 z8 (.lst [.int 0, .int i1, .int i2, .ref T0])) z8 = some (.lst [.int 0, .int i1, .int i2, .ref T0]) := upd_same
          generalize upd H8 z8 (.lst [.int 0, .int i1, .int i2, .ref T0]) = H9 at s13 e8 ⊢
          have L13 := L12.same s13
          obtain ⟨sv, hsv, hsvc⟩ : ∃ sv, [V.int 0, .int i1, .int i2, .ref T0][way]? = some sv ∧ ((way = 1 ∧ sv = .int i1) ∨ (way = 2 ∧ sv = .int i2) ∨ (way = 3 ∧ sv = .ref T0)) := by
            match way, w1, w3 with
            | 1, _, _ => exact ⟨_, rfl, .inl ⟨rfl, rfl⟩⟩
            | 2, _, _ => exact ⟨_, rfl, .inr (.inl ⟨rfl, rfl⟩)⟩
            | 3, _, _ => exact ⟨_, rfl, .inr (.inr ⟨rfl, rfl⟩)⟩
          refine ⟨_, rfl, z8, _, _, sv, rfl, rfl, SqL.of e8, atI_nat hsv, ?_⟩
          refine ⟨_, rfl, B, 5, rfl, L13.bag, by decide, by decide +kernel, fun r5 H10 _ _ s14' b14 => ?_⟩
          have L14 := L13.sb s14' b14
          have sb5 : SB B H5 H10 := s10'.trans (s11.trans (s12.trans ((SB.of s13).trans s14')))
          have sbAll : SB B H2 H10 := s7.trans (sb4.trans ((SB.of s9).trans sb5))
          have kpAll := Kp.sb L6.bag sbAll
          have eT10 := sb5 _ _ nTB eT
          have flX : Flatd H10 yo := fl.sb L6.bag sbAll
          have pk1 : ∃ opd, (∀ H', Same H10 H' → OpdAt K C H' es way yo opd) ∧ (∀ H', Same H10 H' → DOpd K H' es way yo opd) ∧ OpdOk es opd ∧ (outcome es k way opd = .num → Flatd H10 yo) :=
            ⟨opdO, fun H' s => oA1 _ _ (flX.sb L14.bag (SB.of s)), fun H' s => oD1 way w1 _ (flX.sb L14.bag (SB.of s)), oOk, fun _ => flX⟩
          have pk2 : ∃ opd, (∀ H', Same H10 H' → OpdAt K C H' es way sv opd) ∧ (∀ H', Same H10 H' → DOpd K H' es way sv opd) ∧ OpdOk es opd ∧ (outcome es k way opd = .num → Flatd H10 sv) := by
            rcases hsvc with ⟨_, e⟩ | ⟨_, e⟩ | ⟨e3, e⟩
            · exact ⟨.int i1, fun _ _ => e, fun _ _ => ⟨w1, e⟩, trivial, fun _ => .inl ⟨i1, e⟩⟩
            · exact ⟨.int i2, fun _ _ => e, fun _ _ => ⟨w1, e⟩, trivial, fun _ => .inl ⟨i2, e⟩⟩
            · subst e3
              exact ⟨.tab tk, fun H' s => ⟨rfl, T0, e, s _ _ eT10, m1', m2, m3⟩, fun H' s => ⟨rfl, T0, e, s _ _ eT10, m1', m2, m3⟩, m3, fun e => (out_num3 es k (.tab tk) 0 e).elim⟩
          refine ⟨rfl, _, rfl, ite2 (fun c5 => ⟨_, rfl, ?_⟩) (fun c5 => ⟨_, rfl, ?_⟩)⟩
          ·
            obtain ⟨opd, o1, o2, o3, o4⟩ := pk1
            refine ⟨_, rfl, _, rfl, _, rfl, way, p, yo, es, k, opd, rfl, w3, L14.plain, L14.good, o2 _ (Same.refl _), fun u H11 s15 du => ?_⟩
            have L15 := L14.same s15
            refine ⟨_, rfl, _, rfl, _, rfl, way, a, yo, es, k, opd, rfl, w3, L15.tape, L15.good, o1 _ s15, fun v H12 s16 an => ?_⟩
            refine ⟨_, _, rfl, ?_⟩
            have s56 := s15.trans s16
            exact ⟨S', d, HL, n, B, a, p, q, r, es, k, fs, j, gs, l, u, v, yo, outcome es k way opd, v6, _, _, _, _, _, _, _, _, n80, rfl, L14.same s56, pq.mono (kpAll.trans (Kp.of s56)), gf, by omega, pr.mono (kpAll.trans (Kp.of s56)), gg, by omega,
              an, du.mono (Kp.of s16), out_good L.good fL way opd o3, fun e => (o4 e).sb L14.bag (SB.of s56), kn⟩
          ·
            obtain ⟨opd, o1, o2, o3, o4⟩ := pk2
            refine ⟨_, rfl, _, rfl, _, rfl, way, p, sv, es, k, opd, rfl, w3, L14.plain, L14.good, o2 _ (Same.refl _), fun u H11 s15 du => ?_⟩
            have L15 := L14.same s15
            refine ⟨_, rfl, _, rfl, _, rfl, way, a, sv, es, k, opd, rfl, w3, L15.tape, L15.good, o1 _ s15, fun v H12 s16 an => ?_⟩
            refine ⟨_, _, rfl, ?_⟩
            have s56 := s15.trans s16
            exact ⟨S', d, HL, n, B, a, p, q, r, es, k, fs, j, gs, l, u, v, sv, outcome es k way opd, v6, _, _, _, _, _, _, _, _, n80, rfl, L14.same s56, pq.mono (kpAll.trans (Kp.of s56)), gf, by omega, pr.mono (kpAll.trans (Kp.of s56)), gg, by omega,
              an, du.mono (Kp.of s16), out_good L.good fL way opd o3, fun e => (o4 e).sb L14.bag (SB.of s56), kn⟩
    refine ⟨_, rfl, S, ns, 0, rfl, hS, fun H1 B s1 hB b1 => ?_⟩
    refine ⟨_, rfl, B, 3, 3, rfl, b1, by decide, by decide, by decide, by decide, fun d H2 nd lay s2 b2 => ?_⟩
    have lay2 := lay.lay
    have sH2 : Same H H2 := fun b o e => s2 _ _ (ne_of_none e hB) (s1 _ _ e)
    refine ⟨_, rfl, _, rfl, _, rfl, _, _, rfl, rfl, ⟨by decide, by decide, by decide⟩, (by show 2 ≤ sizeLine; decide), fun z2 hz2 => ?_⟩
    refine ⟨B, z2, _, rfl, b2.new hz2, (b2.ne hz2).symm, upd_same, by decide, by decide, fun y H3 hy3 s4 b4 => ?_⟩
    obtain ⟨gap, rfl, gp1, gp58⟩ : ∃ gap : Int, y = .int gap ∧ 1 ≤ gap ∧ gap ≤ 10 ^ 58 := by
      simp only [List.mem_cons, List.not_mem_nil, or_false] at hy3
      rcases hy3 with h | h
      · exact ⟨3, h, by decide, by decide +kernel⟩
      · exact ⟨_, h, by decide +kernel, Int.le_refl _⟩
    have s4' : SB B H2 H3 := fun b o n e => s4 b o n (by rw [upd_ne (ne_of_none e hz2)]; exact e)
    have lay3 := lay2.sb b2 s4'
    refine ⟨B, d, 5, gap, rfl, b4, lay3, by decide, by decide, gp1, gp58, fun p es k H4 pa g few _ s5 b5 => ?_⟩
    have lay4 := lay3.sb b4 s5
    have sH4 : Same H H4 := fun b o e => s5 _ _ (ne_of_none e hB) (s4' _ _ (ne_of_none e hB) (sH2 _ _ e))
    obtain ⟨t, hp, evp⟩ := id pa
    refine ⟨_, rfl, p, _, _, _, rfl, rfl, SqT.of hp, atI_nat (j := 0) rfl, _, rfl, p, _, _, _, rfl, rfl, SqT.of hp, atI_nat (j := 1) rfl, rfl, rfl, fun x1 d1 hx1 hd1 ne1 => ?_⟩
    refine new_goodX hx1 hd1 ne1 evp g fun H5 s6 t6 => ⟨rfl, ?_⟩
    refine ⟨_, rfl, _, rfl, (by show 2 ≤ sizeLine; decide), fun z1 hz1 => ?_⟩
    have s7 : Same H5 (upd H5 z1 (.tup [.ref x1, .ref p])) := fresh hz1
    have e7 : (upd H5 z1 (.tup [.ref x1, .ref p])) z1 = some (.tup [.ref x1, .ref p]) := upd_same
    generalize upd H5 z1 (.tup [.ref x1, .ref p]) = H6 at s7 e7 ⊢
    refine ⟨(by show 1 ≤ sizeLine; decide), fun HL hHL => ?_⟩
    have s8 : Same H6 (upd H6 HL (.lst [.ref z1])) := fresh hHL
    have e8 : (upd H6 HL (.lst [.ref z1])) HL = some (.lst [.ref z1]) := upd_same
    have sH6 : Same H H6 := (sH4.trans s6).trans s7
    have nHL : H HL = none := by
      cases e : H HL with
      | none => rfl
      | some o =>
        rw [sH6 _ _ e] at hHL
        cases hHL
    generalize upd H6 HL (.lst [.ref z1]) = H7 at s8 e8 ⊢
    have s48 := (s6.trans s7).trans s8
    have L7 : LSt K C H H7 B d HL x1 p 1 es k := ⟨sH6.trans s8, hB, nHL, b5.same s48, lay4.sb b5 (SB.of s48), ⟨[.ref z1], e8, by simp, by simp, fun x hx => by
      rw [List.mem_singleton.mp hx]
      exact ⟨z1, x1, p, es, k, rfl, s8 _ _ e7, t6.mono (Kp.of (s7.trans s8)), pa.mono (Kp.of s48), g, by omega⟩⟩, t6.mono (Kp.of (s7.trans s8)), pa.mono (Kp.of s48), g, by omega⟩
    refine ⟨_, rfl, S, _, rfl, .inl (L7.s0.seq hS), _, _, rfl, _, rfl, ?_, ?_, ?_⟩
    · split <;> omega
    · rw [List.length_map]
      split <;> omega
    refine for_range (lo := 0) (n := _) (fun i σ H' => LInv K C H S d HL (i + 1) σ H') ⟨B, x1, p, es, k, _, _, _, _, _, _, _, _, _, _, _, _, _, rfl, L7⟩ ?_ ?_
    · rintro i σ H8 hi ⟨B', a', p', es', k', v6, v7, v8, v9, v10, v11, v12, v13, v14, v15, v16, v17, v18, rfl, L⟩
      have i63 : i ≤ 63 := by
        rw [List.length_map] at hi
        split at hi <;> omega
      refine ⟨_, rfl, _, _, rfl, rfl, _, rfl, ite2 (fun _ => ?_) (fun _ => ?_)⟩
      · refine ⟨_, rfl, _, rfl, S, ns, i, by simp, L.s0.seq hS, fun H9 B2 s9 hB2 b9 => ?_⟩
        exact ⟨S, d, HL, i + 1, by omega, ⟨B2, a', p', es', k', _, v7, v8, v9, v10, v11, v12, v13, v14, v15, v16, v17, v18, rfl, L.rebag s9 hB2 b9⟩, fun _ _ h => h⟩
      · exact ⟨S, d, HL, i + 1, by omega, ⟨B', a', p', es', k', _, v7, v8, v9, v10, v11, v12, v13, v14, v15, v16, v17, v18, rfl, L⟩, fun _ _ h => h⟩
    · rintro σ H8 ⟨B', a', p', es', k', v6, v7, v8, v9, v10, v11, v12, v13, v14, v15, v16, v17, v18, rfl, L⟩
      obtain ⟨hs, hh, hs1, hsn, hv⟩ := L.held
      have hs100 : hs.length ≤ 64 := by
        rw [List.length_map] at hsn
        split at hsn <;> omega
      refine ⟨_, rfl, HL, rfl, ⟨_, SqL.of hh⟩, fun D3 hD3 => ?_⟩
      refine lc_bools (walk_list (K := K) (xs := hs) (a := HL)) (fun _ => True) hD3 (by omega) (fun H s => SqL.of (s _ _ hh)) ?_ ?_
      · rintro i x K1' K2' kk hi s1' ⟨rfl, hx⟩ h
        obtain ⟨z, a2, p2, es2, k2, rfl, hz, ta2, pa2, g2', f2⟩ := (hv x (List.mem_of_getElem? hx)).mono (Kp.of s1')
        exact ⟨z, _, rfl, SqT.of hz, rfl, _, _, rfl, _, _, rfl, rfl, rfl, _, rfl, _, rfl, a2, p2, es2, k2, rfl, ta2, pa2, by omega, fun H' s' => h true H' s' (yea trivial)⟩
      · intro G6 bs s1' hD4 hb
        have hb' : bs.all id = true := hb.mpr fun _ _ => trivial
        refine ⟨D3, bs, rfl, SqL.of hD4, _, rfl, ?_⟩
        rw [hb']
        exact iteT ⟨_, rfl, B', rfl, L.bag.same s1', fun H' _ _ => fin H'⟩
end
end Wd

set_option Elab.async false
set_option linter.all false
set_option maxRecDepth 100000
set_option maxHeartbeats 4000000
/-! what the law asks of the classes -/
namespace Wd
open PySem PySem.Spec PyProof.Rows L2
open PySem.W (findIn subIn mroIn keepIn hasDictIn clsIn takerIn specialIn takesIn readsIn findCls kitOne excInitIn excOver excIn exmOne selfFirst fnIn)
theorem typRun : typeOf (.type "RuntimeError") = pure (.type "type") := by kernel_rfl
section
variable {P : Program} {w : World} {K : PySem.W.Frag} {mg : Str → Option Value} {base : Heap}
theorem scInitN : FnScope ["self", "value"] ["self", "value"] (defScope cInvalidNumber_init) := ⟨rfl, rfl, rfl, by decide +kernel, rfl, by decide +kernel, by decide +kernel⟩
theorem ok_initN {f C : Addr} {fd : FuncData} (F1 : Fun K "__init__" "InvalidNumber.__init__" cInvalidNumber_init f fd) (E1 : Ek.EC K C rTail "RuntimeError.__new__") (nt : takerIn K C "value" = some none) (hm : mg "RuntimeError" = none)
    (vv : findCls K (.type "RuntimeError") (.type "type") "__init__" = some (.val (.builtin "RuntimeError.__init__"))) : FnOk P w K mg base CX0 1 f fd ["self", "value"] (Ek.spInitX C "value") := by
  refine F1.ok scInitN (fun vs H Q E h => ?_) (fun cdv A outer s H vs Q E hr h => ?_)
  · obtain ⟨a, y, H0, rfl, _⟩ := h
    rfl
  · obtain ⟨a, y, H0, rfl, rfl, h0, k⟩ := h
    refine ⟨_, pss_cons (ps_expr (Ek.pe_baseT (pl := _) (bmB := rTail) (newId := "RuntimeError.__new__") (Ek.InitF.of F.excBase_RuntimeError.toExcCallFacts) (by decide +kernel) (by rfl) hm (by decide +kernel) typRun (by decide +kernel) vv (pa_cons (pv 0) (pa_cons pe_str pa_nil))))
      (pss_one (Ek.ps_put (bmB := rTail) (newId := "RuntimeError.__new__") F.store_RuntimeError (pv 0) (pv 1))), ?_⟩
    refine ⟨_, rfl, a, C, _, rfl, by show 1 ≤ 1000; decide, E1, upd_same, ?_⟩
    refine ⟨_, rfl, _, rfl, a, C, rfl, E1, nt, upd_same, fun d hd ne => ?_⟩
    obtain ⟨z1, z2⟩ := Ek.init_endX (f := "value") (y := y) h0 hd ne
    exact k _ z1 z2
end
def isB (x : Option Bool) (b : Bool) : Bool := match x with
  | some c => c == b
  | none => false
theorem isB_eq {x : Option Bool} {b : Bool} (h : isB x b = true) : x = some b := by
  cases x with
  | none => cases h
  | some c => exact congrArg some (beq_iff_eq.mp h)
def isN (x : Option (Option Value)) : Bool := match x with
  | some none => true
  | _ => false
theorem isN_eq {x : Option (Option Value)} (h : isN x = true) : x = some none := by
  cases x with
  | none => cases h
  | some c =>
    cases c with
    | none => rfl
    | some v => cases h
def binOk (K : PySem.W.Frag) (C : Addr) (op : Operator) (T : String) : Bool :=
  isN (findIn K (.ref C) (dunderR op.info.2)) && ((findIn K (.type T) (PySem.dunder op.info.2)).isSome && ((findIn K (.type T) (dunderR op.info.2)).isSome && isB (subIn K (.type T) (.ref C)) false))
theorem binOk_t {K : PySem.W.Frag} {C : Addr} {op : Operator} {T : String} (h : binOk K C op T = true) : OO.BinT K C op T := by
  unfold binOk at h
  simp only [Bool.and_eq_true, Option.isSome_iff_exists] at h
  exact ⟨⟨_, isN_eq h.1, .inl rfl⟩, h.2.1, h.2.2.1, isB_eq h.2.2.2⟩
abbrev vTail : List Value := [.type "ValueError", .type "Exception", .type "BaseException", .type "object"]
def k3A (K : PySem.W.Frag) (C : Addr) : Bool := tys.all fun T => binOk K C .Add T && (binOk K C .RShift T && isB (kitOne K (.type T) (.ref C)) false)
def k3E (K : PySem.W.Frag) (N O T : Addr) : Bool :=
  isB (exmOne K (.ref O) (.ref O)) true && (isB (exmOne K (.ref N) (.ref O)) false && (isB (exmOne K (.ref N) (.ref N)) true && (isB (exmOne K (.ref T) (.ref O)) false && (isB (exmOne K (.ref T) (.ref N)) false && isB (exmOne K (.ref T) (.ref T)) true))))
def k3S (K : PySem.W.Frag) (N O T : Addr) : Bool :=
  excIn K O vTail "ValueError.__new__" && (excIn K T vTail "ValueError.__new__" && (excInitIn K N rTail "RuntimeError.__new__" && (excOver K N rTail && (isB (subIn K (.ref N) (.type "BaseException")) true && (isB (subIn K (.ref O) (.type "BaseException")) true && isB (subIn K (.ref T) (.type "BaseException")) true)))))
theorem k3A_t {K : PySem.W.Frag} {C : Addr} (h : k3A K C = true) : ∀ T ∈ tys, OO.BinT K C .Add T ∧ OO.BinT K C .RShift T ∧ kitOne K (.type T) (.ref C) = some false := by
  intro T hT
  have := List.all_eq_true.mp h T hT
  simp only [Bool.and_eq_true] at this
  exact ⟨binOk_t this.1, binOk_t this.2.1, isB_eq this.2.2⟩
end Wd

set_option Elab.async false
set_option linter.all false
set_option maxRecDepth 100000
set_option maxHeartbeats 4000000
namespace Wd
open PySem L2
open PySem.W (nsIn codeIn fnOf keepIn)
def keys25 : List Str := ["source", "never", "one", "after", "every", "told", "it", "only", "pick", "fold", "first", "changes", "pairs", "quiet", "spaced", "late", "again", "+", "&", "at", "until", "then", "else", "switch", "busy"].map Str.ofString
theorem keys25_mem (z : Str) : z ∈ keys25 ↔ z ∈ words ∨ z = Str.ofString "+" ∨ z = Str.ofString "&" := by
  constructor
  · intro h
    have all : ∀ y ∈ keys25, y ∈ words ∨ y = Str.ofString "+" ∨ y = Str.ofString "&" := by decide +kernel
    exact all z h
  · rintro (h | rfl | rfl)
    · have all : ∀ y ∈ words, y ∈ keys25 := by decide +kernel
      exact all z h
    · decide +kernel
    · decide +kernel
abbrev sRow : Stmt := sIsRowOfEvents
theorem scGet1 : FnScope ["self"] ["self"] (defScope cTape_events) := ⟨rfl, rfl, rfl, by decide +kernel, rfl, by decide +kernel, by decide +kernel⟩
theorem scGet2 : FnScope ["self"] ["self"] (defScope cTape_last) := ⟨rfl, rfl, rfl, by decide +kernel, rfl, by decide +kernel, by decide +kernel⟩
theorem all_mk {l : PySem.W.OpenLaw} {w : World} {K : PySem.W.Frag} {h : Heap} {mg : Str → Option Value} {fa : Addr} (KX : K.In h) (G : h.Ns mainGlobals mg) (hfa : mg "law" = some (.ref fa))
    {uIsInteger uIsBetween uIsLetter uIsName uIsEvent uRow uIsValueTable uStart uThrow uPick uLetters uWords uName uLayout uValue uEvents uTape uSame uLInt uLater uJoined uIsTape uDeed uDue uFits uWays uDoubled uLaw uMEq uMLen uMItem uMAdd uMShr uMStm uMUpto uMChg uPEv uPLa uMNi uPEvp uPLap dA uNew uDf uKw uZ uC uIN uIO uIT : Addr} {rPEv rPLa : List Value} {ocNew dcNew pmNew cdNew ctNew ocDf : Value} {odNew anNew odDf odZ : Option Addr} {slNew slDf slZ : Array (Option Value)} {nDf nZ : Nat}
    {ocIsInteger kVIsInteger dcIsInteger pmIsInteger cdIsInteger ctIsInteger ocIsBetween kVIsBetween dcIsBetween pmIsBetween cdIsBetween ctIsBetween ocIsLetter kVIsLetter dcIsLetter pmIsLetter cdIsLetter ctIsLetter ocIsName kVIsName dcIsName pmIsName cdIsName ctIsName ocIsEvent kVIsEvent dcIsEvent pmIsEvent cdIsEvent ctIsEvent ocRow kVRow dcRow pmRow cdRow ctRow ocIsValueTable kVIsValueTable dcIsValueTable pmIsValueTable cdIsValueTable ctIsValueTable ocStart kVStart dcStart pmStart cdStart ctStart ocThrow kVThrow dcThrow pmThrow cdThrow ctThrow ocPick kVPick dcPick pmPick cdPick ctPick ocLetters kVLetters dcLetters pmLetters cdLetters ctLetters ocWords kVWords dcWords pmWords cdWords ctWords ocName kVName dcName pmName cdName ctName ocLayout kVLayout dcLayout pmLayout cdLayout ctLayout ocValue kVValue dcValue pmValue cdValue ctValue ocEvents kVEvents dcEvents pmEvents cdEvents ctEvents ocTape kVTape dcTape pmTape cdTape ctTape ocSame kVSame dcSame pmSame cdSame ctSame ocLInt kVLInt dcLInt pmLInt cdLInt ctLInt ocLater kVLater dcLater pmLater cdLater ctLater ocJoined kVJoined dcJoined pmJoined cdJoined ctJoined ocIsTape kVIsTape dcIsTape pmIsTape cdIsTape ctIsTape ocDeed kVDeed dcDeed pmDeed cdDeed ctDeed ocDue kVDue dcDue pmDue cdDue ctDue ocFits kVFits dcFits pmFits cdFits ctFits ocWays kVWays dcWays pmWays cdWays ctWays ocDoubled kVDoubled dcDoubled pmDoubled cdDoubled ctDoubled ocLaw kVLaw dcLaw pmLaw cdLaw ctLaw ocMEq kVMEq dcMEq pmMEq cdMEq ctMEq ocMLen kVMLen dcMLen pmMLen cdMLen ctMLen ocMItem kVMItem dcMItem pmMItem cdMItem ctMItem ocMAdd kVMAdd dcMAdd pmMAdd cdMAdd ctMAdd ocMShr kVMShr dcMShr pmMShr cdMShr ctMShr ocMStm kVMStm dcMStm pmMStm cdMStm ctMStm ocMUpto kVMUpto dcMUpto pmMUpto cdMUpto ctMUpto ocMChg kVMChg dcMChg pmMChg cdMChg ctMChg ocPEv kVPEv dcPEv pmPEv cdPEv ctPEv ocPLa kVPLa dcPLa pmPLa cdPLa ctPLa ocMNi kVMNi dcMNi pmMNi cdMNi ctMNi : Value} {odIsInteger anIsInteger odIsBetween anIsBetween odIsLetter anIsLetter odIsName anIsName odIsEvent anIsEvent odRow anRow odIsValueTable anIsValueTable odStart anStart odThrow anThrow odPick anPick odLetters anLetters odWords anWords odName anName odLayout anLayout odValue anValue odEvents anEvents odTape anTape odSame anSame odLInt anLInt odLater anLater odJoined anJoined odIsTape anIsTape odDeed anDeed odDue anDue odFits anFits odWays anWays odDoubled anDoubled odLaw anLaw odMEq anMEq odMLen anMLen odMItem anMItem odMAdd anMAdd odMShr anMShr odMStm anMStm odMUpto anMUpto odMChg anMChg odPEv anPEv odPLa anPLa odMNi anMNi : Option Addr} {slIsInteger slIsBetween slIsLetter slIsName slIsEvent slRow slIsValueTable slStart slThrow slPick slLetters slWords slName slLayout slValue slEvents slTape slSame slLInt slLater slJoined slIsTape slDeed slDue slFits slWays slDoubled slLaw slMEq slMLen slMItem slMAdd slMShr slMStm slMUpto slMChg slPEv slPLa slMNi : Array (Option Value)}
    {vIE vMN : Int} {tIE tMN tLS : Tok} {vLS : Str}
    (aIsInteger : nsIn K mainGlobals "is_integer" = some (some (.ref uIsInteger)))
    (lIsInteger : K.lookup uIsInteger = some ⟨ocIsInteger, odIsInteger, .func (fnOf "is_integer" "is_integer" (defArgs sIsInteger) (defBody sIsInteger) (defScope sIsInteger) .none kVIsInteger dcIsInteger pmIsInteger anIsInteger cdIsInteger ctIsInteger), slIsInteger⟩)
    (qIsInteger : codeIn K cdIsInteger "is_integer" = true)
    (kIsInteger : keepIn K (.ref uIsInteger) = true)
    (aIsBetween : nsIn K mainGlobals "is_between" = some (some (.ref uIsBetween)))
    (lIsBetween : K.lookup uIsBetween = some ⟨ocIsBetween, odIsBetween, .func (fnOf "is_between" "is_between" (defArgs sIsBetween) (defBody sIsBetween) (defScope sIsBetween) .none kVIsBetween dcIsBetween pmIsBetween anIsBetween cdIsBetween ctIsBetween), slIsBetween⟩)
    (qIsBetween : codeIn K cdIsBetween "is_between" = true)
    (kIsBetween : keepIn K (.ref uIsBetween) = true)
    (aIsLetter : nsIn K mainGlobals "is_letter" = some (some (.ref uIsLetter)))
    (lIsLetter : K.lookup uIsLetter = some ⟨ocIsLetter, odIsLetter, .func (fnOf "is_letter" "is_letter" (defArgs sIsLetter) (defBody sIsLetter) (defScope sIsLetter) .none kVIsLetter dcIsLetter pmIsLetter anIsLetter cdIsLetter ctIsLetter), slIsLetter⟩)
    (qIsLetter : codeIn K cdIsLetter "is_letter" = true)
    (kIsLetter : keepIn K (.ref uIsLetter) = true)
    (aIsName : nsIn K mainGlobals "is_name" = some (some (.ref uIsName)))
    (lIsName : K.lookup uIsName = some ⟨ocIsName, odIsName, .func (fnOf "is_name" "is_name" (defArgs sIsName) (defBody sIsName) (defScope sIsName) .none kVIsName dcIsName pmIsName anIsName cdIsName ctIsName), slIsName⟩)
    (qIsName : codeIn K cdIsName "is_name" = true)
    (kIsName : keepIn K (.ref uIsName) = true)
    (aIsEvent : nsIn K mainGlobals "is_event" = some (some (.ref uIsEvent)))
    (lIsEvent : K.lookup uIsEvent = some ⟨ocIsEvent, odIsEvent, .func (fnOf "is_event" "is_event" (defArgs sIsEvent) (defBody sIsEvent) (defScope sIsEvent) .none kVIsEvent dcIsEvent pmIsEvent anIsEvent cdIsEvent ctIsEvent), slIsEvent⟩)
    (qIsEvent : codeIn K cdIsEvent "is_event" = true)
    (kIsEvent : keepIn K (.ref uIsEvent) = true)
    (aRow : nsIn K mainGlobals "is_row_of_events" = some (some (.ref uRow)))
    (lRow : K.lookup uRow = some ⟨ocRow, odRow, .func (fnOf "is_row_of_events" "is_row_of_events" (defArgs sRow) (defBody sRow) (defScope sRow) .none kVRow dcRow pmRow anRow cdRow ctRow), slRow⟩)
    (qRow : codeIn K cdRow "is_row_of_events" = true)
    (kRow : keepIn K (.ref uRow) = true)
    (aIsValueTable : nsIn K mainGlobals "is_value_table" = some (some (.ref uIsValueTable)))
    (lIsValueTable : K.lookup uIsValueTable = some ⟨ocIsValueTable, odIsValueTable, .func (fnOf "is_value_table" "is_value_table" (defArgs sIsValueTable) (defBody sIsValueTable) (defScope sIsValueTable) .none kVIsValueTable dcIsValueTable pmIsValueTable anIsValueTable cdIsValueTable ctIsValueTable), slIsValueTable⟩)
    (qIsValueTable : codeIn K cdIsValueTable "is_value_table" = true)
    (kIsValueTable : keepIn K (.ref uIsValueTable) = true)
    (aStart : nsIn K mainGlobals "_law_start" = some (some (.ref uStart)))
    (lStart : K.lookup uStart = some ⟨ocStart, odStart, .func (fnOf "_law_start" "_law_start" (defArgs sStart) (defBody sStart) (defScope sStart) .none kVStart dcStart pmStart anStart cdStart ctStart), slStart⟩)
    (qStart : codeIn K cdStart "_law_start" = true)
    (kStart : keepIn K (.ref uStart) = true)
    (aThrow : nsIn K mainGlobals "_law_throw" = some (some (.ref uThrow)))
    (lThrow : K.lookup uThrow = some ⟨ocThrow, odThrow, .func (fnOf "_law_throw" "_law_throw" (defArgs sThrow) (defBody sThrow) (defScope sThrow) .none kVThrow dcThrow pmThrow anThrow cdThrow ctThrow), slThrow⟩)
    (qThrow : codeIn K cdThrow "_law_throw" = true)
    (kThrow : keepIn K (.ref uThrow) = true)
    (aPick : nsIn K mainGlobals "_law_pick" = some (some (.ref uPick)))
    (lPick : K.lookup uPick = some ⟨ocPick, odPick, .func (fnOf "_law_pick" "_law_pick" (defArgs sPick) (defBody sPick) (defScope sPick) .none kVPick dcPick pmPick anPick cdPick ctPick), slPick⟩)
    (qPick : codeIn K cdPick "_law_pick" = true)
    (kPick : keepIn K (.ref uPick) = true)
    (aLetters : nsIn K mainGlobals "_law_letters" = some (some (.ref uLetters)))
    (lLetters : K.lookup uLetters = some ⟨ocLetters, odLetters, .func (fnOf "_law_letters" "_law_letters" (defArgs sLetters) (defBody sLetters) (defScope sLetters) .none kVLetters dcLetters pmLetters anLetters cdLetters ctLetters), slLetters⟩)
    (qLetters : codeIn K cdLetters "_law_letters" = true)
    (kLetters : keepIn K (.ref uLetters) = true)
    (aWords : nsIn K mainGlobals "_law_words" = some (some (.ref uWords)))
    (lWords : K.lookup uWords = some ⟨ocWords, odWords, .func (fnOf "_law_words" "_law_words" (defArgs sWords) (defBody sWords) (defScope sWords) .none kVWords dcWords pmWords anWords cdWords ctWords), slWords⟩)
    (qWords : codeIn K cdWords "_law_words" = true)
    (kWords : keepIn K (.ref uWords) = true)
    (aName : nsIn K mainGlobals "_law_name" = some (some (.ref uName)))
    (lName : K.lookup uName = some ⟨ocName, odName, .func (fnOf "_law_name" "_law_name" (defArgs sName) (defBody sName) (defScope sName) .none kVName dcName pmName anName cdName ctName), slName⟩)
    (qName : codeIn K cdName "_law_name" = true)
    (kName : keepIn K (.ref uName) = true)
    (aLayout : nsIn K mainGlobals "_law_layout" = some (some (.ref uLayout)))
    (lLayout : K.lookup uLayout = some ⟨ocLayout, odLayout, .func (fnOf "_law_layout" "_law_layout" (defArgs sLayout) (defBody sLayout) (defScope sLayout) .none kVLayout dcLayout pmLayout anLayout cdLayout ctLayout), slLayout⟩)
    (qLayout : codeIn K cdLayout "_law_layout" = true)
    (kLayout : keepIn K (.ref uLayout) = true)
    (aValue : nsIn K mainGlobals "_law_value" = some (some (.ref uValue)))
    (lValue : K.lookup uValue = some ⟨ocValue, odValue, .func (fnOf "_law_value" "_law_value" (defArgs sValue) (defBody sValue) (defScope sValue) .none kVValue dcValue pmValue anValue cdValue ctValue), slValue⟩)
    (qValue : codeIn K cdValue "_law_value" = true)
    (kValue : keepIn K (.ref uValue) = true)
    (aEvents : nsIn K mainGlobals "_law_events" = some (some (.ref uEvents)))
    (lEvents : K.lookup uEvents = some ⟨ocEvents, odEvents, .func (fnOf "_law_events" "_law_events" (defArgs sEvents) (defBody sEvents) (defScope sEvents) .none kVEvents dcEvents pmEvents anEvents cdEvents ctEvents), slEvents⟩)
    (qEvents : codeIn K cdEvents "_law_events" = true)
    (kEvents : keepIn K (.ref uEvents) = true)
    (aTape : nsIn K mainGlobals "_law_tape" = some (some (.ref uTape)))
    (lTape : K.lookup uTape = some ⟨ocTape, odTape, .func (fnOf "_law_tape" "_law_tape" (defArgs sTape) (defBody sTape) (defScope sTape) .none kVTape dcTape pmTape anTape cdTape ctTape), slTape⟩)
    (qTape : codeIn K cdTape "_law_tape" = true)
    (kTape : keepIn K (.ref uTape) = true)
    (aSame : nsIn K mainGlobals "_law_same" = some (some (.ref uSame)))
    (lSame : K.lookup uSame = some ⟨ocSame, odSame, .func (fnOf "_law_same" "_law_same" (defArgs sSame) (defBody sSame) (defScope sSame) .none kVSame dcSame pmSame anSame cdSame ctSame), slSame⟩)
    (qSame : codeIn K cdSame "_law_same" = true)
    (kSame : keepIn K (.ref uSame) = true)
    (aLInt : nsIn K mainGlobals "_law_is_integer" = some (some (.ref uLInt)))
    (lLInt : K.lookup uLInt = some ⟨ocLInt, odLInt, .func (fnOf "_law_is_integer" "_law_is_integer" (defArgs sLInt) (defBody sLInt) (defScope sLInt) .none kVLInt dcLInt pmLInt anLInt cdLInt ctLInt), slLInt⟩)
    (qLInt : codeIn K cdLInt "_law_is_integer" = true)
    (kLInt : keepIn K (.ref uLInt) = true)
    (aLater : nsIn K mainGlobals "_law_later" = some (some (.ref uLater)))
    (lLater : K.lookup uLater = some ⟨ocLater, odLater, .func (fnOf "_law_later" "_law_later" (defArgs sLater) (defBody sLater) (defScope sLater) .none kVLater dcLater pmLater anLater cdLater ctLater), slLater⟩)
    (qLater : codeIn K cdLater "_law_later" = true)
    (kLater : keepIn K (.ref uLater) = true)
    (aJoined : nsIn K mainGlobals "_law_joined" = some (some (.ref uJoined)))
    (lJoined : K.lookup uJoined = some ⟨ocJoined, odJoined, .func (fnOf "_law_joined" "_law_joined" (defArgs sJoined) (defBody sJoined) (defScope sJoined) .none kVJoined dcJoined pmJoined anJoined cdJoined ctJoined), slJoined⟩)
    (qJoined : codeIn K cdJoined "_law_joined" = true)
    (kJoined : keepIn K (.ref uJoined) = true)
    (aIsTape : nsIn K mainGlobals "_law_is_tape" = some (some (.ref uIsTape)))
    (lIsTape : K.lookup uIsTape = some ⟨ocIsTape, odIsTape, .func (fnOf "_law_is_tape" "_law_is_tape" (defArgs sIsTape) (defBody sIsTape) (defScope sIsTape) .none kVIsTape dcIsTape pmIsTape anIsTape cdIsTape ctIsTape), slIsTape⟩)
    (qIsTape : codeIn K cdIsTape "_law_is_tape" = true)
    (kIsTape : keepIn K (.ref uIsTape) = true)
    (aDeed : nsIn K mainGlobals "_law_deed" = some (some (.ref uDeed)))
    (lDeed : K.lookup uDeed = some ⟨ocDeed, odDeed, .func (fnOf "_law_deed" "_law_deed" (defArgs sDeed) (defBody sDeed) (defScope sDeed) .none kVDeed dcDeed pmDeed anDeed cdDeed ctDeed), slDeed⟩)
    (qDeed : codeIn K cdDeed "_law_deed" = true)
    (kDeed : keepIn K (.ref uDeed) = true)
    (aDue : nsIn K mainGlobals "_law_due" = some (some (.ref uDue)))
    (lDue : K.lookup uDue = some ⟨ocDue, odDue, .func (fnOf "_law_due" "_law_due" (defArgs sDue) (defBody sDue) (defScope sDue) .none kVDue dcDue pmDue anDue cdDue ctDue), slDue⟩)
    (qDue : codeIn K cdDue "_law_due" = true)
    (kDue : keepIn K (.ref uDue) = true)
    (aFits : nsIn K mainGlobals "_law_fits" = some (some (.ref uFits)))
    (lFits : K.lookup uFits = some ⟨ocFits, odFits, .func (fnOf "_law_fits" "_law_fits" (defArgs sFits) (defBody sFits) (defScope sFits) .none kVFits dcFits pmFits anFits cdFits ctFits), slFits⟩)
    (qFits : codeIn K cdFits "_law_fits" = true)
    (kFits : keepIn K (.ref uFits) = true)
    (aWays : nsIn K mainGlobals "_law_ways" = some (some (.ref uWays)))
    (lWays : K.lookup uWays = some ⟨ocWays, odWays, .func (fnOf "_law_ways" "_law_ways" (defArgs sWays) (defBody sWays) (defScope sWays) .none kVWays dcWays pmWays anWays cdWays ctWays), slWays⟩)
    (qWays : codeIn K cdWays "_law_ways" = true)
    (kWays : keepIn K (.ref uWays) = true)
    (aDoubled : nsIn K mainGlobals "_law_doubled" = some (some (.ref uDoubled)))
    (lDoubled : K.lookup uDoubled = some ⟨ocDoubled, odDoubled, .func (fnOf "_law_doubled" "_law_doubled" (defArgs sDoubled) (defBody sDoubled) (defScope sDoubled) .none kVDoubled dcDoubled pmDoubled anDoubled cdDoubled ctDoubled), slDoubled⟩)
    (qDoubled : codeIn K cdDoubled "_law_doubled" = true)
    (kDoubled : keepIn K (.ref uDoubled) = true)
    (aLaw : nsIn K mainGlobals "law" = some (some (.ref uLaw)))
    (lLaw : K.lookup uLaw = some ⟨ocLaw, odLaw, .func (fnOf "law" "law" (defArgs sLaw) (defBody sLaw) (defScope sLaw) .none kVLaw dcLaw pmLaw anLaw cdLaw ctLaw), slLaw⟩)
    (qLaw : codeIn K cdLaw "law" = true)
    (kLaw : keepIn K (.ref uLaw) = true)
    (zlen : nsIn K mainGlobals "len" = some none)
    (zint : nsIn K mainGlobals "int" = some none)
    (zbool : nsIn K mainGlobals "bool" = some none)
    (zstr : nsIn K mainGlobals "str" = some none)
    (ztuple : nsIn K mainGlobals "tuple" = some none)
    (zdict : nsIn K mainGlobals "dict" = some none)
    (zall : nsIn K mainGlobals "all" = some none)
    (zrange : nsIn K mainGlobals "range" = some none)
    (zisinstance : nsIn K mainGlobals "isinstance" = some none)
    (zabs : nsIn K mainGlobals "abs" = some none)
    (zlist : nsIn K mainGlobals "list" = some none)
    (zsorted : nsIn K mainGlobals "sorted" = some none)
    (zmax : nsIn K mainGlobals "max" = some none)
    (zRuntimeError : nsIn K mainGlobals "RuntimeError" = some none)
    (cIE : nsIn K mainGlobals "INTEGER_END" = some (some (.int vIE tIE)))
    (eIE : vIE = ten60)
    (cMN : nsIn K mainGlobals "MAX_NAME" = some (some (.int vMN tMN)))
    (eMN : vMN = 8)
    (aC : nsIn K mainGlobals "Tape" = some (some (.ref uC)))
    (aIN : nsIn K mainGlobals "InvalidNumber" = some (some (.ref uIN)))
    (aIO : nsIn K mainGlobals "InvalidOperation" = some (some (.ref uIO)))
    (aIT : nsIn K mainGlobals "InvalidTape" = some (some (.ref uIT)))
    (t8 : PySem.W.findIn K (.ref uC) "__init__" = some (some (.ref uNew)))
    (tMEq : PySem.W.findIn K (.ref uC) "__eq__" = some (some (.ref uMEq)))
    (tMLen : PySem.W.findIn K (.ref uC) "__len__" = some (some (.ref uMLen)))
    (tMItem : PySem.W.findIn K (.ref uC) "__getitem__" = some (some (.ref uMItem)))
    (tMAdd : PySem.W.findIn K (.ref uC) "__add__" = some (some (.ref uMAdd)))
    (tMShr : PySem.W.findIn K (.ref uC) "__rshift__" = some (some (.ref uMShr)))
    (tMStm : PySem.W.findIn K (.ref uC) "stamps" = some (some (.ref uMStm)))
    (tMUpto : PySem.W.findIn K (.ref uC) "upto" = some (some (.ref uMUpto)))
    (tMChg : PySem.W.findIn K (.ref uC) "changed" = some (some (.ref uMChg)))
    (tPEv : PySem.W.findIn K (.ref uC) "events" = some (some (.ref uPEvp)))
    (rPEv : PySem.W.recIn K uPEvp "property" = some (Value.ref uPEv :: rPEv))
    (tPLa : PySem.W.findIn K (.ref uC) "last" = some (some (.ref uPLap)))
    (rPLa : PySem.W.recIn K uPLap "property" = some (Value.ref uPLa :: rPLa))
    (tMNi : PySem.W.findIn K (.ref uIN) "__init__" = some (some (.ref uMNi)))
    (lNew : K.lookup uNew = some ⟨ocNew, odNew, .func (fnOf "__init__" "Tape.__init__" (defArgs cTape_init) (defBody cTape_init) (defScope cTape_init) (.ref uDf) (.ref uKw) dcNew pmNew anNew cdNew ctNew), slNew⟩)
    (qNew : codeIn K cdNew "Tape.__init__" = true)
    (kNew : keepIn K (.ref uNew) = true)
    (lDf : K.lookup uDf = some ⟨ocDf, odDf, .seq #[.ref uZ] nDf, slDf⟩)
    (lZ : K.lookup uZ = some ⟨.type "tuple", odZ, .seq #[] nZ, slZ⟩)
    (nKw : nsIn K uKw "last" = some (some .none))
    (lMEq : K.lookup uMEq = some ⟨ocMEq, odMEq, .func (fnOf "__eq__" "Tape.__eq__" (defArgs cTape_eq) (defBody cTape_eq) (defScope cTape_eq) .none kVMEq dcMEq pmMEq anMEq cdMEq ctMEq), slMEq⟩)
    (qMEq : codeIn K cdMEq "Tape.__eq__" = true)
    (kMEq : keepIn K (.ref uMEq) = true)
    (fMEq : PySem.W.isFn K (.ref uMEq) = true)
    (lMLen : K.lookup uMLen = some ⟨ocMLen, odMLen, .func (fnOf "__len__" "Tape.__len__" (defArgs cTape_len) (defBody cTape_len) (defScope cTape_len) .none kVMLen dcMLen pmMLen anMLen cdMLen ctMLen), slMLen⟩)
    (qMLen : codeIn K cdMLen "Tape.__len__" = true)
    (kMLen : keepIn K (.ref uMLen) = true)
    (fMLen : PySem.W.isFn K (.ref uMLen) = true)
    (lMItem : K.lookup uMItem = some ⟨ocMItem, odMItem, .func (fnOf "__getitem__" "Tape.__getitem__" (defArgs cTape_getitem) (defBody cTape_getitem) (defScope cTape_getitem) .none kVMItem dcMItem pmMItem anMItem cdMItem ctMItem), slMItem⟩)
    (qMItem : codeIn K cdMItem "Tape.__getitem__" = true)
    (kMItem : keepIn K (.ref uMItem) = true)
    (fMItem : PySem.W.isFn K (.ref uMItem) = true)
    (lMAdd : K.lookup uMAdd = some ⟨ocMAdd, odMAdd, .func (fnOf "__add__" "Tape.__add__" (defArgs cTape_add) (defBody cTape_add) (defScope cTape_add) .none kVMAdd dcMAdd pmMAdd anMAdd cdMAdd ctMAdd), slMAdd⟩)
    (qMAdd : codeIn K cdMAdd "Tape.__add__" = true)
    (kMAdd : keepIn K (.ref uMAdd) = true)
    (fMAdd : PySem.W.isFn K (.ref uMAdd) = true)
    (lMShr : K.lookup uMShr = some ⟨ocMShr, odMShr, .func (fnOf "__rshift__" "Tape.__rshift__" (defArgs cTape_rshift) (defBody cTape_rshift) (defScope cTape_rshift) .none kVMShr dcMShr pmMShr anMShr cdMShr ctMShr), slMShr⟩)
    (qMShr : codeIn K cdMShr "Tape.__rshift__" = true)
    (kMShr : keepIn K (.ref uMShr) = true)
    (fMShr : PySem.W.isFn K (.ref uMShr) = true)
    (lMStm : K.lookup uMStm = some ⟨ocMStm, odMStm, .func (fnOf "stamps" "Tape.stamps" (defArgs cTape_stamps) (defBody cTape_stamps) (defScope cTape_stamps) .none kVMStm dcMStm pmMStm anMStm cdMStm ctMStm), slMStm⟩)
    (qMStm : codeIn K cdMStm "Tape.stamps" = true)
    (kMStm : keepIn K (.ref uMStm) = true)
    (fMStm : PySem.W.isFn K (.ref uMStm) = true)
    (lMUpto : K.lookup uMUpto = some ⟨ocMUpto, odMUpto, .func (fnOf "upto" "Tape.upto" (defArgs cTape_upto) (defBody cTape_upto) (defScope cTape_upto) .none kVMUpto dcMUpto pmMUpto anMUpto cdMUpto ctMUpto), slMUpto⟩)
    (qMUpto : codeIn K cdMUpto "Tape.upto" = true)
    (kMUpto : keepIn K (.ref uMUpto) = true)
    (fMUpto : PySem.W.isFn K (.ref uMUpto) = true)
    (lMChg : K.lookup uMChg = some ⟨ocMChg, odMChg, .func (fnOf "changed" "Tape.changed" (defArgs cTape_changed) (defBody cTape_changed) (defScope cTape_changed) .none kVMChg dcMChg pmMChg anMChg cdMChg ctMChg), slMChg⟩)
    (qMChg : codeIn K cdMChg "Tape.changed" = true)
    (kMChg : keepIn K (.ref uMChg) = true)
    (fMChg : PySem.W.isFn K (.ref uMChg) = true)
    (lPEv : K.lookup uPEv = some ⟨ocPEv, odPEv, .func (fnOf "events" "Tape.events" (defArgs cTape_events) (defBody cTape_events) (defScope cTape_events) .none kVPEv dcPEv pmPEv anPEv cdPEv ctPEv), slPEv⟩)
    (qPEv : codeIn K cdPEv "Tape.events" = true)
    (kPEv : keepIn K (.ref uPEv) = true)
    (gPEv : PySem.W.specialIn K (.ref uPEvp) "__get__" = some (some (.builtin "property.__get__")))
    (hPEv : PySem.W.takesIn K (.ref uPEvp) = some true)
    (lPLa : K.lookup uPLa = some ⟨ocPLa, odPLa, .func (fnOf "last" "Tape.last" (defArgs cTape_last) (defBody cTape_last) (defScope cTape_last) .none kVPLa dcPLa pmPLa anPLa cdPLa ctPLa), slPLa⟩)
    (qPLa : codeIn K cdPLa "Tape.last" = true)
    (kPLa : keepIn K (.ref uPLa) = true)
    (gPLa : PySem.W.specialIn K (.ref uPLap) "__get__" = some (some (.builtin "property.__get__")))
    (hPLa : PySem.W.takesIn K (.ref uPLap) = some true)
    (lMNi : K.lookup uMNi = some ⟨ocMNi, odMNi, .func (fnOf "__init__" "InvalidNumber.__init__" (defArgs cInvalidNumber_init) (defBody cInvalidNumber_init) (defScope cInvalidNumber_init) .none kVMNi dcMNi pmMNi anMNi cdMNi ctMNi), slMNi⟩)
    (qMNi : codeIn K cdMNi "InvalidNumber.__init__" = true)
    (kMNi : keepIn K (.ref uMNi) = true)
    (yMNi : PySem.W.typeIn K (.ref uMNi) = some (.type "function"))
    (t1 : PySem.W.plainGet K uC Str.empty = true)
    (t2 : PySem.W.hasDictIn K uC = true)
    (t3 : PySem.W.plainOver K uC = true)
    (t4 : PySem.W.findIn K (.ref uC) "__setattr__" = some (some (.builtin "object.__setattr__")))
    (t5 : PySem.W.findIn K (.ref uC) "_events" = some none)
    (t6 : PySem.W.findIn K (.ref uC) "_last" = some none)
    (t7 : PySem.W.makesIn K uC = true)
    (t9 : PySem.W.isFn K (.ref uNew) = true)
    (t10 : keepIn K (.ref uC) = true)
    (t13 : PySem.W.findIn K (.ref uC) "__class__" = some (some (.builtin "object.__class__")))
    (t14 : PySem.W.specialIn K (.builtin "object.__class__") "__get__" = some (some (.builtin "getset_descriptor.__get__")))
    (t15 : PySem.W.takesIn K (.builtin "object.__class__") = some true)
    (t16 : PySem.W.mroIn K uC (.type "object") = some true)
    (t17 : tapOk K uC = true)
    (x1 : k3A K uC = true)
    (x2 : k3E K uIN uIO uIT = true)
    (x3 : k3S K uIN uIO uIT = true)
    (x4 : PySem.W.selfFirst K uC = true)
    (x5 : PySem.W.fnIn K uMItem = true)
    (kIN : keepIn K (.ref uIN) = true)
    (yIN : PySem.W.typeIn K (.ref uIN) = some (.type "type"))
    (kIO : keepIn K (.ref uIO) = true)
    (yIO : PySem.W.typeIn K (.ref uIO) = some (.type "type"))
    (kIT : keepIn K (.ref uIT) = true)
    (yIT : PySem.W.typeIn K (.ref uIT) = some (.type "type"))
    (w1 : PySem.W.hasDictIn K uIN = true)
    (w2 : PySem.W.findIn K (.ref uIN) "__setattr__" = some (some (.builtin "object.__setattr__")))
    (w3 : PySem.W.takerIn K uIN "value" = some none)
    (w4 : PySem.W.findCls K (.type "RuntimeError") (.type "type") "__init__" = some (.val (.builtin "RuntimeError.__init__")))
    (w5 : PySem.W.findIn K (.ref uIN) "__getattribute__" = some (some (.builtin "BaseException.__getattribute__")))
    (w6 : PySem.W.findIn K (.ref uIN) "__getattr__" = some none)
    (w7 : PySem.W.findIn K (.ref uIN) "value" = some none)
    (cLS : nsIn K mainGlobals "LETTERS" = some (some (.str vLS tLS)))
    (eLS : vLS = Str.ofString "abcdefghijklmnopqrstuvwxyz")
    (cA : nsIn K mainGlobals "ARGUMENTS" = some (some (.ref dA)))
    (eA : He.dicW K dA = some (He.keysIn w.params keys25)) :
    ∃ fd : FuncData, (∀ (s : Shared) (v : Value), BindsTo s fd ⟨[v], []⟩ [("script", v)]) ∧ ∀ base : Heap, K.In base → base.Ns mainGlobals mg → FnOk l.prog w K mg base CX0 10 fa fd ["script"] (spLaw K) := by
  have e := hfa.symm.trans (PySem.W.mg_of KX G aLaw)
  cases e
  have FIsInteger := fun_mk (st := sIsInteger) lIsInteger qIsInteger kIsInteger
  have bIsInteger := FIsInteger.binds (ps := ["value"]) fun _ _ _ _ _ _ us hl => match us, hl with | [_], _ => rfl
  have FIsBetween := fun_mk (st := sIsBetween) lIsBetween qIsBetween kIsBetween
  have bIsBetween := FIsBetween.binds (ps := ["value", "least", "most"]) fun _ _ _ _ _ _ us hl => match us, hl with | [_, _, _], _ => rfl
  have FIsLetter := fun_mk (st := sIsLetter) lIsLetter qIsLetter kIsLetter
  have bIsLetter := FIsLetter.binds (ps := ["value"]) fun _ _ _ _ _ _ us hl => match us, hl with | [_], _ => rfl
  have FIsName := fun_mk (st := sIsName) lIsName qIsName kIsName
  have bIsName := FIsName.binds (ps := ["value"]) fun _ _ _ _ _ _ us hl => match us, hl with | [_], _ => rfl
  have FIsEvent := fun_mk (st := sIsEvent) lIsEvent qIsEvent kIsEvent
  have bIsEvent := FIsEvent.binds (ps := ["value"]) fun _ _ _ _ _ _ us hl => match us, hl with | [_], _ => rfl
  have FRow := fun_mk (st := sRow) lRow qRow kRow
  have bRow := FRow.binds (ps := ["value"]) fun _ _ _ _ _ _ us hl => match us, hl with | [_], _ => rfl
  have FIsValueTable := fun_mk (st := sIsValueTable) lIsValueTable qIsValueTable kIsValueTable
  have bIsValueTable := FIsValueTable.binds (ps := ["value"]) fun _ _ _ _ _ _ us hl => match us, hl with | [_], _ => rfl
  have FStart := fun_mk (st := sStart) lStart qStart kStart
  have bStart := FStart.binds (ps := ["script", "at"]) fun _ _ _ _ _ _ us hl => match us, hl with | [_, _], _ => rfl
  have FThrow := fun_mk (st := sThrow) lThrow qThrow kThrow
  have bThrow := FThrow.binds (ps := ["bag", "total"]) fun _ _ _ _ _ _ us hl => match us, hl with | [_, _], _ => rfl
  have FPick := fun_mk (st := sPick) lPick qPick kPick
  have bPick := FPick.binds (ps := ["bag", "items"]) fun _ _ _ _ _ _ us hl => match us, hl with | [_, _], _ => rfl
  have FLetters := fun_mk (st := sLetters) lLetters qLetters kLetters
  have bLetters := FLetters.binds (ps := ["bag", "most"]) fun _ _ _ _ _ _ us hl => match us, hl with | [_, _], _ => rfl
  have FWords := fun_mk (st := sWords) lWords qWords kWords
  have bWords := FWords.binds (ps := []) fun _ _ _ _ _ _ us hl => match us, hl with | [], _ => rfl
  have FName := fun_mk (st := sName) lName qName kName
  have bName := FName.binds (ps := ["bag", "known"]) fun _ _ _ _ _ _ us hl => match us, hl with | [_, _], _ => rfl
  have FLayout := fun_mk (st := sLayout) lLayout qLayout kLayout
  have bLayout := FLayout.binds (ps := ["bag", "sources", "letters"]) fun _ _ _ _ _ _ us hl => match us, hl with | [_, _, _], _ => rfl
  have FValue := fun_mk (st := sValue) lValue qValue kValue
  have bValue := FValue.binds (ps := ["bag"]) fun _ _ _ _ _ _ us hl => match us, hl with | [_], _ => rfl
  have FEvents := fun_mk (st := sEvents) lEvents qEvents kEvents
  have bEvents := FEvents.binds (ps := ["bag", "layout", "most", "gap"]) fun _ _ _ _ _ _ us hl => match us, hl with | [_, _, _, _], _ => rfl
  have FTape := fun_mk (st := sTape) lTape qTape kTape
  have bTape := FTape.binds (ps := ["bag", "layout", "most", "gap"]) fun _ _ _ _ _ _ us hl => match us, hl with | [_, _, _, _], _ => rfl
  have FSame := fun_mk (st := sSame) lSame qSame kSame
  have bSame := FSame.binds (ps := ["one", "other"]) fun _ _ _ _ _ _ us hl => match us, hl with | [_, _], _ => rfl
  have FLInt := fun_mk (st := sLInt) lLInt qLInt kLInt
  have bLInt := FLInt.binds (ps := ["value"]) fun _ _ _ _ _ _ us hl => match us, hl with | [_], _ => rfl
  have FLater := fun_mk (st := sLater) lLater qLater kLater
  have bLater := FLater.binds (ps := ["plain", "by"]) fun _ _ _ _ _ _ us hl => match us, hl with | [_, _], _ => rfl
  have FJoined := fun_mk (st := sJoined) lJoined qJoined kJoined
  have bJoined := FJoined.binds (ps := ["plain", "other"]) fun _ _ _ _ _ _ us hl => match us, hl with | [_, _], _ => rfl
  have FIsTape := fun_mk (st := sIsTape) lIsTape qIsTape kIsTape
  have bIsTape := FIsTape.binds (ps := ["tape", "plain"]) fun _ _ _ _ _ _ us hl => match us, hl with | [_, _], _ => rfl
  have FDeed := fun_mk (st := sDeed) lDeed qDeed kDeed
  have bDeed := FDeed.binds (ps := ["way", "tape", "operand"]) fun _ _ _ _ _ _ us hl => match us, hl with | [_, _, _], _ => rfl
  have FDue := fun_mk (st := sDue) lDue qDue kDue
  have bDue := FDue.binds (ps := ["way", "plain", "operand"]) fun _ _ _ _ _ _ us hl => match us, hl with | [_, _, _], _ => rfl
  have FFits := fun_mk (st := sFits) lFits qFits kFits
  have bFits := FFits.binds (ps := ["answer", "due"]) fun _ _ _ _ _ _ us hl => match us, hl with | [_, _], _ => rfl
  have FWays := fun_mk (st := sWays) lWays qWays kWays
  have bWays := FWays.binds (ps := ["bag", "plain", "tape", "other", "third"]) fun _ _ _ _ _ _ us hl => match us, hl with | [_, _, _, _, _], _ => rfl
  have FDoubled := fun_mk (st := sDoubled) lDoubled qDoubled kDoubled
  have bDoubled := FDoubled.binds (ps := ["bag"]) fun _ _ _ _ _ _ us hl => match us, hl with | [_], _ => rfl
  have FLaw := fun_mk (st := sLaw) lLaw qLaw kLaw
  have FMEq := fun_mk (st := cTape_eq) lMEq qMEq kMEq
  have bMEq := FMEq.binds (ps := ["self", "other"]) fun _ _ _ _ _ _ us hl => match us, hl with | [_, _], _ => rfl
  have FMLen := fun_mk (st := cTape_len) lMLen qMLen kMLen
  have bMLen := FMLen.binds (ps := ["self"]) fun _ _ _ _ _ _ us hl => match us, hl with | [_], _ => rfl
  have FMItem := fun_mk (st := cTape_getitem) lMItem qMItem kMItem
  have bMItem := FMItem.binds (ps := ["self", "index"]) fun _ _ _ _ _ _ us hl => match us, hl with | [_, _], _ => rfl
  have FMAdd := fun_mk (st := cTape_add) lMAdd qMAdd kMAdd
  have bMAdd := FMAdd.binds (ps := ["self", "other"]) fun _ _ _ _ _ _ us hl => match us, hl with | [_, _], _ => rfl
  have FMShr := fun_mk (st := cTape_rshift) lMShr qMShr kMShr
  have bMShr := FMShr.binds (ps := ["self", "time"]) fun _ _ _ _ _ _ us hl => match us, hl with | [_, _], _ => rfl
  have FMStm := fun_mk (st := cTape_stamps) lMStm qMStm kMStm
  have bMStm := FMStm.binds (ps := ["self"]) fun _ _ _ _ _ _ us hl => match us, hl with | [_], _ => rfl
  have FMUpto := fun_mk (st := cTape_upto) lMUpto qMUpto kMUpto
  have bMUpto := FMUpto.binds (ps := ["self", "time"]) fun _ _ _ _ _ _ us hl => match us, hl with | [_, _], _ => rfl
  have FMChg := fun_mk (st := cTape_changed) lMChg qMChg kMChg
  have bMChg := FMChg.binds (ps := ["self", "table"]) fun _ _ _ _ _ _ us hl => match us, hl with | [_, _], _ => rfl
  have FPEv := fun_mk (st := cTape_events) lPEv qPEv kPEv
  have bPEv := FPEv.binds (ps := ["self"]) fun _ _ _ _ _ _ us hl => match us, hl with | [_], _ => rfl
  have FPLa := fun_mk (st := cTape_last) lPLa qPLa kPLa
  have bPLa := FPLa.binds (ps := ["self"]) fun _ _ _ _ _ _ us hl => match us, hl with | [_], _ => rfl
  have FMNi := fun_mk (st := cInvalidNumber_init) lMNi qMNi kMNi
  have bMNi := FMNi.binds (ps := ["self", "value"]) fun _ _ _ _ _ _ us hl => match us, hl with | [_, _], _ => rfl
  have X : WTxt mg uIsInteger uIsLetter := {
    len := (PySem.W.mg_none_of KX G zlen), isin := (PySem.W.mg_none_of KX G zisinstance), int := (PySem.W.mg_none_of KX G zint), bool := (PySem.W.mg_none_of KX G zbool), str := (PySem.W.mg_none_of KX G zstr), tup := (PySem.W.mg_none_of KX G ztuple), dict := (PySem.W.mg_none_of KX G zdict), all := (PySem.W.mg_none_of KX G zall), range := (PySem.W.mg_none_of KX G zrange),
    ie := ⟨_, (PySem.W.mg_of KX G cIE), tIE, by rw [eIE]⟩, ls := ⟨_, (PySem.W.mg_of KX G cLS), tLS, by rw [eLS]⟩, mn := ⟨_, (PySem.W.mg_of KX G cMN), tMN, by rw [eMN]⟩, fi := (PySem.W.mg_of KX G aIsInteger), fl := (PySem.W.mg_of KX G aIsLetter) }
  have GX : GTxt mg uThrow uPick := { len := (PySem.W.mg_none_of KX G zlen), int := (PySem.W.mg_none_of KX G zint), abs := (PySem.W.mg_none_of KX G zabs), max := (PySem.W.mg_none_of KX G zmax), thr := (PySem.W.mg_of KX G aThrow), pick := (PySem.W.mg_of KX G aPick), range := (PySem.W.mg_none_of KX G zrange), sorted := (PySem.W.mg_none_of KX G zsorted), list := (PySem.W.mg_none_of KX G zlist), tuple := (PySem.W.mg_none_of KX G ztuple) }
  obtain ⟨es, nA, Z⟩ := atxt_of (K := K) (w := w) (mg := mg) (d := dA) ⟨_, (PySem.W.mg_of KX G cA), rfl⟩ eA keys25_mem
  have TY : TpTxt K mg uC uNew uMEq := ⟨⟨t1, t2, t3, t4⟩, t5, t6, ⟨t7, t8, t9, t10⟩, (PySem.W.mg_of KX G aC), tMEq, fMEq, t13, t14, t15, t16, (tapOk_iff t17).1, (tapOk_iff t17).2.1, (tapOk_iff t17).2.2.1, (tapOk_iff t17).2.2.2.1, (tapOk_iff t17).2.2.2.2⟩
  have FNew : FunD K "__init__" "Tape.__init__" (defArgs cTape_init) (defBody cTape_init) (defScope cTape_init) [.ref uZ] [("last", .non)] uNew _ := ⟨⟨_, _, _, _, _, _, _, _, _, _, rfl, lNew, qNew, .inr ⟨fun z => (nomatch z), uDf, _, [.ref uZ], nDf, rfl, lDf, rfl, .cons rfl .nil⟩, .inr ⟨uKw, rfl, fun q hq => by
    obtain rfl := List.mem_singleton.mp hq
    exact ⟨.none, nKw, rfl⟩⟩⟩, kNew⟩
  obtain ⟨ds0, v0, b0⟩ := FNew.binds (ps := ["self", "events", "last"]) 1 0 (fun z => nomatch z) rfl (fun T D doc pm an cdv ct us its ks h1 h2 h3 => match us, h1, its, h2, ks, h3 with | [_], _, [_], _, [_], _ => ⟨_, rfl, _, _, _, _, _, _, rfl, rfl, rfl⟩) (fun z => nomatch z)
  obtain ⟨is2, kb2⟩ := FNew.kbindsD (ps := ["self", "events", "last"]) 2 ["last"] (fun us _ ws => us ++ ws) (fun z => nomatch z) (fun a _ c => a.append c) (fun T kV doc pm an cdv ct us its ws h1 h2 h3 => match us, h1, its, h2, ws, h3 with | [_, _], _, [_], _, [_], _ => ⟨_, rfl, rfl⟩)
  obtain ⟨is1, kb1⟩ := FNew.kbindsD (ps := ["self", "events", "last"]) 1 ["last"] (fun us its ws => us ++ (its ++ ws)) (fun z => nomatch z) (fun a b c => a.append (b.append c)) (fun T kV doc pm an cdv ct us its ws h1 h2 h3 => match us, h1, its, h2, ws, h3 with | [_], _, [_], _, [_], _ => ⟨_, rfl, rfl⟩)
  refine ⟨fnOf "law" "law" (defArgs sLaw) (defBody sLaw) (defScope sLaw) .none kVLaw dcLaw pmLaw anLaw cdLaw ctLaw, fun s v => .of_eq rfl, fun base _ _ => ?_⟩
  unfold k3S at x3
  unfold k3E at x2
  simp only [Bool.and_eq_true] at x3 x2
  obtain ⟨sO, sT, sN, oN, bN, bO, bT⟩ := x3
  obtain ⟨m1, m2, m3, m4, m5, m6⟩ := x2
  have T2 : ErrT K mg "InvalidTape" uIT := ⟨(PySem.W.mg_of KX G aIT), sT, kIT, isB_eq bT, yIT⟩
  have T3 : ErrT K mg "InvalidOperation" uIO := ⟨(PySem.W.mg_of KX G aIO), sO, kIO, isB_eq bO, yIO⟩
  have E1 : Ek.EC K uIN rTail "RuntimeError.__new__" := ⟨sN, oN, w1, kIN, w2⟩
  have GNi : FnOk l.prog w K mg base CX0 1 uMNi _ ["self", "value"] (Ek.spInitX uIN "value") := ok_initN FMNi E1 w3 (PySem.W.mg_none_of KX G zRuntimeError) w4
  have EN : ErrN l.prog w K mg base uIN := ⟨"RuntimeError", "BaseException", _, _, _, rTail, ⟨(PySem.W.mg_of KX G aIN), PySem.F.excBase_RuntimeError, ⟨by decide +kernel, by decide +kernel, by decide +kernel, by decide +kernel⟩, E1, isB_eq bN, yIN, ⟨uMNi, _, tMNi, yMNi, GNi, bMNi⟩⟩⟩
  have XF : ExF K mg uIN uIO uIT := ⟨(PySem.W.mg_of KX G aIN), (PySem.W.mg_of KX G aIO), (PySem.W.mg_of KX G aIT), isB_eq m1, isB_eq m2, isB_eq m3, isB_eq m4, isB_eq m5, isB_eq m6, ⟨w5, w6, isB_eq bN, w1⟩, w7⟩
  have pE : PropG l.prog w K mg base uC "events" "_events" := ⟨uPEvp, uPEv, _, ⟨tPEv, gPEv, hPEv, ⟨_, rPEv⟩⟩, fn_getter lPEv qPEv scGet1 rfl rfl TY.cl TY.nE, bPEv⟩
  have pL : PropG l.prog w K mg base uC "last" "_last" := ⟨uPLap, uPLa, _, ⟨tPLa, gPLa, hPLa, ⟨_, rPLa⟩⟩, fn_getter lPLa qPLa scGet2 rfl rfl TY.cl TY.nL, bPLa⟩
  have GEv : FnOk l.prog w K mg base CX0 3 uIsEvent _ ["value"] (spIs noT IsEvent) := ok_is_event own_no FIsEvent X Z (PySem.W.mg_of KX G aIsName) FIsLetter bIsLetter FIsInteger bIsInteger FIsName bIsName
  have GRow : FnOk l.prog w K mg base CX0 4 uRow _ ["value"] (spRow K noT) := ok_row own_no FRow X (PySem.W.mg_of KX G aIsEvent) kIsEvent bIsEvent GEv
  have GNew : FnOk l.prog w K mg base (L2.CX l.prog w) 5 uNew _ ["self", "events", "last"] (spInitT K uC uIT) := ok_init FNew TY X T2 (PySem.W.mg_of KX G aRow) kRow bRow GRow FIsInteger bIsInteger
  have N : TNew l.prog w K mg base uC uIT uNew uMEq uZ _ := ⟨TY, GNew, ⟨_, kb2⟩, ⟨_, kb1⟩, ⟨ds0, v0, b0⟩, fun H => ⟨.inr ⟨_, #[], nZ, lZ, rfl, rfl, Nat.zero_le _, .nil⟩, .kTuple lZ rfl⟩⟩
  have GBt : FnOk l.prog w K mg base CX0 2 uIsBetween _ ["value", "least", "most"] (spBet K) := ok_bet FIsBetween X FIsInteger bIsInteger
  have GTb : FnOk l.prog w K mg base CX0 2 uIsValueTable _ ["value"] (spTab K) := ok_tab FIsValueTable X FIsInteger bIsInteger
  have GShr : FnOk l.prog w K mg base (L2.CX l.prog w) 7 uMShr _ ["self", "time"] (spShr K uC uIN uIT) := ok_shr FMShr N X EN FIsInteger bIsInteger
  have DS : OO.Dun K uC "__rshift__" uMShr := ⟨tMShr, fMShr⟩
  have BA := k3A_t x1
  have GAdd : FnOk l.prog w K mg base (L2.CX l.prog w) 8 uMAdd _ ["self", "other"] (spAdd K uC uIO uIT) := ok_add FMAdd N (PySem.W.mg_none_of KX G zisinstance) T3 pE pL DS x4 (BA "int" (by decide)).2.1 bMShr GShr
  have GUp : FnOk l.prog w K mg base (L2.CX l.prog w) 7 uMUpto _ ["self", "time"] (spUpto K uC uIN) := ok_upto FMUpto N X EN (PySem.W.mg_of KX G aIsBetween) kIsBetween bIsBetween GBt
  have GCh : FnOk l.prog w K mg base (L2.CX l.prog w) 7 uMChg _ ["self", "table"] (spChg K uC uIT) := ok_chg FMChg N X T2 (PySem.W.mg_of KX G aIsValueTable) kIsValueTable bIsValueTable GTb
  have M : TM1 l.prog w K mg base uC uIN uIO uIT := ⟨TY.cl, x4, fun T hT => (BA T hT).1, fun T hT => (BA T hT).2.1, fun T hT => (BA T hT).2.2, ⟨_, _, ⟨tMAdd, fMAdd⟩, GAdd, bMAdd⟩, ⟨_, _, DS, GShr, bMShr⟩, ⟨_, _, ⟨tMUpto, fMUpto, kMUpto⟩, GUp, bMUpto⟩, ⟨_, _, ⟨tMChg, fMChg, kMChg⟩, GCh, bMChg⟩⟩
  have M2 : TM2 l.prog w K mg base uC uNew uMEq := ⟨TY, ⟨_, ok_eqT FMEq TY (PySem.W.mg_none_of KX G zisinstance), bMEq⟩, ⟨_, _, ⟨tMLen, fMLen⟩, ok_len FMLen TY (PySem.W.mg_none_of KX G zlen), bMLen⟩, ⟨_, _, ⟨tMItem, fMItem⟩, x5, ok_item FMItem TY (PySem.W.mg_none_of KX G zlen) (PySem.W.mg_of KX G aIsBetween) kIsBetween bIsBetween GBt, bMItem⟩, ⟨_, _, ⟨tMStm, fMStm, kMStm⟩, ok_stamps FMStm TY (PySem.W.mg_none_of KX G ztuple), bMStm⟩, pE, pL⟩
  have GThrow : FnOk l.prog w K mg base CX0 1 uThrow _ ["bag", "total"] spThrow := ok_throw FThrow GX.toTxtA
  have GStart : FnOk l.prog w K mg base CX0 1 uStart _ ["script", "at"] (spStart K) := ok_start FStart GX.toTxtA
  have GLayout : FnOk l.prog w K mg base CX0 4 uLayout _ ["bag", "sources", "letters"] spLayout := ok_layout FLayout GX (PySem.W.mg_of KX G aWords) (PySem.W.mg_of KX G aName) (PySem.W.mg_of KX G aLetters) FThrow bThrow FPick bPick FWords bWords FName bName FLetters bLetters
  have GEvents : FnOk l.prog w K mg base CX0 3 uEvents _ ["bag", "layout", "most", "gap"] (spEvts K) := ok_events FEvents GX (PySem.W.mg_of KX G aValue) FThrow bThrow FPick bPick FValue bValue
  have GTape : FnOk l.prog w K mg base CX0 4 uTape _ ["bag", "layout", "most", "gap"] (spLTape K) := ok_ltape FTape GX (PySem.W.mg_of KX G aEvents) FThrow bThrow kEvents bEvents GEvents
  have GValue : FnOk l.prog w K mg base CX0 2 uValue _ ["bag"] spValue := ok_value FValue GX.toTxtA FThrow bThrow
  have GPick : FnOk l.prog w K mg base CX0 2 uPick _ ["bag", "items"] spPickL := ok_pickL FPick GX.toTxtA FThrow bThrow
  have GSame : FnOk l.prog w K mg base CX0 6 uSame _ ["one", "other"] (spSameE K 3) := ok_sameE FSame X (PySem.W.mg_none_of KX G zlist) (PySem.W.mg_none_of KX G zsorted) (PySem.W.mg_of KX G aSame) bSame 3
  have GLInt : FnOk l.prog w K mg base CX0 1 uLInt _ ["value"] (spInt K) := ok_lintv FLInt X (PySem.W.mg_none_of KX G zabs)
  have GLater : FnOk l.prog w K mg base CX0 1 uLater _ ["plain", "by"] (spLater K) := ok_later FLater X
  have GJoined : FnOk l.prog w K mg base CX0 2 uJoined _ ["plain", "other"] (spJoined K) := ok_joined FJoined (PySem.W.mg_of KX G aLater) kLater bLater GLater
  have GIsTape : FnOk l.prog w K mg base CX0 7 uIsTape _ ["tape", "plain"] (spIsTape K uC) := ok_istape FIsTape TY (PySem.W.mg_none_of KX G zisinstance) pE pL (PySem.W.mg_of KX G aSame) kSame bSame GSame
  have GDeed : FnOk l.prog w K mg base CX0 9 uDeed _ ["way", "tape", "operand"] (spDeed K uC) := ok_deed FDeed M XF
  have GDue : FnOk l.prog w K mg base CX0 3 uDue _ ["way", "plain", "operand"] (spDue K) := ok_due FDue X (PySem.W.mg_of KX G aJoined) kJoined bJoined GJoined (PySem.W.mg_of KX G aLater) kLater bLater GLater (PySem.W.mg_of KX G aLInt) kLInt bLInt GLInt
  have GFits : FnOk l.prog w K mg base CX0 8 uFits _ ["answer", "due"] (spFits K uC) := ok_fits FFits X (PySem.W.mg_of KX G aSame) kSame bSame GSame (PySem.W.mg_of KX G aIsTape) kIsTape bIsTape GIsTape
  have GWays : FnOk l.prog w K mg base CX0 9 uWays _ ["bag", "plain", "tape", "other", "third"] (spWays K uC) := ok_ways FWays X GX FThrow bThrow (PySem.W.mg_of KX G aValue) FValue bValue M M2 N
  have GDoubled : FnOk l.prog w K mg base CX0 9 uDoubled _ ["bag"] spDbl := ok_doubled FDoubled X GX FThrow bThrow M M2 N
  exact ok_law FLaw X (PySem.W.mg_none_of KX G zmax) (PySem.W.mg_none_of KX G zdict) M M2 N ⟨(PySem.W.mg_of KX G aThrow), kThrow, bThrow, GThrow⟩ ⟨(PySem.W.mg_of KX G aStart), kStart, bStart, GStart⟩ ⟨(PySem.W.mg_of KX G aLayout), kLayout, bLayout, GLayout⟩ ⟨(PySem.W.mg_of KX G aTape), kTape, bTape, GTape⟩ (PySem.W.mg_of KX G aPick) kPick bPick GPick ⟨(PySem.W.mg_of KX G aValue), kValue, bValue, GValue⟩ ⟨(PySem.W.mg_of KX G aWays), kWays, bWays, GWays⟩ ⟨(PySem.W.mg_of KX G aDoubled), kDoubled, bDoubled, GDoubled⟩ ⟨(PySem.W.mg_of KX G aDeed), kDeed, bDeed, GDeed⟩ ⟨(PySem.W.mg_of KX G aSame), kSame, bSame, GSame⟩ ⟨(PySem.W.mg_of KX G aFits), kFits, bFits, GFits⟩ ⟨(PySem.W.mg_of KX G aDue), kDue, bDue, GDue⟩ ⟨(PySem.W.mg_of KX G aIsTape), kIsTape, bIsTape, GIsTape⟩
theorem walk {l : PySem.W.OpenLaw} {q : Program} {loose : List Str} {XP : (Str → Option Value) → Heap → Prop} {YP : World → Heap → Prop} {d : DefRec} {K : Params → PySem.W.Frag} (hn : l.most = some 63) (hdf : d.params.defaults = [])
    (hY : ∀ (w : World) (h : Heap), YP w h → (K w.params).In h)
    (F : ∀ (w : World) (mg : Str → Option Value) (fa : Addr) (h : Heap), (K w.params).In h → h.Ns mainGlobals mg → mg d.name = some (.ref fa) →
      ∃ fd : FuncData, (∀ (s : Shared) (u : Value), BindsTo s fd ⟨[u], []⟩ [("script", u)]) ∧ ∀ base : Heap, (K w.params).In base → base.Ns mainGlobals mg → FnOk l.prog w (K w.params) mg base CX0 10 fa fd ["script"] (spLaw (K w.params))) :
    PySem.W.WalkO q loose XP YP l.row.toRowW d [] (fun f vs => PySem.call f vs) :=
  L2.walk_of (n := 63) (k := 10) (x := "script") (CX := fun _ => CX0) (sp := fun w => spLaw (K w.params)) hn (by decide) hdf ⟨rfl, by decide, by decide⟩ hY F (fun _ _ a ns hl _ hS => ⟨a, ns, rfl, hS, hl, fun _ => rfl⟩) fun _ _ _ _ _ z => z
end Wd

set_option Elab.async false
set_option linter.all false
set_option pp.maxSteps 300
set_option pp.deepTerms false
open PySem PySem.W PyProof.Rows in
set_option maxRecDepth 100000 in
set_option maxHeartbeats 0 in
theorem PySem.Challenge.cw_pushalike_k03_whole_tapes_joined_holds : PySem.Challenge.rw_pushalike_k03_whole_tapes_joined.Holds := by
  w_on; o_law; k_head; (case hw => w_witness2)
  k_fill
  refine Wd.walk (l := PySem.Challenge.rw_pushalike_k03_whole_tapes_joined) rfl rfl (fun w h Y => PySem.W.kIn_of Y) ?F
  case F =>
    intro w mg fa h KX G hmg
    refine' Wd.all_mk KX G hmg ?aIsInteger ?lIsInteger ?qIsInteger ?kIsInteger ?aIsBetween ?lIsBetween ?qIsBetween ?kIsBetween ?aIsLetter ?lIsLetter ?qIsLetter ?kIsLetter ?aIsName ?lIsName ?qIsName ?kIsName ?aIsEvent ?lIsEvent ?qIsEvent ?kIsEvent ?aRow ?lRow ?qRow ?kRow ?aIsValueTable ?lIsValueTable ?qIsValueTable ?kIsValueTable ?aStart ?lStart ?qStart ?kStart ?aThrow ?lThrow ?qThrow ?kThrow ?aPick ?lPick ?qPick ?kPick ?aLetters ?lLetters ?qLetters ?kLetters ?aWords ?lWords ?qWords ?kWords ?aName ?lName ?qName ?kName ?aLayout ?lLayout ?qLayout ?kLayout ?aValue ?lValue ?qValue ?kValue ?aEvents ?lEvents ?qEvents ?kEvents ?aTape ?lTape ?qTape ?kTape ?aSame ?lSame ?qSame ?kSame ?aLInt ?lLInt ?qLInt ?kLInt ?aLater ?lLater ?qLater ?kLater ?aJoined ?lJoined ?qJoined ?kJoined ?aIsTape ?lIsTape ?qIsTape ?kIsTape ?aDeed ?lDeed ?qDeed ?kDeed ?aDue ?lDue ?qDue ?kDue ?aFits ?lFits ?qFits ?kFits ?aWays ?lWays ?qWays ?kWays ?aDoubled ?lDoubled ?qDoubled ?kDoubled ?aLaw ?lLaw ?qLaw ?kLaw ?zlen ?zint ?zbool ?zstr ?ztuple ?zdict ?zall ?zrange ?zisinstance ?zabs ?zlist ?zsorted ?zmax ?zRuntimeError ?cIE ?eIE ?cMN ?eMN ?aC ?aIN ?aIO ?aIT ?t8 ?tMEq ?tMLen ?tMItem ?tMAdd ?tMShr ?tMStm ?tMUpto ?tMChg ?tPEv ?rPEv ?tPLa ?rPLa ?tMNi ?lNew ?qNew ?kNew ?lDf ?lZ ?nKw ?lMEq ?qMEq ?kMEq ?fMEq ?lMLen ?qMLen ?kMLen ?fMLen ?lMItem ?qMItem ?kMItem ?fMItem ?lMAdd ?qMAdd ?kMAdd ?fMAdd ?lMShr ?qMShr ?kMShr ?fMShr ?lMStm ?qMStm ?kMStm ?fMStm ?lMUpto ?qMUpto ?kMUpto ?fMUpto ?lMChg ?qMChg ?kMChg ?fMChg ?lPEv ?qPEv ?kPEv ?gPEv ?hPEv ?lPLa ?qPLa ?kPLa ?gPLa ?hPLa ?lMNi ?qMNi ?kMNi ?yMNi ?t1 ?t2 ?t3 ?t4 ?t5 ?t6 ?t7 ?t9 ?t10 ?t13 ?t14 ?t15 ?t16 ?t17 ?x1 ?x2 ?x3 ?x4 ?x5 ?kIN ?yIN ?kIO ?yIO ?kIT ?yIT ?w1 ?w2 ?w3 ?w4 ?w5 ?w6 ?w7 ?cLS ?eLS ?cA ?eA
    (case aIsInteger => k_is)
    (case lIsInteger => k_is)
    (case qIsInteger => k_is)
    (case kIsInteger => k_is)
    (case aIsBetween => k_is)
    (case lIsBetween => k_is)
    (case qIsBetween => k_is)
    (case kIsBetween => k_is)
    (case aIsLetter => k_is)
    (case lIsLetter => k_is)
    (case qIsLetter => k_is)
    (case kIsLetter => k_is)
    (case aIsName => k_is)
    (case lIsName => k_is)
    (case qIsName => k_is)
    (case kIsName => k_is)
    (case aIsEvent => k_is)
    (case lIsEvent => k_is)
    (case qIsEvent => k_is)
    (case kIsEvent => k_is)
    (case aRow => k_is)
    (case lRow => k_is)
    (case qRow => k_is)
    (case kRow => k_is)
    (case aIsValueTable => k_is)
    (case lIsValueTable => k_is)
    (case qIsValueTable => k_is)
    (case kIsValueTable => k_is)
    (case aStart => k_is)
    (case lStart => k_is)
    (case qStart => k_is)
    (case kStart => k_is)
    (case aThrow => k_is)
    (case lThrow => k_is)
    (case qThrow => k_is)
    (case kThrow => k_is)
    (case aPick => k_is)
    (case lPick => k_is)
    (case qPick => k_is)
    (case kPick => k_is)
    (case aLetters => k_is)
    (case lLetters => k_is)
    (case qLetters => k_is)
    (case kLetters => k_is)
    (case aWords => k_is)
    (case lWords => k_is)
    (case qWords => k_is)
    (case kWords => k_is)
    (case aName => k_is)
    (case lName => k_is)
    (case qName => k_is)
    (case kName => k_is)
    (case aLayout => k_is)
    (case lLayout => k_is)
    (case qLayout => k_is)
    (case kLayout => k_is)
    (case aValue => k_is)
    (case lValue => k_is)
    (case qValue => k_is)
    (case kValue => k_is)
    (case aEvents => k_is)
    (case lEvents => k_is)
    (case qEvents => k_is)
    (case kEvents => k_is)
    (case aTape => k_is)
    (case lTape => k_is)
    (case qTape => k_is)
    (case kTape => k_is)
    (case aSame => k_is)
    (case lSame => k_is)
    (case qSame => k_is)
    (case kSame => k_is)
    (case aLInt => k_is)
    (case lLInt => k_is)
    (case qLInt => k_is)
    (case kLInt => k_is)
    (case aLater => k_is)
    (case lLater => k_is)
    (case qLater => k_is)
    (case kLater => k_is)
    (case aJoined => k_is)
    (case lJoined => k_is)
    (case qJoined => k_is)
    (case kJoined => k_is)
    (case aIsTape => k_is)
    (case lIsTape => k_is)
    (case qIsTape => k_is)
    (case kIsTape => k_is)
    (case aDeed => k_is)
    (case lDeed => k_is)
    (case qDeed => k_is)
    (case kDeed => k_is)
    (case aDue => k_is)
    (case lDue => k_is)
    (case qDue => k_is)
    (case kDue => k_is)
    (case aFits => k_is)
    (case lFits => k_is)
    (case qFits => k_is)
    (case kFits => k_is)
    (case aWays => k_is)
    (case lWays => k_is)
    (case qWays => k_is)
    (case kWays => k_is)
    (case aDoubled => k_is)
    (case lDoubled => k_is)
    (case qDoubled => k_is)
    (case kDoubled => k_is)
    (case aLaw => k_is)
    (case lLaw => k_is)
    (case qLaw => k_is)
    (case kLaw => k_is)
    (case zlen => k_is)
    (case zint => k_is)
    (case zbool => k_is)
    (case zstr => k_is)
    (case ztuple => k_is)
    (case zdict => k_is)
    (case zall => k_is)
    (case zrange => k_is)
    (case zisinstance => k_is)
    (case zabs => k_is)
    (case zlist => k_is)
    (case zsorted => k_is)
    (case zmax => k_is)
    (case zRuntimeError => k_is)
    (case cIE => k_is)
    (case eIE => first | rfl | decide +kernel)
    (case cMN => k_is)
    (case eMN => first | rfl | decide +kernel)
    (case aC => k_is)
    (case aIN => k_is)
    (case aIO => k_is)
    (case aIT => k_is)
    (case t8 => k_is)
    (case tMEq => k_is)
    (case tMLen => k_is)
    (case tMItem => k_is)
    (case tMAdd => k_is)
    (case tMShr => k_is)
    (case tMStm => k_is)
    (case tMUpto => k_is)
    (case tMChg => k_is)
    (case tPEv => k_is)
    (case rPEv => k_is)
    (case tPLa => k_is)
    (case rPLa => k_is)
    (case tMNi => k_is)
    (case lNew => k_is)
    (case qNew => k_is)
    (case kNew => k_is)
    (case lDf => k_is)
    (case lZ => k_is)
    (case nKw => k_is)
    (case lMEq => k_is)
    (case qMEq => k_is)
    (case kMEq => k_is)
    (case fMEq => k_is)
    (case lMLen => k_is)
    (case qMLen => k_is)
    (case kMLen => k_is)
    (case fMLen => k_is)
    (case lMItem => k_is)
    (case qMItem => k_is)
    (case kMItem => k_is)
    (case fMItem => k_is)
    (case lMAdd => k_is)
    (case qMAdd => k_is)
    (case kMAdd => k_is)
    (case fMAdd => k_is)
    (case lMShr => k_is)
    (case qMShr => k_is)
    (case kMShr => k_is)
    (case fMShr => k_is)
    (case lMStm => k_is)
    (case qMStm => k_is)
    (case kMStm => k_is)
    (case fMStm => k_is)
    (case lMUpto => k_is)
    (case qMUpto => k_is)
    (case kMUpto => k_is)
    (case fMUpto => k_is)
    (case lMChg => k_is)
    (case qMChg => k_is)
    (case kMChg => k_is)
    (case fMChg => k_is)
    (case lPEv => k_is)
    (case qPEv => k_is)
    (case kPEv => k_is)
    (case gPEv => k_is)
    (case hPEv => k_is)
    (case lPLa => k_is)
    (case qPLa => k_is)
    (case kPLa => k_is)
    (case gPLa => k_is)
    (case hPLa => k_is)
    (case lMNi => k_is)
    (case qMNi => k_is)
    (case kMNi => k_is)
    (case yMNi => k_is)
    (case t1 => k_is)
    (case t2 => k_is)
    (case t3 => k_is)
    (case t4 => k_is)
    (case t5 => k_is)
    (case t6 => k_is)
    (case t7 => k_is)
    (case t9 => k_is)
    (case t10 => k_is)
    (case t13 => k_is)
    (case t14 => k_is)
    (case t15 => k_is)
    (case t16 => k_is)
    (case t17 => kernel_rfl)
    (case x1 => kernel_rfl)
    (case x2 => kernel_rfl)
    (case x3 => kernel_rfl)
    (case x4 => kernel_rfl)
    (case x5 => first | k_is | kernel_rfl)
    (case kIN => k_is)
    (case yIN => k_is)
    (case kIO => k_is)
    (case yIO => k_is)
    (case kIT => k_is)
    (case yIT => k_is)
    (case w1 => k_is)
    (case w2 => k_is)
    (case w3 => first | k_is | kernel_rfl)
    (case w4 => k_is)
    (case w5 => k_is)
    (case w6 => k_is)
    (case w7 => k_is)
    (case cLS => k_is)
    (case eLS => first | rfl | decide +kernel)
    (case cA => k_is)
    (case eA => first | rfl | kernel_rfl | k_is)
