import PyProof.Rows.All
import Wide.All
import OpenK.AllK
import HandS.Words
import Wide.FinOn
import HandS.ForMost
import HandS.Wide
import HandS.Walk
import HandS.IsInst
import HandS.WordsDict
import HandS.Sort
import HandS.TupMul
import HandS.CallLocal
import KE.KOpsOwn
import HandS.Exc
import PyProof.Rows.ReprR
import HandS.TryOnly
import HandS.ExcOwn
import HandS.Property
import HandS.FStr
import HandS.WordsExc
import HandS.Codes
import HandS.ExcInit
import KE.KExcInit
import HandS.ExcValue
import KE.KExcIs
import HandS.ForExc
import HandS.ExcField
import HandS.ClsMeth
import HandS.More
import HandS.Conv
import HandS.Zip
import KE.KCallOwn
import HandS.Comp
import OpenK.KMeth
import HandS.SortOrd
import HandS.TupSets
import HandS.Dict
import KE.KRevSl
import HandS.Iter
import KE.GoesMore
import KE.GoesEnum
import HandS.Deep
import HandS.TupAny
import HandS.Style
import HandS.HeadHook3
import PySem.Challenge.RW_pushalike_k25_whole_histories_of_bounds
set_option Elab.async false
namespace Wd
open PySem L2
def topS (i : Nat) : Stmt := PySem.Challenge.pw_pushalike_k25_whole_histories_of_bounds.main.body.getD i (.Pass ⟨0, 0, 0, 0⟩)
abbrev sIsInteger : Stmt := topS 3
abbrev sIsBetween : Stmt := topS 4
abbrev sAreIntegers : Stmt := topS 5
abbrev sIsRows : Stmt := topS 14
abbrev sTightRows : Stmt := topS 15
abbrev sZeroRows : Stmt := topS 16
abbrev sHolds : Stmt := topS 17
abbrev sBothRows : Stmt := topS 18
abbrev sCutRows : Stmt := topS 19
abbrev sLaterRows : Stmt := topS 20
abbrev sRisenRows : Stmt := topS 21
abbrev sMovedRows : Stmt := topS 22
abbrev sCheckClocks : Stmt := topS 25
abbrev sArePlaces : Stmt := topS 26
abbrev sStart : Stmt := topS 28
abbrev sThrow : Stmt := topS 29
abbrev sPick : Stmt := topS 30
abbrev sGreatest : Stmt := topS 31
abbrev sSame : Stmt := topS 32
abbrev sIsOf : Stmt := topS 33
abbrev sRisen : Stmt := topS 34
abbrev sPlaces : Stmt := topS 35
abbrev sMoved : Stmt := topS 36
abbrev sDueNow : Stmt := topS 37
abbrev sCutTo : Stmt := topS 38
abbrev sLaw : Stmt := topS 39
abbrev cUnknownIndex_init : Stmt := inClass (topS 10) 0
abbrev cInvalidNumber_init : Stmt := inClass (topS 11) 0
abbrev cBounds_init : Stmt := inClass (topS 24) 0
abbrev cBounds_zero : Stmt := inClass (topS 24) 1
abbrev cBounds_rows : Stmt := inClass (topS 24) 2
abbrev cBounds_len : Stmt := inClass (topS 24) 3
abbrev cBounds_contains : Stmt := inClass (topS 24) 4
abbrev cBounds_eq : Stmt := inClass (topS 24) 5
abbrev cBounds_str : Stmt := inClass (topS 24) 6
abbrev cBounds_and : Stmt := inClass (topS 24) 7
abbrev cBounds_rshift : Stmt := inClass (topS 24) 8
abbrev cBounds_least : Stmt := inClass (topS 24) 9
abbrev cBounds_within : Stmt := inClass (topS 24) 10
abbrev cBounds_cut : Stmt := inClass (topS 24) 11
abbrev cBounds_risen : Stmt := inClass (topS 24) 12
abbrev cBounds_moved : Stmt := inClass (topS 24) 13
end Wd

set_option Elab.async false
set_option linter.all false
set_option maxRecDepth 100000
set_option maxHeartbeats 4000000
namespace Wd
open PySem L2
/-- all but the objects in B is as it was -/
def Ob (B : List Addr) (H H' : Hp) : Prop := ∀ b o, b ∉ B → H b = some o → H' b = some o
theorem Ob.refl (B : List Addr) (H : Hp) : Ob B H H := fun _ _ _ h => h
theorem Ob.trans {B : List Addr} {H H1 H2 : Hp} (a : Ob B H H1) (b : Ob B H1 H2) : Ob B H H2 := fun c o n h => b c o n (a c o n h)
theorem Ob.same {B : List Addr} {H H1 H2 : Hp} (a : Ob B H H1) (b : Same H1 H2) : Ob B H H2 := fun c o n h => b c o (a c o n h)
theorem Ob.of {B : List Addr} {H H' : Hp} (a : Same H H') : Ob B H H' := fun b o _ h => a b o h
/-- values of a kind of their own: no data -/
structure Own (K : PySem.W.Frag) (T : List Addr → Hp → Addr → Prop) : Prop where
  mono : ∀ {B H H' a}, Ob B H H' → T B H a → T B H' a
  more : ∀ {B H a d}, (∃ kvs, H d = some (.dK kvs)) → T B H a → T (d :: B) H a
  tup : ∀ {B H a xs}, T B H a → H a ≠ some (.tup xs)
  lst : ∀ {B H a xs}, T B H a → H a ≠ some (.lst xs)
  dK : ∀ {B H a xs}, T B H a → H a ≠ some (.dK xs)
  ty : ∀ {B H a}, T B H a → ∃ t, TyX K H (.ref a) t ∧ ∀ n ∈ ["int", "bool", "str", "tuple", "list", "dict"], PySem.W.kitOne K t (.type n) = some false
/-- data over a heap: sizes of at most m, nested less than n deep; nothing of it is an object in B -/
inductive Dat (T : List Addr → Hp → Addr → Prop) (B : List Addr) (H : Hp) (m : Nat) : Nat → V → Prop where
  | non {n} : Dat T B H m (n + 1) .non
  | bl {n} (b : Bool) : Dat T B H m (n + 1) (.bl b)
  | int {n} (i : Int) : Dat T B H m (n + 1) (.int i)
  | str {n} (s : Str) (h : s.length ≤ m) (o : PyData.strOk s = true) : Dat T B H m (n + 1) (.str s)
  | own {n} {a : Addr} (t : T B H a) : Dat T B H m (n + 1) (.ref a)
  | tup {n} {a : Addr} {xs : List V} (ne : a ∉ B) (e : H a = some (.tup xs)) (l : xs.length ≤ m) (p : ∀ x ∈ xs, Dat T B H m n x) : Dat T B H m (n + 1) (.ref a)
  | lst {n} {a : Addr} {xs : List V} (ne : a ∉ B) (e : H a = some (.lst xs)) (l : xs.length ≤ m) (p : ∀ x ∈ xs, Dat T B H m n x) : Dat T B H m (n + 1) (.ref a)
  | dic {n} {a : Addr} {kvs : List (Key × V)} (ne : a ∉ B) (e : H a = some (.dK kvs)) (l : 20 * kvs.length ≤ m) (nd : (kvs.map (·.1)).Nodup)
      (k : ∀ p ∈ kvs, ∃ s : Str, p.1 = Sum.inr s ∧ s.length ≤ m ∧ PyData.strOk s = true) (p : ∀ p ∈ kvs, Dat T B H m n p.2) : Dat T B H m (n + 1) (.ref a)
section
variable {K : PySem.W.Frag} {T : List Addr → Hp → Addr → Prop} {B : List Addr} {H H' : Hp} {m m' n n' : Nat} {v : V}
theorem Dat.mono (O : Own K T) (sb : Ob B H H') (d : Dat T B H m n v) : Dat T B H' m n v := by
  induction d with
  | non => exact .non
  | bl b => exact .bl b
  | int i => exact .int i
  | str s h o => exact .str s h o
  | own t => exact .own (O.mono sb t)
  | tup ne e l p ih => exact .tup ne (sb _ _ ne e) l ih
  | lst ne e l p ih => exact .lst ne (sb _ _ ne e) l ih
  | dic ne e l nd k p ih => exact .dic ne (sb _ _ ne e) l nd k ih
theorem Dat.up (hm : m ≤ m') (d : Dat T B H m n v) : ∀ {n'}, n ≤ n' → Dat T B H m' n' v := by
  induction d with
  | non => intro n' h; obtain ⟨q, rfl⟩ := Nat.exists_eq_succ_of_ne_zero (n := n') (by omega); exact .non
  | bl b => intro n' h; obtain ⟨q, rfl⟩ := Nat.exists_eq_succ_of_ne_zero (n := n') (by omega); exact .bl b
  | int i => intro n' h; obtain ⟨q, rfl⟩ := Nat.exists_eq_succ_of_ne_zero (n := n') (by omega); exact .int i
  | str s z o => intro n' h; obtain ⟨q, rfl⟩ := Nat.exists_eq_succ_of_ne_zero (n := n') (by omega); exact .str s (by omega) o
  | own t => intro n' h; obtain ⟨q, rfl⟩ := Nat.exists_eq_succ_of_ne_zero (n := n') (by omega); exact .own t
  | tup ne e l p ih => intro n' h; obtain ⟨q, rfl⟩ := Nat.exists_eq_succ_of_ne_zero (n := n') (by omega); exact .tup ne e (by omega) fun x hx => ih x hx (by omega)
  | lst ne e l p ih => intro n' h; obtain ⟨q, rfl⟩ := Nat.exists_eq_succ_of_ne_zero (n := n') (by omega); exact .lst ne e (by omega) fun x hx => ih x hx (by omega)
  | dic ne e l nd k p ih =>
    intro n' h; obtain ⟨q, rfl⟩ := Nat.exists_eq_succ_of_ne_zero (n := n') (by omega)
    exact .dic ne e (by omega) nd (fun p hp => let ⟨s, h1, h2, h3⟩ := k p hp; ⟨s, h1, by omega, h3⟩) fun x hx => ih x hx (by omega)
theorem Dat.okS {s : Str} (d : Dat T B H m n (.str s)) : PyData.strOk s = true := by
  cases d with
  | str _ _ o => exact o
theorem ok_sign {z : Str} (h : PyData.strOk z = true) {i c : Nat} (e : z.cps[i]? = some c) : PyData.strOk ⟨#[c]⟩ = true := by
  unfold PyData.strOk at h ⊢
  rw [Array.all_eq_true'] at h
  have := h c (Array.mem_of_getElem? e)
  simpa using this
/-- what does not reach the dict at d -/
theorem Dat.past (O : Own K T) {d : Addr} (hd : ∃ kvs, H d = some (.dK kvs)) (x : Dat T B H m n v) : ¬ Dat T B H m n (.ref d) → Dat T (d :: B) H m n v := by
  induction x with
  | non => exact fun _ => .non
  | bl b => exact fun _ => .bl b
  | int i => exact fun _ => .int i
  | str s h o => exact fun _ => .str s h o
  | own t => exact fun _ => .own (O.more hd t)
  | @tup k a xs ne e l p ih =>
    intro no
    have nd : a ≠ d := fun z => no (z ▸ .tup ne e l p)
    exact .tup (by simp [nd, ne]) e l fun x hx => ih x hx fun q => no (q.up (Nat.le_refl _) (Nat.le_succ _))
  | @lst k a xs ne e l p ih =>
    intro no
    have nd : a ≠ d := fun z => no (z ▸ .lst ne e l p)
    exact .lst (by simp [nd, ne]) e l fun x hx => ih x hx fun q => no (q.up (Nat.le_refl _) (Nat.le_succ _))
  | @dic k a xs ne e l nd ks p ih =>
    intro no
    have nn : a ≠ d := fun z => no (z ▸ .dic ne e l nd ks p)
    exact .dic (by simp [nn, ne]) e l nd ks fun x hx => ih x hx fun q => no (q.up (Nat.le_refl _) (Nat.le_succ _))
/-- the values of a dict do not reach it -/
theorem Dat.kids (O : Own K T) {d : Addr} {kvs : List (Key × V)} (hd : H d = some (.dK kvs)) : ∀ n, Dat T B H m (n + 1) (.ref d) → ∀ p ∈ kvs, Dat T (d :: B) H m n p.2
  | n, x => by
    by_cases h : Dat T B H m n (.ref d)
    · cases n with
      | zero => cases h
      | succ k => exact fun p hp => (Dat.kids O hd k h p hp).up (Nat.le_refl _) (Nat.le_succ _)
    · intro p hp
      cases x with
      | own t => exact absurd hd (O.dK t)
      | tup ne e l q => rw [hd] at e; cases e
      | lst ne e l q => rw [hd] at e; cases e
      | dic ne e l nd ks q =>
        rw [hd] at e
        cases e
        exact (q p hp).past O ⟨_, hd⟩ h
/-- isinstance(v, N) is answered with c -/
def Isi (K : PySem.W.Frag) (H : Hp) (v : V) (N : String) (c : Bool) : Prop := ∃ t, TyX K H v t ∧ PySem.W.kitOne K t (.type N) = some c
theorem isi_ty {a b : String} {r : Bool} (x : TyX K H v (.type a)) (h : kitB a b = some r) : Isi K H v b r := ⟨_, x, kit_ty h⟩
theorem Own.isi (O : Own K T) {a : Addr} (t : T B H a) {N : String} (h : N ∈ ["int", "bool", "str", "tuple", "list", "dict"]) : Isi K H (.ref a) N false :=
  let ⟨u, x, k⟩ := O.ty t; ⟨u, x, k N h⟩
theorem Dat.isTup (O : Own K T) (sb : Ob B H H') (d : Dat T B H m n v) :
    (∃ a xs k, v = .ref a ∧ a ∉ B ∧ H a = some (.tup xs) ∧ H' a = some (.tup xs) ∧ xs.length ≤ m ∧ (∀ x ∈ xs, Dat T B H m k x) ∧ Isi K H' v "tuple" true) ∨
      ((∀ a xs, v = .ref a → H a ≠ some (.tup xs)) ∧ Isi K H' v "tuple" false) := by
  cases d with
  | non => exact .inr ⟨fun a xs h => (nomatch h), isi_ty (.base .non) (by decide)⟩
  | bl b => exact .inr ⟨fun a xs h => (nomatch h), isi_ty (.base (.bl b)) (by decide)⟩
  | int b => exact .inr ⟨fun a xs h => (nomatch h), isi_ty (.base (.int b)) (by decide)⟩
  | str b => exact .inr ⟨fun a xs h => (nomatch h), isi_ty (.base (.str b)) (by decide)⟩
  | own t => exact .inr ⟨fun a xs h => by cases h; exact O.tup t, O.isi (O.mono sb t) (by decide)⟩
  | tup ne e l p => exact .inl ⟨_, _, _, rfl, ne, e, sb _ _ ne e, l, p, isi_ty (.base (.tup (sb _ _ ne e))) (by decide)⟩
  | lst ne e l p => exact .inr ⟨fun a xs h q => (by cases h; rw [e] at q; cases q), isi_ty (.base (.lst (sb _ _ ne e))) (by decide)⟩
  | dic ne e l nd k p => exact .inr ⟨fun a xs h q => (by cases h; rw [e] at q; cases q), isi_ty (.base (.dK (sb _ _ ne e))) (by decide)⟩
theorem Dat.isLst (O : Own K T) (sb : Ob B H H') (d : Dat T B H m n v) :
    (∃ a xs k, v = .ref a ∧ a ∉ B ∧ n = k + 1 ∧ H a = some (.lst xs) ∧ H' a = some (.lst xs) ∧ xs.length ≤ m ∧ (∀ x ∈ xs, Dat T B H m k x) ∧ Isi K H' v "list" true) ∨
      ((∀ a xs, v = .ref a → H a ≠ some (.lst xs)) ∧ Isi K H' v "list" false) := by
  cases d with
  | non => exact .inr ⟨fun a xs h => (nomatch h), isi_ty (.base .non) (by decide)⟩
  | bl b => exact .inr ⟨fun a xs h => (nomatch h), isi_ty (.base (.bl b)) (by decide)⟩
  | int b => exact .inr ⟨fun a xs h => (nomatch h), isi_ty (.base (.int b)) (by decide)⟩
  | str b => exact .inr ⟨fun a xs h => (nomatch h), isi_ty (.base (.str b)) (by decide)⟩
  | own t => exact .inr ⟨fun a xs h => by cases h; exact O.lst t, O.isi (O.mono sb t) (by decide)⟩
  | lst ne e l p => exact .inl ⟨_, _, _, rfl, ne, rfl, e, sb _ _ ne e, l, p, isi_ty (.base (.lst (sb _ _ ne e))) (by decide)⟩
  | tup ne e l p => exact .inr ⟨fun a xs h q => (by cases h; rw [e] at q; cases q), isi_ty (.base (.tup (sb _ _ ne e))) (by decide)⟩
  | dic ne e l nd k p => exact .inr ⟨fun a xs h q => (by cases h; rw [e] at q; cases q), isi_ty (.base (.dK (sb _ _ ne e))) (by decide)⟩
theorem Dat.isDic (O : Own K T) (sb : Ob B H H') (d : Dat T B H m n v) :
    (∃ a kvs k, v = .ref a ∧ a ∉ B ∧ n = k + 1 ∧ H a = some (.dK kvs) ∧ H' a = some (.dK kvs) ∧ 20 * kvs.length ≤ m ∧ (kvs.map (·.1)).Nodup ∧ (∀ p ∈ kvs, ∃ s : Str, p.1 = Sum.inr s ∧ s.length ≤ m ∧ PyData.strOk s = true) ∧ (∀ p ∈ kvs, Dat T B H m k p.2) ∧ Isi K H' v "dict" true) ∨
      ((∀ a xs, v = .ref a → H a ≠ some (.dK xs)) ∧ Isi K H' v "dict" false) := by
  cases d with
  | non => exact .inr ⟨fun a xs h => (nomatch h), isi_ty (.base .non) (by decide)⟩
  | bl b => exact .inr ⟨fun a xs h => (nomatch h), isi_ty (.base (.bl b)) (by decide)⟩
  | int b => exact .inr ⟨fun a xs h => (nomatch h), isi_ty (.base (.int b)) (by decide)⟩
  | str b => exact .inr ⟨fun a xs h => (nomatch h), isi_ty (.base (.str b)) (by decide)⟩
  | own t => exact .inr ⟨fun a xs h => by cases h; exact O.dK t, O.isi (O.mono sb t) (by decide)⟩
  | lst ne e l p => exact .inr ⟨fun a xs h q => (by cases h; rw [e] at q; cases q), isi_ty (.base (.lst (sb _ _ ne e))) (by decide)⟩
  | tup ne e l p => exact .inr ⟨fun a xs h q => (by cases h; rw [e] at q; cases q), isi_ty (.base (.tup (sb _ _ ne e))) (by decide)⟩
  | dic ne e l nd k p => exact .inl ⟨_, _, _, rfl, ne, rfl, e, sb _ _ ne e, l, nd, k, p, isi_ty (.base (.dK (sb _ _ ne e))) (by decide)⟩
theorem Dat.isStr (O : Own K T) (sb : Ob B H H') (d : Dat T B H m n v) :
    (∃ s, v = .str s ∧ s.length ≤ m ∧ Isi K H' v "str" true) ∨ ((∀ s, v ≠ .str s) ∧ Isi K H' v "str" false) := by
  cases d with
  | non => exact .inr ⟨fun a h => (nomatch h), isi_ty (.base .non) (by decide)⟩
  | bl b => exact .inr ⟨fun a h => (nomatch h), isi_ty (.base (.bl b)) (by decide)⟩
  | int b => exact .inr ⟨fun a h => (nomatch h), isi_ty (.base (.int b)) (by decide)⟩
  | str b h => exact .inl ⟨_, rfl, h, isi_ty (.base (.str b)) (by decide)⟩
  | own t => exact .inr ⟨fun a h => (nomatch h), O.isi (O.mono sb t) (by decide)⟩
  | lst ne e l p => exact .inr ⟨fun a h => (nomatch h), isi_ty (.base (.lst (sb _ _ ne e))) (by decide)⟩
  | tup ne e l p => exact .inr ⟨fun a h => (nomatch h), isi_ty (.base (.tup (sb _ _ ne e))) (by decide)⟩
  | dic ne e l nd k p => exact .inr ⟨fun a h => (nomatch h), isi_ty (.base (.dK (sb _ _ ne e))) (by decide)⟩
theorem Dat.isInt (O : Own K T) (sb : Ob B H H') (d : Dat T B H m n v) :
    (∃ i, v = .int i ∧ Isi K H' v "int" true ∧ Isi K H' v "bool" false) ∨ ((∀ i, v ≠ .int i) ∧ ((Isi K H' v "int" true ∧ Isi K H' v "bool" true) ∨ Isi K H' v "int" false)) := by
  cases d with
  | non => exact .inr ⟨fun a h => (nomatch h), .inr (isi_ty (.base .non) (by decide))⟩
  | bl b => exact .inr ⟨fun a h => (nomatch h), .inl ⟨isi_ty (.base (.bl b)) (by decide), isi_ty (.base (.bl b)) (by decide)⟩⟩
  | int b => exact .inl ⟨_, rfl, isi_ty (.base (.int b)) (by decide), isi_ty (.base (.int b)) (by decide)⟩
  | str b => exact .inr ⟨fun a h => (nomatch h), .inr (isi_ty (.base (.str b)) (by decide))⟩
  | own t => exact .inr ⟨fun a h => (nomatch h), .inr (O.isi (O.mono sb t) (by decide))⟩
  | lst ne e l p => exact .inr ⟨fun a h => (nomatch h), .inr (isi_ty (.base (.lst (sb _ _ ne e))) (by decide))⟩
  | tup ne e l p => exact .inr ⟨fun a h => (nomatch h), .inr (isi_ty (.base (.tup (sb _ _ ne e))) (by decide))⟩
  | dic ne e l nd k p => exact .inr ⟨fun a h => (nomatch h), .inr (isi_ty (.base (.dK (sb _ _ ne e))) (by decide))⟩
/-- isinstance(x, N), answered -/
def rIsN (K : PySem.W.Frag) : List V → Hp → VK → Prop := fun xs H Q => ∃ (x : V) (N : String) (c : Bool), xs = [x, .ty N] ∧ Isi K H x N c ∧ Q (.bl c) H
theorem call_isN {X : Cx} : CallR X (.builtin "isinstance") (rIsN X.K) := fun pins s σ H vs us Q I r h => by
  obtain ⟨x, N, c, e, ⟨t, ht, k⟩, q⟩ := h
  exact call_isi pins s σ H vs us Q I r ⟨x, _, t, _, c, e, .ty N, ht, k, q⟩
end
/-! ### what the words mean -/
abbrev ten60 : Int := 10 ^ 60
def IsInt (v : V) : Prop := ∃ i, v = .int i ∧ -ten60 < i ∧ i < ten60
def low (c : Nat) : Prop := 97 ≤ c ∧ c ≤ 122
def IsLet (v : V) : Prop := ∃ c : Nat, v = .str ⟨#[c]⟩ ∧ low c
def words : List Str := ["after", "again", "at", "busy", "changes", "else", "every", "first", "fold", "it", "late", "never", "one",
  "only", "pairs", "pick", "quiet", "source", "spaced", "switch", "then", "told", "until"].map Str.ofString
def NameS (s : Str) : Prop := 1 ≤ s.length ∧ s.length ≤ 8 ∧ (∀ c ∈ s.cps.toList, low c) ∧ s ∉ words
def IsName (v : V) : Prop := ∃ s, v = .str s ∧ NameS s
def letV (cs : List Nat) : List V := cs.map fun c => V.str ⟨#[c]⟩
def Letters (cs : List Nat) : Prop := cs ≠ [] ∧ (∀ c ∈ cs, low c) ∧ cs.Pairwise (· < ·)
def IsLetters (H : Hp) (v : V) : Prop := ∃ a cs, v = .ref a ∧ H a = some (.tup (letV cs)) ∧ Letters cs
def IsSrcL (H : Hp) (v : V) : Prop := ∃ a cs, v = .ref a ∧ H a = some (.tup (letV cs)) ∧ Letters cs ∧ cs.length ≤ 4
def IsLayout (H : Hp) (v : V) : Prop := ∃ a kvs, v = .ref a ∧ H a = some (.dK kvs) ∧ 1 ≤ kvs.length ∧ kvs.length ≤ 4 ∧ ∀ p ∈ kvs, IsName (kV p.1) ∧ IsSrcL H p.2
def IsEvent (H : Hp) (v : V) : Prop := ∃ a t u l w, v = .ref a ∧ H a = some (.tup [t, u, l, w]) ∧ (∃ i, t = .int i ∧ 0 ≤ i ∧ i < ten60) ∧ IsName u ∧ IsLet l ∧ IsInt w
def IsVals (H : Hp) (v : V) : Prop := ∃ a xs, v = .ref a ∧ H a = some (.tup xs) ∧ xs.length ≤ 4 ∧ ∀ x ∈ xs, IsInt x
def IsOutput (H : Hp) (v : V) : Prop := ∃ a l w, v = .ref a ∧ H a = some (.tup [l, w]) ∧ IsLet l ∧ IsVals H w
def vEnd : V := .str (Str.ofString "end")
def IsList (H : Hp) (v : V) : Prop := ∃ a xs, v = .ref a ∧ H a = some (.tup xs) ∧ ∃ ys, (xs = ys ∨ xs = ys ++ [vEnd]) ∧ ∀ y ∈ ys, IsOutput H y
/-- the promise of a function is_..: it says whether P holds -/
def spIs (T : List Addr → Hp → Addr → Prop) (P : Hp → V → Prop) : Sp := fun vs H Q _ => ∃ (v : V) (B : List Addr) (H0 : Hp) (m n : Nat), vs = [v] ∧ Ob B H0 H ∧ m ≤ 1000 ∧ Dat T B H0 m n v ∧ ∀ H' b, Same H H' → (b = true ↔ P H0 v) → Q (.bl b) H'
end Wd

set_option Elab.async false
set_option linter.all false
set_option maxRecDepth 100000
set_option maxHeartbeats 4000000
namespace Wd
open PySem L2
theorem nay {p : Prop} (h : ¬ p) : (false = true ↔ p) := ⟨fun q => Bool.noConfusion q, fun q => (h q).elim⟩
theorem yea {p : Prop} (h : p) : (true = true ↔ p) := ⟨fun _ => h, fun _ => rfl⟩
theorem pe_gcon {X : Cx} {x : Str} {v : V} {pos : Pos} (hg : Gl X x) (h : ∃ u, X.mg x = some u ∧ RelV v u) (hd : (x == ("__debug__" : Str)) = false := by decide) : PE X (.Name x pos) (tC v) := by
  obtain ⟨u, hm, r⟩ := h
  exact pe_glob hg hm r hd
/-- isinstance(e, N) -/
def tIsi (K : PySem.W.Frag) (N : String) (te : TE) : TE := fun σ H Q => te σ H fun x H1 => ∃ c, Isi K H1 x N c ∧ Q (.bl c) H1
theorem pe_isi {X : Cx} {e : Expr} {te : TE} {N : String} {x : Str} {p q pos : Pos} (he : PE X e te) (hi : X.mg "isinstance" = none) (hm : X.mg x = none) (gi : Gl X "isinstance" := by rfl) (gx : Gl X x := by rfl)
    (hv : bootBuiltins x = some (.type N) := by decide +kernel) (hn : x ≠ "__name__" := by decide) (hd : (x == ("__debug__" : Str)) = false := by decide)
    (h1 : starEach [e, .Name x q] X.env = (false, eval e X.env) :: starEach [.Name x q] X.env := by rfl) (h2 : (backTo pos (starEach [.Name x q] X.env)).any (·.1) = false := by rfl) :
    PE X (.Call (.Name "isinstance" p) [e, .Name x q] [] pos) (tIsi X.K N te) := by
  have A := pa_cons (X := X) he (pa_cons (pe_bltn (v := .ty N) gx hm hv rfl hn hd) pa_nil (by rfl)) h1
  refine ⟨fun pins s σ H Q I h => ?_⟩
  refine wpAny_Call_Name_kw (ld_blt I gi hi (show bootBuiltins "isinstance" = some (.builtin "isinstance") by decide +kernel) ?_ (by decide) (by decide))
  refine PyProof.Rows.callWith_builtin1 (thn (A.run pos pins s σ H (fun vs H1 => match vs with
    | [x, .ty M] => ∃ c, Isi X.K H1 x M c ∧ Q (.bl c) H1
    | _ => False) I h) fun us s1 ⟨vs, H1, I1, r1, q1⟩ => ?_) h1 h2
  dsimp only at q1
  split at q1
  · obtain ⟨c, hc, q⟩ := q1
    exact call_isN pins s1 σ H1 _ us Q I1 r1 ⟨_, _, c, rfl, hc, q⟩
  · exact q1.elim
/-- all([..]): the bools of a walk -/
theorem lc_bools {J : It} {n : Nat} {G : Hp → Prop} {Y : Nat → Hp → V → Hp → Prop} (w : Walk J n G Y) (Pi : Nat → Prop) {g : TG} {te : TE} {vs : List Nat} {σ : St} {H1 : Hp} {D : Addr} {Qd : Hp → Prop} (hD : H1 D = none) (hn : n ≤ 1000)
    (hG : ∀ H, Same H1 H → G H)
    (hs : ∀ i x H H' (k : V → Hp → Prop), i < n → Same H1 H → Y i H x H' → (∀ b H4, Same H H4 → (b = true ↔ Pi i) → k (.bl b) H4) → g x (wipe σ vs) H' fun σ2 H2 => wipe σ2 vs = wipe σ vs ∧ te σ2 H2 k)
    (hd : ∀ H (bs : List Bool), Same H1 H → H D = some (.lst (bs.map V.bl)) → (bs.all id = true ↔ ∀ i, i < n → Pi i) → Qd H) :
    ∃ W : Nat → Nat → Hp → Prop, (∃ m, W 0 m (upd H1 D (.lst []))) ∧ ∀ i m H, W i m H →
      (J.stop i H ∧ Qd H) ∨ (J.go i H ∧ ∃ Nx : Hp → Prop, (∀ H', Nx H' → ∃ m', m' < m ∧ W (i + 1) m' H') ∧ ∀ x H', J.yld i H x H' → g x (wipe σ vs) H' fun σ2 H2 => wipe σ2 vs = wipe σ vs ∧ tYes σ2 H2 fun b H3 =>
        if b = true then te σ2 H3 fun y H4 => ∃ acc, H4 D = some (.lst acc) ∧ acc.length < sizeLine ∧ Nx (upd H4 D (.lst (acc ++ [y]))) else Nx H3) := by
  refine lc_it w (fun i H => Same H1 H ∧ ∃ bs : List Bool, bs.length = i ∧ (bs.all id = true ↔ ∀ j, j < i → Pi j) ∧ H D = some (.lst (bs.map V.bl))) ⟨fun b o e => by rw [upd_ne (ne_of_none e hD)]; exact e, [], rfl, by simp, upd_same⟩
    (fun i H _ ⟨s, _⟩ => hG H s) ?_ (fun H ⟨s, bs, l, e, d⟩ => hd H bs s d e)
  rintro i x H H' hi ⟨s, bs, l, e, d⟩ y
  have z := hs i x H H' (fun y H4 => ∃ acc, H4 D = some (.lst acc) ∧ acc.length < sizeLine ∧ (Same H1 (upd H4 D (.lst (acc ++ [y]))) ∧ ∃ bs : List Bool, bs.length = i + 1 ∧ (bs.all id = true ↔ ∀ j, j < i + 1 → Pi j) ∧ (upd H4 D (.lst (acc ++ [y]))) D = some (.lst (bs.map V.bl)))) hi s y ?_
  · exact z
  · intro b H4 s4 hb
    refine ⟨_, s4 _ _ d, ?_, fun c o q => ?_, bs ++ [b], by simp [l], ?_, ?_⟩
    · rw [List.length_map, l]
      exact small1000 (by omega)
    · rw [upd_ne (ne_of_none q hD)]
      exact s4 _ _ (s _ _ q)
    · rw [List.all_append, Bool.and_eq_true, e]
      simp only [List.all_cons, List.all_nil, Bool.and_true, id_eq, hb]
      constructor
      · rintro ⟨h1, h2⟩ j hj
        by_cases q : j = i
        · exact q ▸ h2
        · exact h1 j (by omega)
      · exact fun h => ⟨fun j hj => h j (by omega), h i (by omega)⟩
    · rw [upd_same, List.map_append]
      rfl
end Wd

set_option linter.all false
namespace Bd
abbrev Mx := Nat → Nat → Int
def Pot (n : Nat) (m : Mx) (p : Nat → Int) : Prop := ∀ i j, i < n → j < n → p i - p j ≤ m i j
def Feas (n : Nat) (m : Mx) : Prop := ∃ p, Pot n m p
structure Closed (n : Nat) (m : Mx) : Prop where
  dg : ∀ i, i < n → m i i = 0
  tr : ∀ i j k, i < n → j < n → k < n → m i j ≤ m i k + m k j
def EqM (n : Nat) (a b : Mx) : Prop := ∀ i j, i < n → j < n → a i j = b i j
theorem closed_col {n : Nat} {m : Mx} (c : Closed n m) {j : Nat} (hj : j < n) : Pot n m fun i => m i j := fun i k hi hk => by
  have := c.tr i j k hi hj hk
  show m i j - m k j ≤ m i k
  omega
theorem closed_feas {n : Nat} {m : Mx} (c : Closed n m) (h : 0 < n) : Feas n m := ⟨_, closed_col c h⟩
theorem uniq_le {n : Nat} {a b : Mx} (ca : Closed n a) (cb : Closed n b) (h : ∀ p, Pot n a p → Pot n b p) {i j : Nat} (hi : i < n) (hj : j < n) : a i j ≤ b i j := by
  have := h _ (closed_col ca hj) i j hi hj
  have d := ca.dg j hj
  have t : a i j - a j j ≤ b i j := this
  omega
theorem uniq {n : Nat} {a b : Mx} (ca : Closed n a) (cb : Closed n b) (h : ∀ p, Pot n a p ↔ Pot n b p) : EqM n a b := fun i j hi hj =>
  Int.le_antisymm (uniq_le ca cb (fun p => (h p).mp) hi hj) (uniq_le cb ca (fun p => (h p).mpr) hi hj)
theorem Pot.mono {n : Nat} {a b : Mx} {p : Nat → Int} (h : Pot n a p) (l : ∀ i j, i < n → j < n → a i j ≤ b i j) : Pot n b p := fun i j hi hj => Int.le_trans (h i j hi hj) (l i j hi hj)
theorem feas_dg {n : Nat} {m : Mx} (f : Feas n m) {i : Nat} (hi : i < n) : 0 ≤ m i i := by
  obtain ⟨p, h⟩ := f
  have := h i i hi hi
  omega
/-! ### the program's way -/
def clr (m : Mx) : Mx := fun i j => if i = j then 0 else m i j
def stp (m : Mx) (k : Nat) : Mx := fun i j => min (m i j) (m i k + m k j)
def fw (m : Mx) : Nat → Mx
  | 0 => clr m
  | k + 1 => stp (fw m k) k
theorem stp_le {m : Mx} {k i j : Nat} : stp m k i j ≤ m i j := Int.min_le_left _ _
theorem clr_pot {n : Nat} {m : Mx} {p : Nat → Int} (d : ∀ i, i < n → 0 ≤ m i i) : Pot n (clr m) p ↔ Pot n m p := by
  constructor
  · intro h i j hi hj
    have := h i j hi hj
    unfold clr at this
    by_cases e : i = j
    · subst e
      have := d i hi
      omega
    · rw [if_neg e] at this
      exact this
  · intro h i j hi hj
    unfold clr
    by_cases e : i = j
    · subst e
      rw [if_pos rfl]
      omega
    · rw [if_neg e]
      exact h i j hi hj
theorem stp_pot {n : Nat} {m : Mx} {k : Nat} {p : Nat → Int} (hk : k < n) : Pot n (stp m k) p ↔ Pot n m p := by
  constructor
  · exact fun h => h.mono fun i j _ _ => stp_le
  · intro h i j hi hj
    have h1 := h i j hi hj
    have h2 := h i k hi hk
    have h3 := h k j hk hj
    unfold stp
    omega
theorem fw_pot {n : Nat} {m : Mx} {p : Nat → Int} (d : ∀ i, i < n → 0 ≤ m i i) : ∀ {k : Nat}, k ≤ n → (Pot n (fw m k) p ↔ Pot n m p)
  | 0, _ => clr_pot d
  | k + 1, h => (stp_pot (by omega)).trans (fw_pot d (by omega))
theorem fw_down {m : Mx} {i j : Nat} : ∀ {k l : Nat}, fw m (k + l) i j ≤ fw m k i j
  | k, 0 => Int.le_refl _
  | k, l + 1 => Int.le_trans (stp_le (m := fw m (k + l)) (k := k + l)) (fw_down (k := k) (l := l))
theorem fw_tr {n : Nat} {m : Mx} (d : ∀ i, i < n → 0 ≤ fw m n i i) : ∀ {k : Nat}, k ≤ n → ∀ q, q < k → ∀ i j, i < n → j < n → fw m k i j ≤ fw m k i q + fw m k q j
  | 0, _, q, hq, _, _, _, _ => absurd hq (Nat.not_lt_zero _)
  | k + 1, h, q, hq, i, j, hi, hj => by
    have dk : 0 ≤ fw m k k k := by
      have := d k (by omega)
      have e : n = k + (n - k) := by omega
      rw [e] at this
      exact Int.le_trans this fw_down
    show stp (fw m k) k i j ≤ stp (fw m k) k i q + stp (fw m k) k q j
    unfold stp
    by_cases e : q = k
    · subst e
      omega
    · have ih := fw_tr d (k := k) (by omega) q (by omega)
      have i1 := ih i j hi hj
      have i2 := ih i k hi (by omega)
      have i3 := ih k j (by omega) hj
      have i4 := ih k k (by omega) (by omega)
      omega
theorem fw_closed {n : Nat} {m : Mx} (d : ∀ i, i < n → 0 ≤ fw m n i i) : Closed n (fw m n) := by
  refine ⟨fun i hi => ?_, fun i j k hi hj hk => fw_tr d (Nat.le_refl _) k hk i j hi hj⟩
  have h1 := d i hi
  have h2 : fw m (0 + n) i i ≤ fw m 0 i i := fw_down
  rw [Nat.zero_add] at h2
  have h3 : fw m 0 i i = 0 := if_pos rfl
  omega
/-- what tight_rows answers -/
structure Tight (n : Nat) (m t : Mx) : Prop where
  cl : Closed n t
  pot : ∀ p, Pot n t p ↔ Pot n m p
theorem Tight.feas {n : Nat} {m t : Mx} (h : Tight n m t) (z : 0 < n) : Feas n m := let ⟨p, q⟩ := closed_feas h.cl z; ⟨p, (h.pot p).mp q⟩
theorem Tight.uniq {n : Nat} {m t u : Mx} (h : Tight n m t) (g : Tight n m u) : EqM n t u := Bd.uniq h.cl g.cl fun p => (h.pot p).trans (g.pot p).symm
theorem Tight.self {n : Nat} {m : Mx} (h : Closed n m) : Tight n m m := ⟨h, fun _ => Iff.rfl⟩
theorem Tight.le {n : Nat} {m t : Mx} (h : Tight n m t) {i j : Nat} (hi : i < n) (hj : j < n) : t i j ≤ m i j := by
  have := (h.pot _).mp (closed_col h.cl hj) i j hi hj
  have d := h.cl.dg j hj
  have e : t i j - t j j ≤ m i j := this
  omega
theorem Tight.ge {n : Nat} {m t : Mx} (h : Tight n m t) {i j : Nat} (hi : i < n) (hj : j < n) : -m j i ≤ t i j := by
  have h1 := h.le hj hi
  have h2 := h.cl.tr i i j hi hi hj
  have h3 := h.cl.dg i hi
  omega
theorem fw_tight {n : Nat} {m : Mx} (d0 : ∀ i, i < n → 0 ≤ m i i) (d : ∀ i, i < n → 0 ≤ fw m n i i) : Tight n m (fw m n) := ⟨fw_closed d, fun _ => fw_pot d0 (Nat.le_refl _)⟩
theorem fw_none {n : Nat} {m : Mx} (h : (∃ i, i < n ∧ m i i < 0) ∨ ∃ i, i < n ∧ fw m n i i < 0) : ¬ Feas n m := by
  intro f
  rcases h with ⟨i, hi, h⟩ | ⟨i, hi, h⟩
  · have := feas_dg f hi
    omega
  · obtain ⟨p, q⟩ := f
    have := feas_dg (n := n) (m := fw m n) ⟨p, (fw_pot (fun i hi => feas_dg ⟨p, q⟩ hi) (Nat.le_refl _)).mpr q⟩ hi
    omega
/-! ### the law's way: doubling -/
structure IsSq (n : Nat) (m s : Mx) : Prop where
  le : ∀ i j k, i < n → j < n → k < n → s i j ≤ m i k + m k j
  ex : ∀ i j, i < n → j < n → ∃ k, k < n ∧ s i j = m i k + m k j
def zd (m : Mx) : Mx := fun i j => if i = j then min 0 (m i i) else m i j
/-- t times doubled -/
inductive Dbl (n : Nat) (m : Mx) : Nat → Mx → Prop where
  | zero : Dbl n m 0 m
  | succ {t : Nat} {a b : Mx} : Dbl n m t a → IsSq n a b → Dbl n m (t + 1) b
inductive Wk (n : Nat) (m : Mx) : Nat → Nat → Nat → Int → Prop where
  | nil {i : Nat} : i < n → Wk n m 0 i i 0
  | cons {l i k j : Nat} {c : Int} : i < n → Wk n m l k j c → Wk n m (l + 1) i j (m i k + c)
theorem Wk.src {n : Nat} {m : Mx} {l i j : Nat} {c : Int} (w : Wk n m l i j c) : i < n := by cases w <;> assumption
theorem Wk.dst {n : Nat} {m : Mx} {l i j : Nat} {c : Int} (w : Wk n m l i j c) : j < n := by
  induction w with
  | nil h => exact h
  | cons _ _ ih => exact ih
theorem Wk.app {n : Nat} {m : Mx} {l i k : Nat} {a : Int} (w : Wk n m l i k a) : ∀ {r j : Nat} {b : Int}, Wk n m r k j b → ∃ q, q = l + r ∧ Wk n m q i j (a + b) := by
  induction w with
  | nil h => intro r j b x; exact ⟨r, by omega, by rw [Int.zero_add]; exact x⟩
  | cons h _ ih =>
    intro r j b x
    obtain ⟨q, e, y⟩ := ih x
    exact ⟨q + 1, by omega, by rw [Int.add_assoc]; exact .cons h y⟩
theorem Wk.cut {n : Nat} {m : Mx} : ∀ {r l i j : Nat} {c : Int}, Wk n m l i j c → r ≤ l → ∃ k a b, Wk n m r i k a ∧ Wk n m (l - r) k j b ∧ c = a + b
  | 0, l, i, j, c, w, _ => ⟨i, 0, c, .nil w.src, w, by omega⟩
  | r + 1, _, i, j, _, .cons (l := l) (k := k) (c := c) h w, hr => by
    obtain ⟨q, a, b, w1, w2, e⟩ := Wk.cut (r := r) w (by omega)
    exact ⟨q, _, b, .cons h w1, by rw [show l + 1 - (r + 1) = l - r by omega]; exact w2, by omega⟩
theorem Wk.one {n : Nat} {m : Mx} {i j : Nat} (hi : i < n) (hj : j < n) : Wk n m 1 i j (m i j) := by
  have := Wk.cons (m := m) hi (.nil hj)
  rwa [Int.add_zero] at this
theorem Dbl.wk {n : Nat} {m a : Mx} {t : Nat} (d : Dbl n m t a) : ∀ {i j : Nat}, i < n → j < n → ∃ l, Wk n m l i j (a i j) := by
  induction d with
  | zero => exact fun hi hj => ⟨1, .one hi hj⟩
  | succ _ s ih =>
    intro i j hi hj
    obtain ⟨k, hk, e⟩ := s.ex i j hi hj
    obtain ⟨l, w1⟩ := ih hi hk
    obtain ⟨r, w2⟩ := ih hk hj
    obtain ⟨q, _, w⟩ := w1.app w2
    exact ⟨q, e ▸ w⟩
theorem Dbl.le {n : Nat} {m a : Mx} {t : Nat} (z : ∀ i, i < n → m i i ≤ 0) (d : Dbl n m t a) : ∀ {l i j : Nat} {c : Int}, Wk n m l i j c → l ≤ 2 ^ t → a i j ≤ c := by
  induction d with
  | zero =>
    intro l i j c w h
    cases w with
    | nil h => exact z _ h
    | cons h w =>
      cases w with
      | nil h' => omega
      | cons h' w' => simp at h
  | @succ t a b d s ih =>
    intro l i j c w h
    have e : 2 ^ (t + 1) = 2 ^ t + 2 ^ t := by rw [Nat.pow_succ]; omega
    obtain ⟨k, x, y, w1, w2, ec⟩ := w.cut (r := min l (2 ^ t)) (Nat.min_le_left _ _)
    have h1 := ih w1 (Nat.min_le_right _ _)
    have h2 := ih w2 (by omega)
    have := s.le i j k w.src w.dst w1.dst
    omega
theorem pigeon : ∀ {n : Nat} {f : Nat → Nat}, (∀ t, t ≤ n → f t < n) → ∃ s t, s < t ∧ t ≤ n ∧ f s = f t
  | 0, f, h => absurd (h 0 (Nat.le_refl _)) (Nat.not_lt_zero _)
  | n + 1, f, h => by
    by_cases q : ∃ s, s ≤ n ∧ f s = f (n + 1)
    · obtain ⟨s, h1, h2⟩ := q
      exact ⟨s, n + 1, by omega, Nat.le_refl _, h2⟩
    · have ne : ∀ s, s ≤ n → f s ≠ f (n + 1) := fun s hs e => q ⟨s, hs, e⟩
      have hl := h (n + 1) (Nat.le_refl _)
      obtain ⟨s, t, h1, h2, h3⟩ := pigeon (n := n) (f := fun t => if f (n + 1) < f t then f t - 1 else f t) fun t ht => by
        have h1 := ne t ht
        have h2 := h t (by omega)
        show (if f (n + 1) < f t then f t - 1 else f t) < n
        split <;> omega
      refine ⟨s, t, h1, by omega, ?_⟩
      have n1 := ne s (by omega)
      have n2 := ne t h2
      have h4 : (if f (n + 1) < f s then f s - 1 else f s) = if f (n + 1) < f t then f t - 1 else f t := h3
      split at h4 <;> split at h4 <;> omega
/-- the vertices of a walk -/
theorem Wk.fn {n : Nat} {m : Mx} {l i j : Nat} {c : Int} (w : Wk n m l i j c) : ∃ v : Nat → Nat, v 0 = i ∧ (∀ t, t ≤ l → v t < n) ∧ ∀ s t, s ≤ t → t ≤ l → ∃ a b d, Wk n m s i (v s) a ∧ Wk n m (t - s) (v s) (v t) b ∧ Wk n m (l - t) (v t) j d ∧ c = a + b + d := by
  induction w with
  | @nil i h =>
    refine ⟨fun _ => i, rfl, fun _ _ => h, fun s t h1 h2 => ⟨0, 0, 0, ?_, ?_, ?_, rfl⟩⟩
    · rw [show s = 0 by omega]; exact .nil h
    · rw [show t - s = 0 by omega]; exact .nil h
    · rw [show 0 - t = 0 by omega]; exact .nil h
  | @cons l i k j c h w ih =>
    obtain ⟨v, v0, vl, f⟩ := ih
    refine ⟨fun t => if t = 0 then i else v (t - 1), rfl, fun t ht => ?_, fun s t h1 h2 => ?_⟩
    · show (if t = 0 then i else v (t - 1)) < n
      split
      · exact h
      · exact vl _ (by omega)
    · by_cases z : t = 0
      · obtain rfl : s = 0 := by omega
        subst z
        exact ⟨0, 0, m i k + c, .nil h, .nil h, .cons h w, by show m i k + c = _; omega⟩
      · by_cases y : s = 0
        · subst y
          obtain ⟨a, b, d, w1, w2, w3, e⟩ := f 0 (t - 1) (by omega) (by omega)
          refine ⟨0, m i k + b, d, .nil h, ?_, ?_, ?_⟩
          · show Wk n m (t - 0) i (if t = 0 then i else v (t - 1)) _
            rw [if_neg z, show t - 0 = (t - 1 - 0) + 1 by omega]
            rw [v0] at w2
            exact .cons h w2
          · show Wk n m (l + 1 - t) (if t = 0 then i else v (t - 1)) j d
            rw [if_neg z, show l + 1 - t = l - (t - 1) by omega]
            exact w3
          · have : a = 0 := by
              cases w1
              rfl
            omega
        · obtain ⟨a, b, d, w1, w2, w3, e⟩ := f (s - 1) (t - 1) (by omega) (by omega)
          refine ⟨m i k + a, b, d, ?_, ?_, ?_, by omega⟩
          · show Wk n m s i (if s = 0 then i else v (s - 1)) _
            rw [if_neg y]
            have := Wk.cons (m := m) h w1
            rwa [show s - 1 + 1 = s by omega] at this
          · show Wk n m (t - s) (if s = 0 then i else v (s - 1)) (if t = 0 then i else v (t - 1)) b
            rw [if_neg y, if_neg z, show t - s = t - 1 - (s - 1) by omega]
            exact w2
          · show Wk n m (l + 1 - t) (if t = 0 then i else v (t - 1)) j d
            rw [if_neg z, show l + 1 - t = l - (t - 1) by omega]
            exact w3
theorem Dbl.all {n : Nat} {m a : Mx} {t : Nat} (z : ∀ i, i < n → m i i ≤ 0) (hn : n ≤ 2 ^ t) (d : Dbl n m t a) (dg : ∀ i, i < n → 0 ≤ a i i) : ∀ {l i j : Nat} {c : Int}, Wk n m l i j c → a i j ≤ c := by
  intro l
  induction l using Nat.strongRecOn with
  | _ l ih =>
    intro i j c w
    by_cases h : l ≤ 2 ^ t
    · exact d.le z w h
    · obtain ⟨v, _, vl, f⟩ := w.fn
      obtain ⟨s, r, h1, h2, h3⟩ := pigeon (n := n) (f := v) fun q hq => vl q (by omega)
      obtain ⟨x, y, u, w1, w2, w3, e⟩ := f s r (by omega) (by omega)
      rw [← h3] at w2 w3
      have y0 := d.le z w2 (by omega)
      have := dg _ w2.src
      obtain ⟨q, eq, w4⟩ := w1.app w3
      have := ih q (by omega) w4
      omega
theorem Dbl.pot {n : Nat} {m a : Mx} {t : Nat} {p : Nat → Int} (d : Dbl n m t a) (h : Pot n m p) : Pot n a p := by
  induction d with
  | zero => exact h
  | succ _ s ih =>
    intro i j hi hj
    obtain ⟨k, hk, e⟩ := s.ex i j hi hj
    have h1 := ih i k hi hk
    have h2 := ih k j hk hj
    omega
theorem zd_dg {m : Mx} (i : Nat) : zd m i i ≤ 0 := by
  unfold zd
  rw [if_pos rfl]
  exact Int.min_le_left _ _
theorem zd_le {m : Mx} (i j : Nat) : zd m i j ≤ m i j := by
  unfold zd
  by_cases e : i = j
  · subst e
    rw [if_pos rfl]
    exact Int.min_le_right _ _
  · rw [if_neg e]
    exact Int.le_refl _
theorem zd_pot {n : Nat} {m : Mx} {p : Nat → Int} (h : Pot n m p) : Pot n (zd m) p := by
  intro i j hi hj
  unfold zd
  have := h i j hi hj
  by_cases e : i = j
  · subst e
    rw [if_pos rfl]
    omega
  · rw [if_neg e]
    exact this
theorem dbl_tight {n : Nat} {m a : Mx} {t : Nat} (hn : n ≤ 2 ^ t) (d : Dbl n (zd m) t a) (dg : ∀ i, i < n → 0 ≤ a i i) : Tight n m a := by
  have al : ∀ {l i j : Nat} {c : Int}, Wk n (zd m) l i j c → a i j ≤ c := fun w => d.all (m := zd m) (fun i _ => zd_dg i) hn dg w
  refine ⟨⟨fun i hi => Int.le_antisymm (al (.nil hi)) (dg i hi), fun i j k hi hj hk => ?_⟩, fun p => ⟨fun h => (h.mono fun i j hi hj => Int.le_trans (al (.one hi hj)) (zd_le i j)), fun h => d.pot (zd_pot h)⟩⟩
  obtain ⟨_, w1⟩ := d.wk hi hk
  obtain ⟨_, w2⟩ := d.wk hk hj
  obtain ⟨_, _, w⟩ := w1.app w2
  exact al w
theorem dbl_none {n : Nat} {m a : Mx} {t : Nat} (d : Dbl n (zd m) t a) {i : Nat} (hi : i < n) (h : a i i < 0) : ¬ Feas n m := fun ⟨p, q⟩ => by
  have := d.pot (zd_pot q) i i hi hi
  omega
/-! ### both bounds -/
def mn2 (a b : Mx) : Mx := fun i j => min (a i j) (b i j)
theorem pot_mn2 {n : Nat} {a b : Mx} {p : Nat → Int} : Pot n (mn2 a b) p ↔ Pot n a p ∧ Pot n b p := by
  constructor
  · intro h
    exact ⟨h.mono fun i j _ _ => Int.min_le_left _ _, h.mono fun i j _ _ => Int.min_le_right _ _⟩
  · rintro ⟨h1, h2⟩ i j hi hj
    have := h1 i j hi hj
    have := h2 i j hi hj
    unfold mn2
    omega
theorem pot_eq {n : Nat} {a b : Mx} (h : EqM n a b) {p : Nat → Int} : Pot n a p ↔ Pot n b p := by
  constructor <;> intro q i j hi hj <;> have := q i j hi hj <;> have := h i j hi hj <;> omega
end Bd

set_option Elab.async false
set_option linter.all false
set_option maxRecDepth 100000
set_option maxHeartbeats 4000000
/-! further rules: ranges as values, tuple * int, cls(..), != by an own == -/
namespace Br
open PySem PySem.Spec PyProof.Rows L2
open AutoSeq1 (wpAny_loadPart')
section
variable {X : Cx} {tg : Expr}
/-- for .. in r, r the range object of n -/
def iRngN (tl : TE) : TI := fun σ H R => tl σ H fun x H1 => ∃ (a : Addr) (n : Nat), x = .ref a ∧ H1 a = some (.rng 0 (n : Int)) ∧ n ≤ 1000 ∧ R (Itr 0 n) H1
theorem pi_rngN {l : Expr} {tl : TE} (hl : PE X l tl) : PI X tg l (iRngN tl) := by
  refine ⟨fun pins s σ H R I h => ?_⟩
  refine thn (hl.run pins s σ H _ I h) fun v s1 ⟨x, H1, I1, r1, q1⟩ => ?_
  obtain ⟨a, n, e, ha, hn, q⟩ := q1
  subst e
  cases r1
  obtain ⟨t, u, w, ho⟩ := (show ObjOk X.prog X.w H1 s1.heap a (.rng 0 (n : Int)) from I1.hok a _ ha)
  refine wpAny_pyIter_range (r := a) (a := 0) (b := (n : Int)) (c := 1) (t := t) (u := u) (v := w) ho (small_one (by omega) (by omega) (by omega) (by omega)) ?_
  refine ⟨s1.heap.objs.size, [s1.heap.objs.size], _, _, H1, rfl, I1.kept (t' := s1.toks) fun b o z => Heap.get?_push_of_some _ z, turn_range _ 0 n, ?_, fun b hb => ?_, q⟩
  · have c1 : (0 : Int) + ((0 : Nat) : Int) * 1 = 0 := by simp
    have c2 : (n : Int) - ((0 : Nat) : Int) = Builtin.Range.rangeSize 0 (n : Int) 1 := by
      rw [rangeSize_one]
      split <;> omega
    show IsRangeIter _ _ ((0 : Int) + ((0 : Nat) : Int) * 1) ((n : Int) - ((0 : Nat) : Int)) 1
    rw [c1, c2]
    exact Heap.get?_push_size _ rfl
  · obtain rfl : b = s1.heap.objs.size := by simpa using hb
    exact I1.fpOk (Nat.le_refl _) (I1.hok.fresh (Nat.le_refl _))
/-- range(n) as a value -/
theorem cr_range1 : CallR X (.type "range") (fun vs H Q => ∃ j, vs = [V.int j] ∧ ∀ p, H p = none → Q (.ref p) (upd H p (.rng 0 j))) := by
  intro pins s σ H vs us Q I r h
  obtain ⟨j, rfl, q⟩ := h
  obtain ⟨u, rfl, t, rfl⟩ := vals1 r
  refine call_range_1 ⟨.ref s.heap.objs.size, upd H s.heap.objs.size (.rng 0 j), I.laid (t' := s.toks + 1 + 1) (fun b o z => Heap.get?_push_of_some _ z) (Nat.le_refl _) ?_, rfl, q _ (I.hok.fresh (Nat.le_refl _))⟩
  exact ⟨s.toks, t, s.toks + 1, Heap.get?_push_size _ rfl⟩
/-- t * 1 is t -/
theorem tuple_mul1 (l : Addr) (items : Array Value) (n : Nat) (dd : Option Addr) (sl : Array (Option Value)) (u : Tok) :
    Meets (Builtin.«tuple.__mul__» ⟨[.ref l, .int 1 u], []⟩) (fun _ R s => s.heap.get? l = some { cls := .type "tuple", dict := dd, data := .seq items n, slots := sl } ∧ R (.ok (.ret (.ref l))) s) :=
  .of_wp fun prog w A R s h => by
    obtain ⟨hp, g, d, tk, os⟩ := s
    obtain ⟨hl, h⟩ := h
    have f1 := AutoSeq1.idx_int
    have c1 : (items.isEmpty || (1 : Int) == 1) = true := by simp
    wp_walk using wpAny_loadPart' hl
    repeat (first
      | (refine wpAny_ite_false (by decide) ?_; wp_walk using wpAny_loadPart' hl)
      | (refine wpAny_ite_true (by simp) ?_; wp_walk using wpAny_loadPart' hl))
    exact ⟨_, rfl, h⟩
/-- t * k, k at least 1 -/
def rRepN (K : PySem.W.Frag) : R2 := fun x y H Q => ∃ l k xs, x = .ref l ∧ y = .int k ∧ SqT K H l xs ∧ xs ≠ [] ∧ 1 ≤ k ∧ k ≤ 1000 ∧ xs.length ≤ 1000 ∧ (k = 1 → Q (.ref l) H) ∧ ∀ p, H p = none → Q (.ref p) (upd H p (.tup (List.replicate k.toNat xs).flatten))
theorem op_repN : OpR X (binaryOp .Mult) (rRepN X.K) := by
  intro pins s σ H x y v u Q I rx ry h
  obtain ⟨l, k, xs, rfl, rfl, hT, hne, h1, h2, hz, q1, q⟩ := h
  by_cases k1 : k = 1
  · subst k1
    cases rx
    obtain ⟨t, rfl⟩ := ry
    obtain ⟨its, r, ⟨⟨cls, dd, data, sl⟩, ho, hc, n, hd⟩, hs⟩ := I.tuple hT
    simp only at hc hd
    subst hc hd
    exact wpAny_binaryOp_repeat_ref (T := "tuple") (U := "int") (by decide) ⟨_, ho, rfl⟩ (fun s' => typeIs_int s' 1 t) noFill_tuple_mul F.fills_int_mul F.slot_int_rmul repeat_tuple F.slot_int_index.lookup
      (call_meets F.slot_int_rmul (typeIs_int s 1 t) F.entry_int_rmul (F.args_int_rmul_2 _ _) (int_rmul_tuple 1 t l its.toArray n dd sl)
        ⟨ho, rfl, ⟨_, ho, rfl⟩, call_meets F.slot_tuple_mul ⟨_, ho, rfl⟩ F.entry_tuple_mul (F.args_tuple_mul_2 _ _) (tuple_mul1 l its.toArray n dd sl t) ⟨ho, .ref l, H, I, rfl, q1 rfl⟩⟩)
  · exact op_repT pins s σ H _ _ v u Q I rx ry ⟨l, k, xs, rfl, rfl, hT, hne, by omega, h2, hz, q⟩
end
/-! ### cls(..) -/
section
variable {X : Cx} {CX : CXT} {k i : Nat} {C f : Addr} {fd : FuncData} {ps : List Str} {sp : Sp} {dvs : List V} {ds : List Value} {E : XK} {x : Str} {p pos : Pos} {e : Expr} {es : List Expr} {t : TA}
/-- the i-th slot holds the class at C, which is called -/
def tMakeL (i : Nat) (C : Addr) (sp : Sp) (dvs : List V) (E : XK) (t : TA) : TE := fun σ H Q => σ[i]? = some (some (.ref C)) ∧ tMake C sp dvs E t σ H Q
theorem pe_makeL (M : Mk X.K C f) (F : FnOk X.prog X.w X.K X.mg X.base CX k f fd ps sp) (hr : Room (k + 1) X.A) (hN : X.N[i]? = some x) (hv : Vis X.env.scope x) (hb : Binds X.K fd ps ds) (hd : Vals dvs ds) (hx : Passes CX X E) (ha : PA X (e :: es) t)
    (hdb : (x == ("__debug__" : Str)) = false := by decide) (hcd : (x == ("__classdict__" : Str)) = false := by decide)
    (he : starEach (e :: es) X.env = (false, eval e X.env) :: starEach es X.env := by rfl) (hpl : (backTo pos (starEach es X.env)).any (·.1) = false := by rfl) : PE X (.Call (.Name x p) (e :: es) [] pos) (tMakeL i C sp dvs E t) := by
  refine ⟨fun pins s σ H Q I ⟨hs, ht⟩ => ?_⟩
  have V1 := (pe_var (pos := p) hN hv hdb hcd).run pins s σ H (fun v H1 => v = .ref C ∧ H1 = H) I ⟨.ref C, hs, rfl, rfl⟩
  refine wpAny_Call_Name_kw (thn V1 fun u s1 ⟨v, H1, I1, r1, q1⟩ => ?_)
  obtain ⟨rfl, rfl⟩ := q1
  cases r1
  have A1 := ha.run pos pins s1 σ _ _ I1 ht
  exact PySem.W.callWith_K (h₀ := X.base) I.ok.mod.kin M.kp (thn A1 fun us s2 ⟨vs, H2, I2, r, q⟩ => ⟨I2.kIn, run_make M F hr hb hd hx I2 r q⟩) he hpl
end
end Br

set_option Elab.async false
set_option linter.all false
set_option maxRecDepth 100000
set_option maxHeartbeats 4000000
/-! operators, len, items by own methods -/
namespace OO
open PySem PySem.Spec PyProof.Rows L2
/-- a method of its own that is asked by the machine: the class has it as a plain def -/
structure Dun (K : PySem.W.Frag) (C : Addr) (m : Str) (f : Addr) : Prop where
  at_ : PySem.W.findIn K (.ref C) m = some (some (.ref f))
  fn : PySem.W.isFn K (.ref f) = true
section
variable {X : Cx} {CX : CXT} {k : Nat} {C f : Addr} {fd : FuncData} {ps : List Str} {sp : Sp} {E : XK} {pins : List (Addr × Obj)} {σ : L2.St} {H : Hp} {s : Shared} {Q : VK}
theorem run_deep {us : List Value} {vs : List V} (F : FnOk X.prog X.w X.K X.mg X.base CX k f fd ps sp) (hr : Room (k + 1) X.A) (hb : Binds X.K fd ps []) (hx : Passes CX X E) (I : L2.Inv X pins σ H s) (r : Vals vs us) (h : sp vs H Q E) :
    wpAny (model X.prog X.w) X.A.in1 (call (.ref f) us) (EP X pins σ Q) X.xe s := by
  have hl : (us ++ []).length = ps.length := by
    rw [List.append_nil, ← r.length]
    exact F.len _ _ _ _ h
  have bd := hb s us I.kIn hl
  rw [List.append_nil] at bd
  refine wpAny_call (codeAny_mono (F.run X.A.in1 X.stack s H ⟨us, []⟩ us vs Q E hr.in1 I.env0.in1 bd r h) fun r s' hq => ?_)
  cases r with
  | error e => exact hx pins σ H s e s' I hq
  | ok fl =>
    cases fl with
    | ret u => exact I.after hq
    | next => exact hq.elim
    | brk => exact hq.elim
    | cont => exact hq.elim
theorem run_own {us : List Value} {vs : List V} (F : FnOk X.prog X.w X.K X.mg X.base CX k f fd ps sp) (hr : Room k X.A) (hb : Binds X.K fd ps []) (hx : Passes CX X E) (I : L2.Inv X pins σ H s) (r : Vals vs us) (h : sp vs H Q E) :
    wpAny (model X.prog X.w) X.A (call (.ref f) us) (EP X pins σ Q) X.xe s := run_fn (dvs := []) F hr hb .nil hx I r (by rw [List.append_nil]; exact h)
theorem back_of {w : Value} {s' : Shared} (h : EP X pins σ Q w s') : PySem.W.CmpBack (EP X pins σ Q) w s' := by
  obtain ⟨z, H', I', rz, q⟩ := id h
  cases w with
  | notImplemented => cases z <;> first | (cases rz; done) | exact (nomatch rz) | (obtain ⟨_, e⟩ := rz; cases e)
  | _ => exact h
/-- what binaryOp asks of an own class and of the other operand's built-in type -/
structure BinT (K : PySem.W.Frag) (C : Addr) (op : Operator) (T : String) : Prop where
  own : ∃ rc, PySem.W.findIn K (.ref C) (dunderR op.info.2) = some rc ∧ (rc = none ∨ ∃ g : Addr, rc = some (.ref g))
  here : ∃ fo, PySem.W.findIn K (.type T) (PySem.dunder op.info.2) = some fo
  refl : ∃ ro, PySem.W.findIn K (.type T) (dunderR op.info.2) = some ro
  sub : PySem.W.subIn K (.type T) (.ref C) = some false
/-- one + other, .. of one class -/
theorem op_same {op : Operator} (D : Dun X.K C (PySem.dunder op.info.2) f) (hc : PySem.W.selfFirst X.K C = true) (F : FnOk X.prog X.w X.K X.mg X.base CX k f fd ps sp) (hr : Room k X.A) (hb : Binds X.K fd ps []) (hx : Passes CX X E) :
    OpR X (binaryOp op) (fun x y H Q => ∃ a b dx dy fs gs, x = .ref a ∧ y = .ref b ∧ H a = some (.ins C dx fs) ∧ H b = some (.ins C dy gs) ∧ sp [x, y] H Q E) := by
  intro pins s σ H x y v u Q I rx ry ⟨a, b, dx, dy, fs, gs, ex, ey, ha, hb', h⟩
  subst ex ey
  cases rx
  cases ry
  obtain ⟨mA, J, _⟩ := ins_get I.hok ha
  obtain ⟨mB, J', _⟩ := ins_get I.hok hb'
  obtain ⟨od, J, _⟩ := J.look
  obtain ⟨od', J', _⟩ := J'.look
  obtain ⟨m, hF⟩ := I.fr
  refine PySem.W.binop_K hF I.ok.mod.kin J J'.type hc D.at_ D.fn ?_
  exact wpAny_mono (run_own (vs := [.ref a, .ref b]) F hr hb hx I (.cons rfl (.cons rfl .nil)) h) (fun _ _ z => back_of z) fun _ _ z => z
theorem len_own (D : Dun X.K C "__len__" f) (F : FnOk X.prog X.w X.K X.mg X.base CX k f fd ps sp) (hr : Room (k + 1) X.A) (hb : Binds X.K fd ps []) (hx : Passes CX X E) :
    CallR X (.builtin "len") (fun xs H Q => ∃ a dx fs, xs = [.ref a] ∧ H a = some (.ins C dx fs) ∧ sp xs H (fun z H' => ∃ n : Nat, z = .int n ∧ n ≤ 1000000 ∧ Q z H') E) := by
  intro pins s σ H xs us Q I r ⟨a, dx, fs, ex, ha, h⟩
  subst ex
  cases r with
  | cons ra rr =>
    cases rr
    cases ra
    obtain ⟨mA, J, _⟩ := ins_get I.hok ha
    obtain ⟨od, J, _⟩ := J.look
    obtain ⟨m, hF⟩ := I.fr
    refine PySem.W.len_K hF I.ok.mod.kin J D.at_ D.fn ?_
    refine wpAny_mono (run_deep (vs := [.ref a]) F hr hb hx I (.cons rfl .nil) h) (fun v s' z => ?_) fun _ _ z => z
    obtain ⟨y, H', I', ry, n, ey, hn, q⟩ := z
    subst ey
    obtain ⟨tk, rfl⟩ := ry
    exact ⟨⟨by omega, by omega⟩, .int n, H', I'.tok _, ⟨_, rfl⟩, q⟩
/-- o + b, o >> b, .. where b is a built-in thing -/
theorem bin_there {op : Operator} {a dx : Addr} {fs : List (Str × V)} {b : Value} {T : String} {R : Value → Shared → Prop} (I : L2.Inv X pins σ H s) (ha : H a = some (.ins C dx fs)) (tb : PySem.W.Looks (model X.prog X.w) s.heap (typeOf b) (.type T))
    (D : Dun X.K C (PySem.dunder op.info.2) f) (hc : PySem.W.selfFirst X.K C = true) (B : BinT X.K C op T) (h : wpAny (model X.prog X.w) X.A (call (.ref f) [.ref a, b]) (PySem.W.CmpBack R) X.xe s) :
    wpAny (model X.prog X.w) X.A (binaryOp op (.ref a) b) R X.xe s := by
  obtain ⟨_, J, _⟩ := ins_get I.hok ha
  obtain ⟨_, J, _⟩ := J.look
  obtain ⟨cd, rest, e1, e2⟩ := PySem.W.ksp_first hc
  obtain ⟨⟨rc, o1, o2⟩, ⟨fo, g1⟩, ⟨ro, g2⟩, g3⟩ := B
  have act := PySem.W.ksp_try I.kIn J D.at_ D.fn h
  have K1 := I.kIn
  rcases eo : op.info with ⟨sy, nm⟩
  have own := D.at_
  rw [eo] at own o1 g1 g2 act
  dsimp only at own o1 g1 g2 act
  obtain ⟨hp, ge, dr, tk, os⟩ := s
  have a1 : PySem.W.Looks (model X.prog X.w) hp (fillsNumberSlot (.ref C) nm) true := PySem.W.fills_K K1 e1 e2 own
  have a2 : PySem.W.Looks (model X.prog X.w) hp (typeOf (.ref a)) (.ref C) := J.type
  have a3 : PySem.W.Looks (model X.prog X.w) hp (numberSlotInPython (.ref C) nm) true := PySem.W.ksp_inPy K1 own o1 o2
  have a4 : PySem.W.Looks (model X.prog X.w) hp (numberSlotInPython (.type T) nm) false := PySem.W.Looks.of_pure rfl
  have a5 : PySem.W.Looks (model X.prog X.w) hp (typeLookup (.type T) (dunderR nm)) ro := PySem.W.looks_findIn K1 g2
  have a6 : PySem.W.Looks (model X.prog X.w) hp (isSubtype (.type T) (.ref C)) false := PySem.W.looks_subIn K1 g3
  have a7 : ∃ r, PySem.W.Looks (model X.prog X.w) hp (fillsNumberSlot (.type T) nm) r := ⟨_, PySem.W.ksp_fillsT K1 g1 g2⟩
  have a8 : PySem.W.Looks (model X.prog X.w) hp (typeOf b) (.type T) := tb
  obtain ⟨r, a7⟩ := a7
  have apart : (Value.ref C == Value.type T) = false := Bool.eq_false_iff.mpr fun q => nomatch beq_iff_eq.mp q
  simp only [binaryOp, eo]
  refine wpAny_holding (wpAny_bind ?_)
  unfold binaryOp1
  refine wpAny_bind (a2.at (wpAny_bind (a8.at (wpAny_bind (a1.at ?_)))))
  simp only [apart, Bool.false_eq_true, if_false]
  cases r <;>
  · ksp_lk
    refine wpAny_mono act (fun _ _ ⟨_, e, q⟩ => ?_) fun _ _ e => e
    subst e
    ksp_lk
    exact q
theorem op_with {op : Operator} {T : String} (D : Dun X.K C (PySem.dunder op.info.2) f) (hc : PySem.W.selfFirst X.K C = true) (B : BinT X.K C op T) (F : FnOk X.prog X.w X.K X.mg X.base CX k f fd ps sp) (hr : Room k X.A) (hb : Binds X.K fd ps []) (hx : Passes CX X E) :
    OpR X (binaryOp op) (fun x y H Q => ∃ a dx fs, x = .ref a ∧ TyOf X.K H y (.type T) ∧ H a = some (.ins C dx fs) ∧ sp [x, y] H Q E) := by
  intro pins s σ H x y v u Q I rx ry ⟨a, dx, fs, ex, ty, ha, h⟩
  subst ex
  cases rx
  have tb : PySem.W.Looks (model X.prog X.w) s.heap (typeOf u) (.type T) := by
    generalize eT : Value.type T = tv at ty
    cases ty with
    | non => cases (show u = Value.none from ry); cases eT; exact PySem.W.Looks.of_pure rfl
    | bl y => cases (show u = Value.bool y from ry); cases eT; exact PySem.W.Looks.of_pure rfl
    | int y => obtain ⟨t, rfl⟩ := (show ∃ t, u = Value.int y t from ry); cases eT; exact PySem.W.Looks.of_pure rfl
    | str y => obtain ⟨t, rfl⟩ := (show ∃ t, u = Value.str y t from ry); cases eT; exact PySem.W.Looks.of_pure rfl
    | flt y => obtain ⟨t, rfl⟩ := (show ∃ t, u = Value.float y t from ry); cases eT; exact PySem.W.Looks.of_pure rfl
    | @lst a xs ea =>
      cases (show u = Value.ref a from ry); cases eT
      obtain ⟨_, _, n, _, h1⟩ := (show ObjOk X.prog X.w H s.heap a (.lst xs) from I.hok a _ ea)
      exact fun A Q E s k q => wpAny_typeOf_ref (k _ _ h1) q
    | @frz a ob xs ea =>
      cases (show u = Value.ref a from ry); cases eT
      obtain ⟨_, _, _, n, _, h1⟩ := (show ObjOk X.prog X.w H s.heap a (.frz ob (.lst xs)) from I.hok a _ ea)
      exact fun A Q E s k q => wpAny_typeOf_ref (k _ _ h1) q
    | @tup a xs ea =>
      cases (show u = Value.ref a from ry); cases eT
      obtain ⟨_, _, _, o, h1, h2, _⟩ := (show ObjOk X.prog X.w H s.heap a (.tup xs) from I.hok a _ ea)
      exact fun A Q E s k q => wpAny_typeOf_ref (k _ _ h1) (by rw [h2]; exact q)
    | @dK a kvs ea =>
      cases (show u = Value.ref a from ry); cases eT
      obtain ⟨_, _, vs, _, o, es, ep, h1, h2, _⟩ := (show ObjOk X.prog X.w H s.heap a (.dK kvs) from I.hok a _ ea)
      exact fun A Q E s k q => wpAny_typeOf_ref (k _ _ h1) (by rw [h2.1]; exact q)
    | @dT a kvs ea =>
      cases (show u = Value.ref a from ry); cases eT
      obtain ⟨_, _, xs, _, o, es, ep, h1, h2, _⟩ := (show ObjOk X.prog X.w H s.heap a (.dT kvs) from I.hok a _ ea)
      exact fun A Q E s k q => wpAny_typeOf_ref (k _ _ h1) (by rw [h2.1]; exact q)
    | ins => cases eT
  exact bin_there I ha tb D hc B (wpAny_mono (run_own (vs := [.ref a, y]) F hr hb hx I (.cons rfl (.cons ry .nil)) h) (fun _ _ z => back_of z) fun _ _ z => z)
/-- o[i] by an own __getitem__ -/
theorem ix_own (D : Dun X.K C "__getitem__" f) (hn : PySem.W.fnIn X.K f = true) (F : FnOk X.prog X.w X.K X.mg X.base CX k f fd ps sp) (hr : Room (k + 1) X.A) (hb : Binds X.K fd ps []) (hx : Passes CX X E) {value slice : Expr} {a dx : Addr} {fs : List (Str × V)} {y : V} {u : Value}
    (I : L2.Inv X pins σ H s) (ha : H a = some (.ins C dx fs)) (ry : RelV y u) (h : sp [.ref a, y] H Q E) (hsl : subscripted slice true (.ref a) u = runValue (.builtin "lifetime.subscript" ⟨[.ref a, u], []⟩) := by with_unfolding_all rfl) :
    wpAny (model X.prog X.w) X.A (subscriptTail value slice (.ref a) u) (EP X pins σ Q) X.xe s := by
  obtain ⟨_, J, _⟩ := ins_get I.hok ha
  obtain ⟨_, J, _⟩ := J.look
  obtain ⟨_, hF⟩ := I.fr
  exact PySem.W.sub_K hF I.ok.mod.kin J D.at_ hn D.fn (run_deep (vs := [.ref a, y]) F hr hb hx I (.cons rfl (.cons ry .nil)) h) hsl
end
end OO

set_option Elab.async false
set_option linter.all false
set_option maxRecDepth 100000
set_option maxHeartbeats 4000000
/-! != by an own ==, where the class has no != of its own -/
namespace Br
open PySem PySem.Spec PyProof.Rows L2
open PySem.W (InstAt findIn isFn mroIn notFirst Looks looks_findIn looks_mroIn check_slot ifBound_K looks_subIn subIn)
section
variable {prog : Program} {w : World} {A : Around} {E : Value → Shared → Prop} {s : Shared} {K : PySem.W.Frag} {x C f : Addr} {ox : Obj} {od : Option Obj} {b tb : Value}
theorem ne_body {Q : Fin → Shared → Prop} (KX : K.In s.heap) (J : InstAt s.heap x ox C od) (hu : A.units < cLine) (he : findIn K (.ref C) "__eq__" = some (some (.ref f))) (hf : isFn K (.ref f) = true)
    (h : wpAny (model prog w) A (call (.ref f) [.ref x, b]) (fun v s' => ∃ r, v = .bool r ∧ Q (.done (.ret (.bool (!r)))) s') E s) :
    wpAny (model prog w) A (Builtin.«object.__ne__» ⟨[.ref x, b], []⟩) Q E s := by
  unfold Builtin.«object.__ne__»
  repeat (first
    | with_reducible refine wpAny_cRoomFor hu ?_
    | (refine wpAny_bind (m := callSpecialIfBound? (.ref x) (Str.ofString "__eq__") [b]) (ifBound_K KX J he hf (wpAny_mono h (fun v s' hv => by
          obtain ⟨r, rfl, hq⟩ := hv
          repeat (first | exact hq | exact wpAny_pure hq | exact wpAny_truthy_bool hq | (refine wpAny_bind (m := truthy (.bool _)) (wpAny_truthy_bool ?_)) | wp_step)) fun _ _ z => z)))
    | wp_step)
theorem ne_try {Q : Option Value → Shared → Prop} (KX : K.In s.heap) (J : InstAt s.heap x ox C od) (hu : A.units + 1 < cLine) (he : findIn K (.ref C) "__eq__" = some (some (.ref f))) (hf : isFn K (.ref f) = true)
    (hn : findIn K (.ref C) "__ne__" = some (some (.builtin "object.__ne__"))) (ob : mroIn K C (.type "object") = some true)
    (h : wpAny (model prog w) A.in1 (call (.ref f) [.ref x, b]) (fun v s' => ∃ r, v = .bool r ∧ Q (some (.bool (!r))) s') E s) :
    wpAny (model prog w) A (tryCompare (.ref x) "__ne__" b) Q E s := by
  unfold tryCompare
  refine wpAny_bind ?_
  simp only [callSpecialIfBound?, bindSpecialIfBound?]
  refine wpAny_holding (wpAny_bind (wpAny_bind (wpAny_bind (J.type.here ((looks_findIn KX hn).here ?_)))))
  refine wpAny_bind (wpAny_askSetting (wpAny_ite ?_))
  have sub : Looks (model prog w) s.heap (isInstance (.ref x) (.type "object")) true := J.type.andThen (looks_mroIn KX ob)
  have go : wpAny (model prog w) A (call (.builtin "object.__ne__") ([.ref x] ++ [b]) >>= fun v => pure (some v)) (fun r s' => wpAny (model prog w) A (match r with | some .notImplemented | none => pure none | some v => pure (some v)) Q E s') E s := by
    refine wpAny_bind ?_
    refine wpAny_call (codeAny_call_builtin F.slot_tuple_iterator_ne.plain F.cmpEntry_ne (@check_slot (model prog w) _ _ s "object.__ne__" "object" "__ne__" (.ref x) [b] [] _ F.cmpKind_ne F.cmpSplit_ne sub (F.cmpArgs_ne _ _) ?_))
    refine ne_body KX J hu he hf (wpAny_mono h (fun v s' hv => ?_) fun _ _ z => z)
    obtain ⟨r, rfl, hq⟩ := hv
    exact ⟨r, rfl, wpAny_pure (wpAny_pure hq)⟩
  have bd : bindSpecial (.builtin "object.__ne__") (.ref x) = pure (.builtin "object.__ne__", [.ref x]) := F.slot_tuple_iterator_ne.bind _
  split
  · rw [bd]
    exact wpAny_bind (wpAny_pure (wpAny_pure go))
  · rw [bd]
    exact wpAny_tryCatch (wpAny_bind (wpAny_pure (wpAny_pure go)))
theorem ne_K {Q : Value → Shared → Prop} (KX : K.In s.heap) (J : InstAt s.heap x ox C od) (hu : A.units + 1 < cLine) (ht : Looks (model prog w) s.heap (typeOf b) tb) (nf : notFirst K C tb = true) (he : findIn K (.ref C) "__eq__" = some (some (.ref f))) (hf : isFn K (.ref f) = true)
    (hn : findIn K (.ref C) "__ne__" = some (some (.builtin "object.__ne__"))) (ob : mroIn K C (.type "object") = some true)
    (h : wpAny (model prog w) A.in1 (call (.ref f) [.ref x, b]) (fun v s' => ∃ r, v = .bool r ∧ Q (.bool (!r)) s') E s) :
    wpAny (model prog w) A (richCompare .NotEq (.ref x) b) Q E s := by
  have one : wpAny (model prog w) A (tryCompare (.ref x) "__ne__" b) (fun r s' => ∃ v, r = some v ∧ Q v s') E s :=
    ne_try KX J hu he hf hn ob (wpAny_mono h (fun v s' ⟨r, e, q⟩ => ⟨r, e, _, rfl, q⟩) fun _ _ z => z)
  unfold richCompare
  simp only [oneThing_ref]
  refine wpAny_holding (wpAny_bind (wpAny_cRoomFor (by omega) ?_))
  refine wpAny_bind (J.type.here (wpAny_bind (ht.here ?_)))
  have fin : wpAny (model prog w) A (tryCompare (.ref x) "__ne__" b) (fun r s' => ∃ v, r = some v ∧ Q v s') E s := one
  split
  · rename_i q
    have e : subIn K tb (.ref C) = some false := by
      rcases Bool.or_eq_true_iff.mp nf with e | e
      · rw [beq_iff_eq.mp e] at q
        simp at q
      · exact beq_iff_eq.mp e
    refine wpAny_bind ((looks_subIn KX e).here ?_)
    simp only [Bool.false_eq_true, if_false]
    refine wpAny_bind (wpAny_mono fin (fun r s' z => ?_) fun _ _ z => z)
    obtain ⟨v, rfl, hq⟩ := z
    exact wpAny_pure hq
  · refine wpAny_bind (wpAny_pure ?_)
    simp only [Bool.false_eq_true, if_false]
    refine wpAny_bind (wpAny_mono fin (fun r s' z => ?_) fun _ _ z => z)
    obtain ⟨v, rfl, hq⟩ := z
    exact wpAny_pure hq
end
section
variable {X : Cx} {CX : CXT} {k : Nat} {C f : Addr} {fd : FuncData} {ps : List Str} {sp : Sp} {E : XK}
/-- what a class with an own == and no != has -/
structure EqOwn (K : PySem.W.Frag) (C f : Addr) : Prop where
  d : OO.Dun K C "__eq__" f
  ne : findIn K (.ref C) "__ne__" = some (some (.builtin "object.__ne__"))
  ob : mroIn K C (.type "object") = some true
/-- one != other of one class -/
theorem op_ne_same (O : EqOwn X.K C f) (nf : notFirst X.K C (.ref C) = true) (F : FnOk X.prog X.w X.K X.mg X.base CX k f fd ps sp) (hr : Room (k + 1) X.A) (hb : Binds X.K fd ps []) (hx : Passes CX X E) :
    OpR X (compareOp .NotEq) (fun x y H Q => ∃ a b dx dy fs gs, x = .ref a ∧ y = .ref b ∧ H a = some (.ins C dx fs) ∧ H b = some (.ins C dy gs) ∧ sp [x, y] H (fun z H' => ∃ c, z = .bl c ∧ Q (.bl (!c)) H') E) := by
  intro pins s σ H x y v u Q I rx ry ⟨a, b, dx, dy, fs, gs, ex, ey, ha, hb', h⟩
  subst ex ey
  cases rx
  cases ry
  obtain ⟨mA, J, _⟩ := ins_get I.hok ha
  obtain ⟨mB, J', _⟩ := ins_get I.hok hb'
  obtain ⟨od, J, _⟩ := J.look
  obtain ⟨od', J', _⟩ := J'.look
  show wpAny _ _ (richCompare .NotEq (.ref a) (.ref b)) _ _ _
  refine ne_K I.kIn J (by have := hr.un; omega) J'.type nf O.d.at_ O.d.fn O.ne O.ob ?_
  refine wpAny_mono (OO.run_deep (vs := [.ref a, .ref b]) F hr hb hx I (.cons rfl (.cons rfl .nil)) h) (fun v s' z => ?_) fun _ _ z => z
  obtain ⟨y, H', I', ry, c, ey, q⟩ := z
  subst ey
  cases ry
  exact ⟨c, rfl, .bl (!c), H', I', rfl, q⟩
/-- one != None -/
theorem op_ne_none (O : EqOwn X.K C f) (nf : notFirst X.K C (.type "NoneType") = true) (F : FnOk X.prog X.w X.K X.mg X.base CX k f fd ps sp) (hr : Room (k + 1) X.A) (hb : Binds X.K fd ps []) (hx : Passes CX X E) :
    OpR X (compareOp .NotEq) (fun x y H Q => ∃ a dx fs, x = .ref a ∧ y = .non ∧ H a = some (.ins C dx fs) ∧ sp [x, y] H (fun z H' => ∃ c, z = .bl c ∧ Q (.bl (!c)) H') E) := by
  intro pins s σ H x y v u Q I rx ry ⟨a, dx, fs, ex, ey, ha, h⟩
  subst ex ey
  cases rx
  cases ry
  obtain ⟨mA, J, _⟩ := ins_get I.hok ha
  obtain ⟨od, J, _⟩ := J.look
  show wpAny _ _ (richCompare .NotEq (.ref a) .none) _ _ _
  refine ne_K I.kIn J (by have := hr.un; omega) (Looks.of_pure rfl) nf O.d.at_ O.d.fn O.ne O.ob ?_
  refine wpAny_mono (OO.run_deep (vs := [.ref a, .non]) F hr hb hx I (.cons rfl (.cons rfl .nil)) h) (fun v s' z => ?_) fun _ _ z => z
  obtain ⟨y, H', I', ry, c, ey, q⟩ := z
  subst ey
  cases ry
  exact ⟨c, rfl, .bl (!c), H', I', rfl, q⟩
/-- one == other of one class -/
theorem op_eq_same (O : EqOwn X.K C f) (nf : notFirst X.K C (.ref C) = true) (F : FnOk X.prog X.w X.K X.mg X.base CX k f fd ps sp) (hr : Room k X.A) (hb : Binds X.K fd ps []) (hx : Passes CX X E) :
    OpR X (compareOp .Eq) (fun x y H Q => ∃ a b dx dy fs gs, x = .ref a ∧ y = .ref b ∧ H a = some (.ins C dx fs) ∧ H b = some (.ins C dy gs) ∧ sp [x, y] H (fun z H' => ∃ c, z = .bl c ∧ Q (.bl c) H') E) := by
  intro pins s σ H x y v u Q I rx ry ⟨a, b, dx, dy, fs, gs, ex, ey, ha, hb', h⟩
  subst ex ey
  cases rx
  cases ry
  obtain ⟨mA, J, _⟩ := ins_get I.hok ha
  obtain ⟨mB, J', _⟩ := ins_get I.hok hb'
  obtain ⟨od, J, _⟩ := J.look
  obtain ⟨od', J', _⟩ := J'.look
  obtain ⟨m, hF⟩ := I.fr
  show wpAny _ _ (richCompare .Eq (.ref a) (.ref b)) _ _ _
  refine PySem.W.cmp_K (op := .Eq) hr.units0 hF I.ok.mod.kin J J'.type nf O.d.at_ O.d.fn ?_
  refine wpAny_mono (OO.run_own (vs := [.ref a, .ref b]) F hr hb hx I (.cons rfl (.cons rfl .nil)) h) (fun v s' z => ?_) fun _ _ z => z
  obtain ⟨y, H', I', ry, c, ey, q⟩ := z
  subst ey
  cases ry
  exact ⟨.bl c, H', I', rfl, q⟩
/-- one == a tuple -/
theorem op_eq_tup (O : EqOwn X.K C f) (nf : notFirst X.K C (.type "tuple") = true) (F : FnOk X.prog X.w X.K X.mg X.base CX k f fd ps sp) (hr : Room k X.A) (hb : Binds X.K fd ps []) (hx : Passes CX X E) :
    OpR X (compareOp .Eq) (fun x y H Q => ∃ a t dx fs xs, x = .ref a ∧ y = .ref t ∧ H a = some (.ins C dx fs) ∧ H t = some (.tup xs) ∧ sp [x, y] H (fun z H' => ∃ c, z = .bl c ∧ Q (.bl c) H') E) := by
  intro pins s σ H x y v u Q I rx ry ⟨a, t, dx, fs, xs, ex, ey, ha, ht, h⟩
  subst ex ey
  cases rx
  cases ry
  obtain ⟨mA, J, _⟩ := ins_get I.hok ha
  obtain ⟨od, J, _⟩ := J.look
  obtain ⟨m, hF⟩ := I.fr
  obtain ⟨_, _, _, o, h1, h2, _⟩ := (show ObjOk X.prog X.w H s.heap t (.tup xs) from I.hok t _ ht)
  have tt : Looks (model X.prog X.w) s.heap (typeOf (.ref t)) (.type "tuple") := fun A Q E s k q => wpAny_typeOf_ref (k _ _ h1) (by rw [h2]; exact q)
  show wpAny _ _ (richCompare .Eq (.ref a) (.ref t)) _ _ _
  refine PySem.W.cmp_K (op := .Eq) hr.units0 hF I.ok.mod.kin J tt nf O.d.at_ O.d.fn ?_
  refine wpAny_mono (OO.run_own (vs := [.ref a, .ref t]) F hr hb hx I (.cons rfl (.cons rfl .nil)) h) (fun v s' z => ?_) fun _ _ z => z
  obtain ⟨y, H', I', ry, c, ey, q⟩ := z
  subst ey
  cases ry
  exact ⟨.bl c, H', I', rfl, q⟩
end
end Br

set_option Elab.async false
set_option linter.all false
set_option maxRecDepth 100000
set_option maxHeartbeats 4000000
/-! defs that are called where no repr is under way: they may ask repr of lists and tuples -/
namespace Br
open PySem PySem.Spec PyProof.Rows L2
/-- repr of data -/
def rReprD (K : PySem.W.Frag) : List V → Hp → VK → Prop := fun xs H Q => ∃ v d, xs = [v] ∧ Dp K H v d ∧ d.showable = true ∧ d.hasDict = false ∧ d.depth ≤ 60 ∧ ((∀ i, d ≠ .int i) → d.shown.length ≤ sizeLine) ∧ Q (.str d.shown) H
theorem call_reprD {X : Cx} (hg : X.A.guards = some []) (hu : X.A.units + 64 < cLine) : CallR X (.builtin "repr") (rReprD X.K) := by
  intro pins s σ H xs us Q I r h
  obtain ⟨v, d, rfl, dp, hs, nd, hd, hz, q⟩ := h
  obtain ⟨u, rfl, ru⟩ := vals1 r
  cases dp with
  | non => cases ru; exact PySem.P.repr_of_none ⟨.str _, H, I.tok _, ⟨_, rfl⟩, q⟩
  | bl b => cases ru; exact PySem.P.repr_of_bool ⟨.str (if b then "True" else "False"), H, I.tok _, ⟨_, rfl⟩, q⟩
  | int i =>
    obtain ⟨t, rfl⟩ := ru
    exact PySem.P.repr_of_int (of_decide_eq_true hs) ⟨.str _, H, I.tok _, ⟨_, rfl⟩, q⟩
  | str x =>
    obtain ⟨t, rfl⟩ := ru
    exact PySem.P.repr_of_str ⟨.str _, H, I.tok _, ⟨_, rfl⟩, q⟩ (hz fun i e => nomatch e)
  | lst l p =>
    cases ru
    obtain ⟨as, rd⟩ := Dp.reads I _ _ _ (.lst l p) (show RelV (.ref _) (.ref _) from rfl)
    exact repr_of_reads' rd hs (fun z => by rw [nd] at z; cases z) hg (by omega) (fun _ _ z => z) (fun h' u tk hk => ⟨.str _, H, I.kept hk, ⟨_, rfl⟩, q⟩) (hz fun i e => nomatch e)
  | tup l p =>
    cases ru
    obtain ⟨as, rd⟩ := Dp.reads I _ _ _ (.tup l p) (show RelV (.ref _) (.ref _) from rfl)
    exact repr_of_reads' rd hs (fun z => by rw [nd] at z; cases z) hg (by omega) (fun _ _ z => z) (fun h' u tk hk => ⟨.str _, H, I.kept hk, ⟨_, rfl⟩, q⟩) (hz fun i e => nomatch e)
/-- a def's promise where no repr is under way -/
structure GnOk (P : Program) (w : World) (K : PySem.W.Frag) (mg : Str → Option Value) (base : Heap) (CX : CXT) (k : Nat) (f : Addr) (fd : FuncData) (ps : List Str) (sp : Sp) : Prop where
  len : ∀ vs H Q E, sp vs H Q E → vs.length = ps.length
  go : ∀ (A : Around), A.guards = some [] → Room k A → ∀ (outer : List Env) (s : Shared) (H : Hp), Env0 P w K mg base A outer s H → ∀ (args : Args) (us : List Value), BindsTo s fd args (ps.zip us) → ∀ (vs : List V), Vals vs us → ∀ (Q : VK) (E : XK), sp vs H Q E →
    codeAny (model P w) A (.call (.ref f) args) (CR CX outer P w H s Q E) s
section
variable {P : Program} {w : World} {K : PySem.W.Frag} {mg : Str → Option Value} {base : Heap}
/-- such a def by its body -/
theorem gn_of {x qual : Str} {st : Stmt} {f : Addr} {fd : FuncData} {N ps : List Str} {k : Nat} {sp : Sp} (F : Fun K x qual st f fd) (S : FnScope N ps (defScope st)) (len : ∀ vs H Q E, sp vs H Q E → vs.length = ps.length)
    (hbody : ∀ (cdv : Value) (A : Around) (outer : List Env) (s : Shared) (H : Hp) (vs : List V) (Q : VK) (E : XK), (A.deeper (envOfC qual (defScope st) s.heap.objs.size f cdv)).guards = some [] → Room k (A.deeper (envOfC qual (defScope st) s.heap.objs.size f cdv)) → sp vs H Q E →
      ∃ t, PSs (cxOf CX0 P w K mg base N qual (defScope st) f cdv A outer s H E).nox (defBody st) t ∧ t { nx := fun _ H' => Q .non H', rt := Q } (start N vs) H) : GnOk P w K mg base CX0 (k + 1) f fd ps sp := by
  obtain ⟨oc, od, kV, doc, pm, an, cdv, ct, osl, rfl, lk, hcd⟩ := F.ex
  refine ⟨len, fun A hg hr outer s H e0 args us hb vs r Q E hsp => ?_⟩
  have hN := len _ _ _ _ hsp
  have KS : K.In s.heap := e0.mod.kin.keeps fun b o z => (e0.bs b o z).1
  have lim : s.heap.NoLimit := e0.mod.nolimit.keeps fun b o z => (e0.bs b o z).1
  refine codeAny_call_function hr.depth (KS _ _ lk) rfl S.co S.gen rfl (PySem.W.codeRec_of KS hcd) (hb _ _ _ _ (wpAny_newFunctionEnv_cells S.kind (fun y hy => ?_) fun env he s1 x1 => ?_))
  · obtain ⟨y1, y2⟩ := y
    rcases S.par y1 (List.of_mem_zip hy).1 with q | q
    · exact .inl q
    · exact .inr ⟨q, PySem.W.cellsFrom_some _ _ _ (.inl q)⟩
  · subst he
    refine ⟨lim.keeps x1.toInCall.keep, codeAny_func ?_⟩
    obtain ⟨t, ht, hq⟩ := hbody cdv A outer s H vs Q E hg (hr.deeper _) hsp
    have I0 := inv_start (CX := CX0) S hr.hd e0 hN r x1 (E := E)
    refine wpAny_mono (ht.nox.run [] s1 (start N vs) H _ I0 hq) (fun fl s' hs => ?_) fun _ _ z => z
    cases fl with
    | brk => exact (let ⟨_, _, _, z⟩ := hs; False.elim z)
    | cont => exact (let ⟨_, _, _, z⟩ := hs; False.elim z)
    | ret u =>
      obtain ⟨v, σ', H', J, rv, z⟩ := hs
      exact ⟨v, H', J.os, J.bare, J.base, J.hok, rv, z⟩
    | next =>
      obtain ⟨σ', H', J, z⟩ := hs
      exact ⟨.non, H', J.os, J.bare, J.base, J.hok, rfl, z⟩
end
section
variable {X : Cx} {CX : CXT} {k : Nat} {f : Addr} {fd : FuncData} {ps : List Str} {sp : Sp} {E : XK} {x : Str} {p pos : Pos} {e : Expr} {es : List Expr} {t : TA}
/-- f(e, ..) of such a def -/
theorem pe_callG (hgd : X.A.guards = some []) (F : GnOk X.prog X.w X.K X.mg X.base CX k f fd ps sp) (hr : Room k X.A) (hg : Gl X x) (hm : X.mg x = some (.ref f)) (hk : PySem.W.keepIn X.K (.ref f) = true) (hb : Binds X.K fd ps []) (hx : Passes CX X E)
    (ha : PA X (e :: es) t) (hdb : (x == ("__debug__" : Str)) = false := by decide) (he : starEach (e :: es) X.env = (false, eval e X.env) :: starEach es X.env := by rfl) (hpl : (backTo pos (starEach es X.env)).any (·.1) = false := by rfl) :
    PE X (.Call (.Name x p) (e :: es) [] pos) (tCall sp [] E t) := by
  refine ⟨fun pins s σ H Q I h => wpAny_Call_Name_kw (ld_glob I hg hm ?_ hdb)⟩
  refine PySem.W.callWith_K (h₀ := X.base) I.ok.mod.kin hk (thn (ha.run pos pins s σ H _ I h) fun us s1 ⟨vs, H1, I1, r, q⟩ => ⟨I1.kIn, ?_⟩) he hpl
  have q' : sp vs H1 Q E := by
    have z : sp (vs ++ []) H1 Q E := q
    rwa [List.append_nil] at z
  have hl : (us ++ []).length = ps.length := by
    rw [List.append_nil, ← r.length]
    exact F.len _ _ _ _ q'
  have bd := hb s1 us I1.kIn hl
  rw [List.append_nil] at bd
  refine wpAny_call (codeAny_mono (F.go X.A hgd hr X.stack s1 H1 I1.env0 ⟨us, []⟩ us bd vs r Q E q') fun res s' hq => ?_)
  cases res with
  | error er => exact hx pins σ H1 s1 er s' I1 hq
  | ok fl =>
    cases fl with
    | ret u => exact I1.after hq
    | next => exact hq.elim
    | brk => exact hq.elim
    | cont => exact hq.elim
end
/-! ### the law's own call -/
theorem hid_of {h : Heap} {H : Hp} {b : Addr} {o : Obj} (e : h.get? b = some o) (n : H b = none) : (hidT h H).get? b = some o := hidT_get e n
/-- the law is called where no repr is under way -/
theorem law_callG {P : Program} {w : World} {K : PySem.W.Frag} {mg mb : Str → Option Value} {CX : CXT} {k : Nat} {fa a : Addr} {fd : FuncData} {x : Str} {sp : Sp} {s₁ : Shared} {vs : List Value} {ns : List Int}
    (KX : K.In s₁.heap) (gN : s₁.heap.Ns mainGlobals mg) (bN : s₁.heap.Ns builtinsNs mb) (bB : ∀ x : Str, x ≠ "__name__" → mb x = bootBuiltins x) (lim : s₁.heap.NoLimit) (hg : s₁.gens = #[])
    (ha : s₁.heap.get? a = some { cls := .type "list", data := .seq vs.toArray }) (hi : IntsAre vs ns) (hl : ns.length ≤ sizeLine) (hr : Room k callerA)
    (F : ∀ base : Heap, K.In base → base.Ns mainGlobals mg → GnOk P w K mg base CX k fa fd [x] sp) (hbind : ∀ (s : Shared) (u : Value), BindsTo s fd ⟨[u], []⟩ [(x, u)])
    (hsp : ∀ H : Hp, Only H → SqL K H a (ns.map V.int) → sp [.ref a] H (fun v _ => v = .bl true) fun _ _ _ => False)
    (hCX : ∀ H e s', CX [] H s₁ (fun _ _ _ => False) e s' → False) :
    codeAny (model P w) callerA (.call (.ref fa) ⟨[.ref a], []⟩) (fun r s' => r = .ok (.ret (.bool true)) ∧ OldK s₁.heap s'.heap ∧ s'.os = s₁.os ∧ AllBare s'.gens) s₁ := by
  have rv := vals_ints hi
  have lv := hi.length
  have step : ∀ H : Hp, Only H → SqL K H a (ns.map V.int) → HOk P w H s₁.heap → (∀ b, H b ≠ none → b = a ∧ K.lookup a = none) →
      codeAny (model P w) callerA (.call (.ref fa) ⟨[.ref a], []⟩) (fun r s' => r = .ok (.ret (.bool true)) ∧ OldK s₁.heap s'.heap ∧ s'.os = s₁.os ∧ AllBare s'.gens) s₁ := fun H only sq hok one => by
    have free : ∀ {b : Addr} {o : Obj}, s₁.heap.get? b = some o → (∀ ws n, o.data ≠ .seq ws n) → H b = none := fun {b o} e nd => Classical.byContradiction fun z => by
      rw [(one b z).1, ha] at e
      cases e
      exact nd _ _ rfl
    have up : ∀ {b : Addr} {m : Str → Option Value}, s₁.heap.Ns b m → (hidT s₁.heap H).Ns b m := fun {b m} ⟨o, es, ep, e, d, r⟩ => ⟨o, es, ep, hid_of e (free e fun ws n z => by rw [d] at z; cases z), d, r⟩
    have kb : K.In (hidT s₁.heap H) := fun b o e => hid_of (KX b o e) (Classical.byContradiction fun z => by
      obtain ⟨z1, z2⟩ := one b z
      rw [z1, z2] at e
      cases e)
    have md : Mod K mg (hidT s₁.heap H) := ⟨kb, up gN, ⟨mb, up bN, bB⟩, let ⟨mc, h1, h2⟩ := lim; ⟨mc, up h1, h2⟩⟩
    have env : Env0 P w K mg (hidT s₁.heap H) callerA [] s₁ H := ⟨rfl, md, fun b o e => of_hidT e, Nat.le_of_eq (hidT_size _ _), trivial, fun b hb => (List.not_mem_nil hb).elim, hok, .of_eq hg⟩
    refine codeAny_mono ((F _ kb (up gN)).go callerA rfl hr [] s₁ H env ⟨[.ref a], []⟩ [.ref a] (hbind s₁ (.ref a)) [.ref a] (.cons rfl .nil) _ _ (hsp H only sq)) fun r s' h => ?_
    match r, h with
    | .error e, h => exact (hCX H e s' h).elim
    | .ok (.ret u), ⟨v, H', os, bare, un, hok', r', q⟩ =>
      cases (show v = .bl true from q)
      cases (show u = Value.bool true from r')
      refine ⟨rfl, OldK.of_keep fun b o e => ?_, os, bare⟩
      by_cases z : H b = none
      · exact un.keep b o e z (fun y => (List.not_mem_nil y).elim) (by simp)
      · rcases only b with y | ⟨ob, xs, y⟩
        · exact (z y).elim
        · have g1 := (hok b _ y).1
          have g2 := (hok' b _ (un.frzs b ob _ y)).1
          rw [e] at g1
          cases g1
          exact g2
  by_cases hk : K.lookup a = none
  · have at_ : ∀ b, (fun b => if b = a then some (HO.frz { cls := .type "list", data := .seq vs.toArray } (.lst (ns.map V.int))) else none) b = none ∨ b = a := fun b => by
      by_cases hb : b = a
      · exact .inr hb
      · exact .inl (if_neg hb)
    refine step (fun b => if b = a then some (HO.frz { cls := .type "list", data := .seq vs.toArray } (.lst (ns.map V.int))) else none) (fun b => ?_) (.inl (.inr ⟨_, if_pos rfl⟩)) (fun b u z => ?_) fun b z => ⟨(at_ b).resolve_left z, hk⟩
    · by_cases hb : b = a
      · exact .inr ⟨_, _, if_pos hb⟩
      · exact .inl (if_neg hb)
    · rcases at_ b with y | rfl
      · exact nomatch y.symm.trans z
      · cases (if_pos rfl).symm.trans z
        exact ⟨ha, by rw [List.length_map]; exact hl, vs, _, rv, ha⟩
  · obtain ⟨o, ho⟩ := Option.ne_none_iff_exists'.mp hk
    have e := KX a o ho
    rw [ha] at e
    cases e
    exact step (fun _ => none) (fun _ => .inl rfl) (.inr ⟨_, vs.toArray, _, ho, rfl, rfl, rfl, by rw [List.size_toArray, lv]; exact hl, by simpa using rv⟩) (fun b u z => nomatch z) fun b z => (z rfl).elim
/-- the end of a row whose law may ask repr -/
theorem walk_ofG {l : PySem.W.OpenLaw} {n k : Nat} {q : Program} {loose : List Str} {XP : (Str → Option Value) → Heap → Prop} {YP : World → Heap → Prop} {d : DefRec} {K : Params → PySem.W.Frag} {sp : PySem.W.Frag → Sp} {x : Str}
    (hn : l.most = some n) (hn2 : n ≤ sizeLine) (hdf : d.params.defaults = []) (hr : Room k callerA)
    (hY : ∀ (w : World) (h : Heap), YP w h → (K w.params).In h)
    (F : ∀ (w : World) (mg : Str → Option Value) (fa : Addr) (h : Heap), (K w.params).In h → h.Ns mainGlobals mg → mg d.name = some (.ref fa) →
      ∃ fd : FuncData, (∀ (s : Shared) (u : Value), BindsTo s fd ⟨[u], []⟩ [(x, u)]) ∧ ∀ base : Heap, (K w.params).In base → base.Ns mainGlobals mg → GnOk l.prog w (K w.params) mg base CX0 k fa fd [x] (sp (K w.params)))
    (hsp : ∀ (K : PySem.W.Frag) (H : Hp) (a : Addr) (ns : List Int), ns.length ≤ n → Only H → SqL K H a (ns.map V.int) → sp K [.ref a] H (fun v _ => v = .bl true) fun _ _ _ => False) :
    PySem.W.WalkO q loose XP YP l.row.toRowW d [] (fun f vs => PySem.call f vs) := by
  refine Att.attach_call hn hdf fun w s₀ s₁ mg mb fa o pm cd doc a vs ns G Y ho hd hcd hmg hobj hints hlen hg => ?_
  obtain ⟨fd, hb, hF⟩ := F w mg fa _ (hY w _ Y) G.T.g hmg
  exact law_callG (hY w _ Y) G.T.g G.T.b G.T.builtins G.T.nolimit hg hobj hints (Nat.le_trans hlen hn2) hr hF hb (fun H h1 h2 => hsp _ H a ns hlen h1 h2) fun H e s' z => z.elim
end Br

set_option Elab.async false
set_option linter.all false
set_option maxRecDepth 100000
set_option maxHeartbeats 4000000
/-! rows of integers on the heap; comprehensions that keep what stands -/
namespace Bd
open PySem PySem.Spec PyProof.Rows L2 Wd Br
abbrev noT : List Addr → Hp → Addr → Prop := fun _ _ _ => False
theorem own_no {K : PySem.W.Frag} : Own K noT := ⟨fun _ h => h, fun _ h => h, fun h => h.elim, fun h => h.elim, fun h => h.elim, fun h => h.elim⟩
/-- tuples and made instances stay -/
def Kp (H H' : Hp) : Prop := (∀ a xs, H a = some (.tup xs) → H' a = some (.tup xs)) ∧ ∀ a C dx fs, H a = some (.ins C dx fs) → H' a = some (.ins C dx fs)
theorem Kp.refl (H : Hp) : Kp H H := ⟨fun _ _ h => h, fun _ _ _ _ h => h⟩
theorem Kp.of {H H' : Hp} (s : Same H H') : Kp H H' := ⟨fun _ _ h => s _ _ h, fun _ _ _ _ h => s _ _ h⟩
theorem Kp.trans {H H1 H2 : Hp} (a : Kp H H1) (b : Kp H1 H2) : Kp H H2 := ⟨fun _ _ h => b.1 _ _ (a.1 _ _ h), fun _ _ _ _ h => b.2 _ _ _ _ (a.2 _ _ _ _ h)⟩
theorem kp_lst {H : Hp} {D : Addr} {xs ys : List V} (h : H D = some (.lst xs)) : Kp H (upd H D (.lst ys)) := by
  refine ⟨fun a zs e => ?_, fun a C dx fs e => ?_⟩ <;>
  · rw [upd_ne fun q => by rw [q, h] at e; cases e]
    exact e
theorem same_new {H : Hp} {p : Addr} {o : HO} (h : H p = none) : Same H (upd H p o) := fun b u e => by
  rw [upd_ne (ne_of_none e h)]
  exact e
theorem paired_get {α β : Type} {F : α → β → Prop} : ∀ {l : List α} {r : List β} {i : Nat} {x : α}, Paired F l r → l[i]? = some x → ∃ y, r[i]? = some y ∧ F x y
  | _, _, i, x, .nil, h => by simp at h
  | _, _, 0, x, .cons f p, h => by
    simp at h
    exact ⟨_, rfl, h ▸ f⟩
  | _, _, i + 1, x, .cons f p, h => by
    simp at h
    obtain ⟨y, h1, h2⟩ := paired_get p h
    exact ⟨y, by simpa using h1, h2⟩
/-! ### rows -/
def rowV (n : Nat) (f : Nat → Int) : List V := (List.range n).map fun j => V.int (f j)
theorem rowV_len {n : Nat} {f : Nat → Int} : (rowV n f).length = n := by simp [rowV]
theorem rowV_get {n j : Nat} {f : Nat → Int} (h : j < n) : (rowV n f)[j]? = some (.int (f j)) := by simp [rowV, h]
theorem rowV_mem {n : Nat} {f : Nat → Int} {x : V} (h : x ∈ rowV n f) : ∃ j, j < n ∧ x = .int (f j) := by
  obtain ⟨j, hj, e⟩ := List.mem_map.mp h
  exact ⟨j, List.mem_range.mp hj, e.symm⟩
theorem rowV_ext {n : Nat} {f g : Nat → Int} (h : ∀ j, j < n → f j = g j) : rowV n f = rowV n g := List.map_congr_left fun j hj => by rw [h j (List.mem_range.mp hj)]
theorem rowV_inj {n : Nat} {f g : Nat → Int} (h : rowV n f = rowV n g) {j : Nat} (hj : j < n) : f j = g j := by
  have a := rowV_get (f := f) hj
  rw [h, rowV_get hj] at a
  injection a with a
  injection a with a
  exact a.symm
theorem rowV_of {ys : List V} {n : Nat} {f : Nat → Int} (hl : ys.length = n) (h : ∀ (i : Nat) y, ys[i]? = some y → y = .int (f i)) : ys = rowV n f := by
  apply List.ext_getElem?
  intro i
  by_cases hi : i < n
  · rw [rowV_get hi, List.getElem?_eq_getElem (by omega), h i _ (List.getElem?_eq_getElem (by omega))]
  · rw [List.getElem?_eq_none (by omega), List.getElem?_eq_none (by rw [rowV_len]; omega)]
def RowAt (H : Hp) (x : V) (n : Nat) (f : Nat → Int) : Prop := ∃ b : Addr, x = .ref b ∧ H b = some (.tup (rowV n f))
def MatT (H : Hp) (a : Addr) (n : Nat) (m : Mx) : Prop := ∃ rs : List V, H a = some (.tup rs) ∧ rs.length = n ∧ ∀ (i : Nat) x, rs[i]? = some x → RowAt H x n (m i)
theorem RowAt.mono {H H' : Hp} {x : V} {n : Nat} {f : Nat → Int} (k : Kp H H') (h : RowAt H x n f) : RowAt H' x n f := let ⟨b, e, q⟩ := h; ⟨b, e, k.1 _ _ q⟩
theorem RowAt.ext {H : Hp} {x : V} {n : Nat} {f g : Nat → Int} (h : RowAt H x n f) (e : ∀ j, j < n → f j = g j) : RowAt H x n g := let ⟨b, e1, q⟩ := h; ⟨b, e1, by rw [q, rowV_ext e]⟩
theorem MatT.mono {H H' : Hp} {a : Addr} {n : Nat} {m : Mx} (k : Kp H H') (h : MatT H a n m) : MatT H' a n m := let ⟨rs, q, l, r⟩ := h; ⟨rs, k.1 _ _ q, l, fun i x e => (r i x e).mono k⟩
theorem MatT.ext {H : Hp} {a : Addr} {n : Nat} {m t : Mx} (h : MatT H a n m) (e : EqM n m t) : MatT H a n t := by
  obtain ⟨rs, q, l, r⟩ := h
  refine ⟨rs, q, l, fun i x z => (r i x z).ext fun j hj => e i j ?_ hj⟩
  have := (List.getElem?_eq_some_iff.mp z).1
  omega
theorem MatT.row {H : Hp} {a : Addr} {n : Nat} {m : Mx} {rs : List V} (h : MatT H a n m) (e : H a = some (.tup rs)) {i : Nat} (hi : i < n) : ∃ b : Addr, rs[i]? = some (.ref b) ∧ H b = some (.tup (rowV n (m i))) := by
  obtain ⟨rs', q, l, r⟩ := h
  rw [e] at q
  cases q
  obtain ⟨b, e1, q1⟩ := r i _ (List.getElem?_eq_getElem (by omega))
  exact ⟨b, by rw [List.getElem?_eq_getElem (by omega), e1], q1⟩
theorem MatT.uniq {H : Hp} {a : Addr} {n k : Nat} {m t : Mx} (h : MatT H a n m) (g : MatT H a k t) : n = k ∧ EqM n m t := by
  obtain ⟨rs, q, l, r⟩ := h
  obtain ⟨rs', q', l', r'⟩ := g
  rw [q] at q'
  cases q'
  have e : n = k := by omega
  refine ⟨e, fun i j hi hj => ?_⟩
  subst e
  obtain ⟨b, e1, q1⟩ := r i _ (List.getElem?_eq_getElem (by omega))
  obtain ⟨c, e2, q2⟩ := r' i _ (List.getElem?_eq_getElem (by omega))
  rw [e1] at e2
  cases e2
  rw [q1] at q2
  have q3 : rowV n (m i) = rowV n (t i) := by injection (Option.some.inj q2)
  exact rowV_inj q3 hj
/-- a new matrix of new rows -/
theorem mat_new {H : Hp} {l n : Nat} {m : Mx} {ys : List V} (hn : H l = none) (hl : ys.length = n) (h : ∀ (i : Nat) y, ys[i]? = some y → RowAt H y n (m i)) : MatT (upd H l (.tup ys)) l n m :=
  ⟨ys, upd_same, hl, fun i y e => (h i y e).mono (Kp.of (same_new hn))⟩
/-- the entry there -/
theorem MatT.at_ {H : Hp} {K : PySem.W.Frag} {a : Addr} {n : Nat} {m : Mx} (h : MatT H a n m) {i : Nat} (hi : i < n) : ∃ (rs : List V) (b : Addr), H a = some (.tup rs) ∧ rs.length = n ∧ atI rs (i : Int) = some (.ref b) ∧ H b = some (.tup (rowV n (m i))) := by
  obtain ⟨rs, q, l, r⟩ := h
  obtain ⟨b, e1, q1⟩ := r i _ (List.getElem?_eq_getElem (by omega))
  exact ⟨rs, b, q, l, atI_nat (by rw [List.getElem?_eq_getElem (by omega), e1]), q1⟩
theorem rowV_at {n j : Nat} {f : Nat → Int} (h : j < n) : atI (rowV n f) (j : Int) = some (.int (f j)) := atI_nat (rowV_get h)
abbrev rLenQ (K : PySem.W.Frag) : List V → Hp → VK → Prop := fun xs H Q => ∃ p ys, xs = [.ref p] ∧ (SqL K H p ys ∨ SqT K H p ys) ∧ Q (.int ys.length) H
abbrev rTupQ (K : PySem.W.Frag) : List V → Hp → VK → Prop := fun xs H Q => ∃ p ys, xs = [.ref p] ∧ ((SqL K H p ys ∧ ∀ l, H l = none → Q (.ref l) (upd H l (.tup ys))) ∨ (SqT K H p ys ∧ Q (.ref p) H))
abbrev rLstQ (K : PySem.W.Frag) : List V → Hp → VK → Prop := fun xs H Q => ∃ p ys, xs = [.ref p] ∧ (SqL K H p ys ∨ SqT K H p ys) ∧ ∀ l, H l = none → Q (.ref l) (upd H l (.lst ys))
/-! ### walks -/
theorem walk_rng {n : Nat} : Walk (Itr 0 n) n (fun _ => True) (YFn fun i => .int (i : Int)) := (walk_range (lo := 0) (n := n)).mono (fun _ _ => trivial) fun i H x H' _ _ y => by
  obtain ⟨e1, e2⟩ := y
  exact ⟨e1, by rw [e2]; show V.int (0 + (i : Int)) = V.int (i : Int); rw [Int.zero_add]⟩
/-- a comprehension that keeps what stands -/
theorem lc_keep {J : It} {n : Nat} {G : Hp → Prop} {Y : Nat → Hp → V → Hp → Prop} (w : Walk J n G Y) (R : Nat → Hp → V → Prop) (hR : ∀ i H H' y, Kp H H' → R i H y → R i H' y) {g : TG} {te : TE} {vs : List Nat} {σ : L2.St} {H1 : Hp} {D : Addr} {Qd : Hp → Prop}
    (hD : H1 D = none) (hn : n ≤ 1000) (hG : ∀ H, Same H1 H → G H)
    (hs : ∀ i x H H' (kT : VK), i < n → Same H1 H → Y i H x H' → (∀ y H4, Same H H4 → R i H4 y → kT y H4) → g x (wipe σ vs) H' fun σ2 H2 => wipe σ2 vs = wipe σ vs ∧ te σ2 H2 kT)
    (hd : ∀ H ys, Same H1 H → H D = some (.lst ys) → ys.length = n → (∀ (i : Nat) y, ys[i]? = some y → R i H y) → Qd H) :
    ∃ W : Nat → Nat → Hp → Prop, (∃ m, W 0 m (upd H1 D (.lst []))) ∧ ∀ i m H, W i m H →
      (J.stop i H ∧ Qd H) ∨ (J.go i H ∧ ∃ Nx : Hp → Prop, (∀ H', Nx H' → ∃ m', m' < m ∧ W (i + 1) m' H') ∧ ∀ x H', J.yld i H x H' → g x (wipe σ vs) H' fun σ2 H2 => wipe σ2 vs = wipe σ vs ∧ tYes σ2 H2 fun b H3 =>
        if b = true then te σ2 H3 fun y H4 => ∃ acc, H4 D = some (.lst acc) ∧ acc.length < sizeLine ∧ Nx (upd H4 D (.lst (acc ++ [y]))) else Nx H3) := by
  have past : ∀ {H : Hp} {o : HO}, Same H1 H → Same H1 (upd H D o) := fun s b u e => by
    rw [upd_ne (ne_of_none e hD)]
    exact s _ _ e
  refine lc_it w (fun i H => Same H1 H ∧ ∃ ys, H D = some (.lst ys) ∧ ys.length = i ∧ ∀ (j : Nat) y, ys[j]? = some y → R j H y) ⟨past (Same.refl _), [], upd_same, rfl, fun j y e => by simp at e⟩ (fun i H _ ⟨s, _⟩ => hG H s) ?_
    (fun H ⟨s, ys, d, l, p⟩ => hd H ys s d l p)
  rintro i x H H' hi ⟨s, ys, d, l, p⟩ y
  refine hs i x H H' _ hi s y fun z H4 s4 r => ⟨ys, s4 _ _ d, small1000 (by omega), past (s.trans s4), ys ++ [z], upd_same, by simp; omega, fun j u e => ?_⟩
  have kp : Kp H4 (upd H4 D (.lst (ys ++ [z]))) := kp_lst (s4 _ _ d)
  by_cases hj : j < ys.length
  · rw [List.getElem?_append_left hj] at e
    exact hR j _ _ u ((Kp.of s4).trans kp) (p j u e)
  · rw [List.getElem?_append_right (by omega)] at e
    have hj0 : j - ys.length = 0 := by
      have := (List.getElem?_eq_some_iff.mp e).1
      simp at this
      omega
    rw [hj0] at e
    simp at e
    subst e
    obtain rfl : j = i := by omega
    exact hR j _ _ z kp r
/-- .. of integers -/
theorem lc_ints {J : It} {n : Nat} {G : Hp → Prop} {Y : Nat → Hp → V → Hp → Prop} (w : Walk J n G Y) (f : Nat → Int) {g : TG} {te : TE} {vs : List Nat} {σ : L2.St} {H1 : Hp} {D : Addr} {Qd : Hp → Prop}
    (hD : H1 D = none) (hn : n ≤ 1000) (hG : ∀ H, Same H1 H → G H)
    (hs : ∀ i x H H' (kT : VK), i < n → Same H1 H → Y i H x H' → (∀ H4, Same H H4 → kT (.int (f i)) H4) → g x (wipe σ vs) H' fun σ2 H2 => wipe σ2 vs = wipe σ vs ∧ te σ2 H2 kT)
    (hd : ∀ H, Same H1 H → H D = some (.lst (rowV n f)) → Qd H) :
    ∃ W : Nat → Nat → Hp → Prop, (∃ m, W 0 m (upd H1 D (.lst []))) ∧ ∀ i m H, W i m H →
      (J.stop i H ∧ Qd H) ∨ (J.go i H ∧ ∃ Nx : Hp → Prop, (∀ H', Nx H' → ∃ m', m' < m ∧ W (i + 1) m' H') ∧ ∀ x H', J.yld i H x H' → g x (wipe σ vs) H' fun σ2 H2 => wipe σ2 vs = wipe σ vs ∧ tYes σ2 H2 fun b H3 =>
        if b = true then te σ2 H3 fun y H4 => ∃ acc, H4 D = some (.lst acc) ∧ acc.length < sizeLine ∧ Nx (upd H4 D (.lst (acc ++ [y]))) else Nx H3) :=
  lc_keep w (fun i _ y => y = .int (f i)) (fun _ _ _ _ _ h => h) hD hn hG (fun i x H H' kT hi s y h => hs i x H H' kT hi s y fun H4 s4 => h _ H4 s4 rfl)
    fun H ys s d l r => hd H s (by rw [d, rowV_of l r])
/-- .. of truths -/
theorem lc_bs {J : It} {n : Nat} {G : Hp → Prop} {Y : Nat → Hp → V → Hp → Prop} (w : Walk J n G Y) (Pi : Nat → Prop) {g : TG} {te : TE} {vs : List Nat} {σ : L2.St} {H1 : Hp} {D : Addr} {Qd : Hp → Prop}
    (hD : H1 D = none) (hn : n ≤ 1000) (hG : ∀ H, Same H1 H → G H)
    (hs : ∀ i x H H' (kT : VK), i < n → Same H1 H → Y i H x H' → (∀ b H4, Same H H4 → (b = true ↔ Pi i) → kT (.bl b) H4) → g x (wipe σ vs) H' fun σ2 H2 => wipe σ2 vs = wipe σ vs ∧ te σ2 H2 kT)
    (hd : ∀ H (bs : List Bool), Same H1 H → H D = some (.lst (bs.map V.bl)) → (bs.all id = true ↔ ∀ i, i < n → Pi i) → (bs.any id = true ↔ ∃ i, i < n ∧ Pi i) → Qd H) :
    ∃ W : Nat → Nat → Hp → Prop, (∃ m, W 0 m (upd H1 D (.lst []))) ∧ ∀ i m H, W i m H →
      (J.stop i H ∧ Qd H) ∨ (J.go i H ∧ ∃ Nx : Hp → Prop, (∀ H', Nx H' → ∃ m', m' < m ∧ W (i + 1) m' H') ∧ ∀ x H', J.yld i H x H' → g x (wipe σ vs) H' fun σ2 H2 => wipe σ2 vs = wipe σ vs ∧ tYes σ2 H2 fun b H3 =>
        if b = true then te σ2 H3 fun y H4 => ∃ acc, H4 D = some (.lst acc) ∧ acc.length < sizeLine ∧ Nx (upd H4 D (.lst (acc ++ [y]))) else Nx H3) := by
  refine lc_keep w (fun i _ y => ∃ b : Bool, y = .bl b ∧ (b = true ↔ Pi i)) (fun _ _ _ _ _ h => h) hD hn hG (fun i x H H' kT hi s y h => hs i x H H' kT hi s y fun b H4 s4 hb => h _ H4 s4 ⟨b, rfl, hb⟩) fun H ys s d l r => ?_
  obtain ⟨bs, e, hl, hb⟩ : ∃ bs : List Bool, ys = bs.map V.bl ∧ bs.length = n ∧ ∀ (i : Nat) b, bs[i]? = some b → (b = true ↔ Pi i) := by
    refine ⟨ys.map fun v => match v with | .bl b => b | _ => false, ?_, by simp [l], fun i b e => ?_⟩
    · apply List.ext_getElem?
      intro i
      rw [List.getElem?_map, List.getElem?_map]
      cases q : ys[i]? with
      | none => rfl
      | some y =>
        obtain ⟨b, rfl, _⟩ := r i y q
        rfl
    · rw [List.getElem?_map] at e
      obtain ⟨y, q, e⟩ := Option.map_eq_some_iff.mp e
      obtain ⟨c, rfl, hc⟩ := r i y q
      cases e
      exact hc
  refine hd H bs s (by rw [d, e]) ?_ ?_
  · rw [List.all_eq_true]
    constructor
    · intro h i hi
      have q := List.getElem?_eq_getElem (l := bs) (i := i) (by omega)
      exact (hb i _ q).mp (h _ (List.mem_of_getElem? q))
    · intro h b hm
      obtain ⟨i, q⟩ := List.getElem?_of_mem hm
      exact (hb i b q).mpr (h i (by have := (List.getElem?_eq_some_iff.mp q).1; omega))
  · rw [List.any_eq_true]
    constructor
    · rintro ⟨b, hm, h⟩
      obtain ⟨i, q⟩ := List.getElem?_of_mem hm
      exact ⟨i, by have := (List.getElem?_eq_some_iff.mp q).1; omega, (hb i b q).mp h⟩
    · rintro ⟨i, hi, h⟩
      have q := List.getElem?_eq_getElem (l := bs) (i := i) (by omega)
      exact ⟨_, List.mem_of_getElem? q, (hb i _ q).mpr h⟩
end Bd

set_option Elab.async false
set_option linter.all false
set_option maxRecDepth 100000
set_option maxHeartbeats 4000000
/-! rows that are rows; the tightest rows -/
namespace Bd
open PySem PySem.Spec PyProof.Rows L2 Wd Br
structure BTxt (mg : Str → Option Value) (fI : Addr) : Prop where
  len : mg "len" = none
  isin : mg "isinstance" = none
  int : mg "int" = none
  bool : mg "bool" = none
  tup : mg "tuple" = none
  all : mg "all" = none
  any : mg "any" = none
  range : mg "range" = none
  min : mg "min" = none
  ie : ∃ u, mg "INTEGER_END" = some u ∧ RelV (.int ten60) u
  mc : ∃ u, mg "MAX_CLOCKS" = some u ∧ RelV (.int 12) u
  fi : mg "is_integer" = some (.ref fI)
/-- where a def stands, and its promise -/
structure At_ (P : Program) (w : World) (K : PySem.W.Frag) (mg : Str → Option Value) (base : Heap) (CX : CXT) (k : Nat) (x : Str) (f : Addr) (fd : FuncData) (ps : List Str) (sp : Sp) : Prop where
  m : mg x = some (.ref f)
  kp : PySem.W.keepIn K (.ref f) = true
  b : Binds K fd ps []
  g : FnOk P w K mg base CX k f fd ps sp
def IntV (K : PySem.W.Frag) (H : Hp) (v : V) : Prop := (∃ i, v = .int i) ∨ ((∀ i, v ≠ .int i) ∧ ((Isi K H v "int" true ∧ Isi K H v "bool" true) ∨ Isi K H v "int" false))
theorem intV_of {K : PySem.W.Frag} {H H' : Hp} {v : V} {m n : Nat} (s : Same H H') (d : Dat noT [] H m n v) : IntV K H' v := by
  rcases d.isInt (K := K) own_no (Ob.of s) with ⟨i, e, _⟩ | h
  · exact .inl ⟨i, e⟩
  · exact .inr h
def spInt (K : PySem.W.Frag) : Sp := fun vs H Q _ => ∃ v : V, vs = [v] ∧ IntV K H v ∧ ∀ b, (b = true ↔ IsInt v) → Q (.bl b) H
def AreI (H : Hp) (v : V) (many : Int) : Prop := ∃ a xs, v = .ref a ∧ H a = some (.tup xs) ∧ (xs.length : Int) = many ∧ ∀ x ∈ xs, IsInt x
def spAre (K : PySem.W.Frag) : Sp := fun vs H Q _ => ∃ (v : V) (many : Int) (H0 : Hp) (m n : Nat), vs = [v, .int many] ∧ Same H0 H ∧ m ≤ 1000 ∧ Dat noT [] H0 m n v ∧ ∀ H' b, Same H H' → (b = true ↔ AreI H0 v many) → Q (.bl b) H'
/-- rows, as a value -/
def IsRows (H : Hp) (v : V) : Prop := ∃ a rs, v = .ref a ∧ H a = some (.tup rs) ∧ 1 ≤ rs.length ∧ rs.length ≤ 13 ∧ ∀ r ∈ rs, AreI H r rs.length
def spIsRows (K : PySem.W.Frag) : Sp := fun vs H Q _ => ∃ (v : V) (m n : Nat), vs = [v] ∧ m ≤ 1000 ∧ Dat noT [] H m n v ∧ ∀ H' b, Same H H' → (b = true ↔ IsRows H v) → Q (.bl b) H'
def InB (n : Nat) (m : Mx) : Prop := ∀ i j, i < n → j < n → -ten60 < m i j ∧ m i j < ten60
theorem isRows_of {H : Hp} {a : Addr} {n : Nat} {m : Mx} (h : MatT H a n m) (h1 : 1 ≤ n) (h2 : n ≤ 13) (b : InB n m) : IsRows H (.ref a) := by
  obtain ⟨rs, q, l, r⟩ := h
  refine ⟨a, rs, rfl, q, by omega, by omega, fun x hx => ?_⟩
  obtain ⟨i, hi⟩ := List.getElem?_of_mem hx
  have li := (List.getElem?_eq_some_iff.mp hi).1
  obtain ⟨c, rfl, qc⟩ := r i x hi
  refine ⟨c, _, rfl, qc, by rw [rowV_len, l], fun y hy => ?_⟩
  obtain ⟨j, hj, rfl⟩ := rowV_mem hy
  exact ⟨_, rfl, b i j (by omega) hj⟩
theorem isRows_mat {H : Hp} {v : V} (h : IsRows H v) : ∃ (a : Addr) (n : Nat) (m : Mx), v = .ref a ∧ MatT H a n m ∧ 1 ≤ n ∧ n ≤ 13 ∧ InB n m := by
  obtain ⟨a, rs, rfl, q, h1, h2, r⟩ := h
  have row : ∀ x ∈ rs, ∃ f : Nat → Int, RowAt H x rs.length f ∧ ∀ j, j < rs.length → -ten60 < f j ∧ f j < ten60 := fun x hx => by
    obtain ⟨c, xs, rfl, qc, lc, ic⟩ := r x hx
    have lx : xs.length = rs.length := by omega
    refine ⟨fun j => match xs[j]? with | some (.int z) => z | _ => 0, ⟨c, rfl, ?_⟩, fun j hj => ?_⟩
    · rw [qc]
      congr 2
      refine rowV_of lx fun i y e => ?_
      obtain ⟨z, rfl, _⟩ := ic y (List.mem_of_getElem? e)
      show V.int z = V.int (match xs[i]? with | some (.int z) => z | _ => 0)
      rw [e]
    · have e := List.getElem?_eq_getElem (l := xs) (i := j) (by omega)
      obtain ⟨z, ez, b1, b2⟩ := ic _ (List.mem_of_getElem? e)
      rw [ez] at e
      show -ten60 < (match xs[j]? with | some (.int z) => z | _ => 0) ∧ (match xs[j]? with | some (.int z) => z | _ => 0) < ten60
      rw [e]
      exact ⟨b1, b2⟩
  have ch : ∃ F : Nat → Nat → Int, ∀ (i : Nat) x, rs[i]? = some x → RowAt H x rs.length (F i) ∧ ∀ j, j < rs.length → -ten60 < F i j ∧ F i j < ten60 := by
    refine ⟨fun i => if hi : i < rs.length then Classical.choose (row _ (List.getElem_mem hi)) else fun _ => 0, fun i x e => ?_⟩
    obtain ⟨hi, rfl⟩ := List.getElem?_eq_some_iff.mp e
    simp only [hi, dif_pos]
    exact Classical.choose_spec (row _ (List.getElem_mem hi))
  obtain ⟨F, hF⟩ := ch
  exact ⟨a, rs.length, F, rfl, ⟨rs, q, rfl, fun i x e => (hF i x e).1⟩, h1, h2, fun i j hi hj => (hF i _ (List.getElem?_eq_getElem hi)).2 j hj⟩
section
variable {P : Program} {w : World} {K : PySem.W.Frag} {mg : Str → Option Value} {base : Heap} {fI fA : Addr}
theorem scIsInteger : FnScope ["value"] ["value"] (defScope sIsInteger) := ⟨rfl, rfl, rfl, by decide +kernel, rfl, by decide +kernel, by decide +kernel⟩
theorem ok_int {f : Addr} {fd : FuncData} (F : Fun K "is_integer" "is_integer" sIsInteger f fd) (X : BTxt mg fI) : FnOk P w K mg base CX0 1 f fd ["value"] (spInt K) := by
  refine F.ok scIsInteger (fun vs H Q E h => ?_) (fun cdv A outer s H vs Q E hr h => ?_)
  · obtain ⟨v, rfl, _⟩ := h
    rfl
  · obtain ⟨v, rfl, iv, k⟩ := h
    refine ⟨_, pss_one (ps_ret (pe_and (pe_isi (N := "int") (pv 0) X.isin X.int) (pe_and (pe_not (pe_isi (N := "bool") (pv 0) X.isin X.bool)) (pe_one (pe_chain op_lt op_lt (pe_un un_neg (pe_gcon rfl X.ie)) (pv 0) (pe_gcon rfl X.ie)))))), ?_⟩
    have no : (∀ i, v ≠ .int i) → (false = true ↔ IsInt v) := fun h => nay fun ⟨i, e, _⟩ => h i e
    rcases iv with ⟨i, rfl⟩ | ⟨ni, ⟨i1, i2⟩ | i1⟩
    · refine ⟨_, rfl, true, isi_ty (.base (.int i)) (by decide), _, rfl, iteT ⟨_, rfl, false, isi_ty (.base (.int i)) (by decide), _, rfl, _, rfl, iteT ⟨_, rfl, _, rfl, _, _, rfl, rfl, _, rfl, ?_⟩⟩⟩
      refine ite2 (fun c => ?_) (fun c => ?_)
      · refine ⟨_, _, rfl, rfl, k _ ?_⟩
        rw [decide_eq_true_iff]
        exact ⟨fun h => ⟨i, rfl, of_decide_eq_true c, h⟩, fun ⟨j, e, _, h⟩ => by cases e; exact h⟩
      · refine k _ (nay fun ⟨j, e, h, _⟩ => ?_)
        cases e
        exact (c (decide_eq_true h)).elim
    · exact ⟨_, rfl, _, i1, _, rfl, iteT ⟨_, rfl, _, i2, _, rfl, _, rfl, iteF (k _ (no ni))⟩⟩
    · exact ⟨_, rfl, _, i1, _, rfl, iteF (k _ (no ni))⟩
abbrev nAre : List Str := ["value", "many", "item"]
theorem scAre : FnScope nAre ["value", "many"] (defScope sAreIntegers) := ⟨rfl, rfl, rfl, by decide +kernel, rfl, by decide +kernel, by decide +kernel⟩
theorem ok_are {f : Addr} {fd fdI : FuncData} (F : Fun K "are_integers" "are_integers" sAreIntegers f fd) (X : BTxt mg fI) (FI : Fun K "is_integer" "is_integer" sIsInteger fI fdI) (bI : Binds K fdI ["value"] []) :
    FnOk P w K mg base CX0 2 f fd ["value", "many"] (spAre K) := by
  have GI : FnOk P w K mg base CX0 1 fI fdI ["value"] (spInt K) := ok_int FI X
  refine F.ok scAre (fun vs H Q E h => ?_) (fun cdv A outer s H vs Q E hr h => ?_)
  · obtain ⟨v, many, H0, m, n, rfl, _⟩ := h
    rfl
  · obtain ⟨v, many, H0, m, n, rfl, s0, hm, d, k⟩ := h
    refine ⟨_, pss_one (ps_ret (pe_and (pe_isi (N := "tuple") (pv 0) X.isin X.tup) (pe_and (pe_cmpR op_eq (pe_callB call_len_seq (by rfl) X.len PySem.boot_len (pa_cons (pv 0) pa_nil)) (pv 1) (nomark _))
      (pe_one (pe_callB (cr_all rfl) (by rfl) X.all (by decide +kernel) (pa_cons (pe_lc (own := [("item", 2)]) (g := gName 2) (tt := tYes) rfl scAre.nd (pi_tup (pv 0)) (blkOk_by (N := nAre) (sc := defScope sAreIntegers) (by decide +kernel))
        (fun _ _ _ _ _ => pg_name (i := 2) scAre.nd rfl (Or.inl rfl)) (fun _ _ _ _ _ => pts_nil) (fun _ _ _ _ _ => pe_call GI hr rfl X.fi FI.kp bI .nil pass0 (pa_cons (pv 2) pa_nil))) pa_nil)))))), ?_⟩
    rcases d.isTup (K := K) own_no (Ob.of s0) with ⟨a, xs, j, rfl, _, e0, e, lx, px, i1⟩ | ⟨no, i1⟩
    · refine ⟨_, rfl, _, i1, _, rfl, iteT ⟨_, rfl, a, xs, rfl, .inr (SqT.of e), _, rfl, rfl, _, rfl, ?_⟩⟩
      refine ite2 (fun c => ?_) (fun c => ?_)
      · have c' : (V.int xs.length) = .int many := of_decide_eq_true c
        injection c' with c'
        refine ⟨_, rfl, a, rfl, ⟨_, SqT.of e⟩, fun D hD => ?_⟩
        refine lc_bs (walk_tup (K := K) (a := a) (xs := xs)) (fun i => ∃ x, xs[i]? = some x ∧ IsInt x) hD (by omega) (fun H1 s1 => SqT.of (s1 _ _ e)) ?_ ?_
        · rintro i x H1 H' kT hi s1 ⟨rfl, hx⟩ h
          refine ⟨rfl, _, rfl, x, rfl, intV_of (s0.trans s1) (px x (List.mem_of_getElem? hx)), fun b hb => h b _ (Same.refl _) (hb.trans ⟨fun q => ⟨x, hx, q⟩, fun ⟨y, hy, q⟩ => ?_⟩)⟩
          rw [hx] at hy
          cases hy
          exact q
        · rintro H1 bs s1 hD1 hall -
          refine ⟨D, bs, rfl, SqL.of hD1, k _ _ s1 (hall.trans ⟨fun h => ⟨a, xs, rfl, e0, c', fun x hx => ?_⟩, fun ⟨a', xs', ea, e', _, h⟩ i hi => ?_⟩)⟩
          · obtain ⟨i, hi⟩ := List.getElem?_of_mem hx
            obtain ⟨y, hy, q⟩ := h i (List.getElem?_eq_some_iff.mp hi).1
            rw [hi] at hy
            cases hy
            exact q
          · cases ea
            rw [e0] at e'
            cases e'
            exact ⟨_, List.getElem?_eq_getElem hi, h _ (List.getElem_mem hi)⟩
      · refine k _ _ (Same.refl _) (nay fun ⟨a', xs', ea, e', lm, _⟩ => c ?_)
        cases ea
        rw [e0] at e'
        cases e'
        rw [lm]
        exact decide_eq_true rfl
    · exact ⟨_, rfl, _, i1, _, rfl, iteF (k _ _ (Same.refl _) (nay fun ⟨a', xs', ea, e', _⟩ => no _ _ ea e'))⟩
abbrev nRows : List Str := ["value", "row"]
theorem scRows : FnScope nRows ["value"] (defScope sIsRows) := ⟨rfl, rfl, rfl, by decide +kernel, rfl, by decide +kernel, by decide +kernel⟩
theorem ok_isRows {f : Addr} {fd fdA : FuncData} (F : Fun K "is_rows" "is_rows" sIsRows f fd) (X : BTxt mg fI) (GA : At_ P w K mg base CX0 2 "are_integers" fA fdA ["value", "many"] (spAre K)) : FnOk P w K mg base CX0 3 f fd ["value"] (spIsRows K) := by
  refine F.ok scRows (fun vs H Q E h => ?_) (fun cdv A outer s H vs Q E hr h => ?_)
  · obtain ⟨v, m, n, rfl, _⟩ := h
    rfl
  · obtain ⟨v, m, n, rfl, hm, d, k⟩ := h
    refine ⟨_, pss_cons (ps_if (PW.pt (pw_or (pt_not (pt_val (pe_isi (N := "tuple") (pv 0) X.isin X.tup))) (pw_or1 (pt_not (pt_chain op_le op_le pe_int (pe_callB call_len_seq (by rfl) X.len PySem.boot_len (pa_cons (pv 0) pa_nil)) (pe_op op_add (pe_gcon rfl X.mc) pe_int)))))) (pss_one (ps_ret pe_bl)) pss_nil)
      (pss_one (ps_ret (pe_callB (cr_all rfl) (by rfl) X.all (by decide +kernel) (pa_cons (pe_lc (own := [("row", 1)]) (g := gName 1) (tt := tYes) rfl scRows.nd (pi_tup (pv 0)) (blkOk_by (N := nRows) (sc := defScope sIsRows) (by decide +kernel))
        (fun _ _ _ _ _ => pg_name (i := 1) scRows.nd rfl (Or.inl rfl)) (fun _ _ _ _ _ => pts_nil) (fun _ _ _ _ _ => pe_call GA.g hr rfl GA.m GA.kp GA.b .nil pass0 (pa_cons (pv 1) (pa_cons (pe_callB (r := rLenQ K) call_len_seq (by rfl) X.len PySem.boot_len (pa_cons (pv 0) pa_nil)) pa_nil)))) pa_nil)))), ?_⟩
    rcases d.isTup (K := K) own_no (Ob.of (Same.refl _)) with ⟨a, xs, j, rfl, _, e0, e, lx, px, i1⟩ | ⟨no, i1⟩
    · have bad : ¬ (1 ≤ xs.length ∧ xs.length ≤ 13) → (false = true ↔ IsRows H (.ref a)) := fun h => nay fun ⟨a', xs', ea, e', h1, h2, _⟩ => h (by
        cases ea
        rw [e0] at e'
        cases e'
        exact ⟨h1, h2⟩)
      refine ⟨_, rfl, _, i1, _, rfl, iteF ⟨_, rfl, a, xs, rfl, .inr (SqT.of e), _, _, rfl, rfl, _, rfl, ?_⟩⟩
      refine ite2 (fun c => ?_) (fun c => ?_)
      · have c1 : 1 ≤ xs.length := by
          have := of_decide_eq_true c
          omega
        refine ⟨_, _, rfl, rfl, _, _, rfl, rfl, _, rfl, ?_⟩
        refine ite2 (fun c2 => ?_) (fun c2 => ?_)
        · refine k _ _ (Same.refl _) (bad fun h => ?_)
          have : decide ((xs.length : Int) ≤ 12 + 1) = true := decide_eq_true (by omega)
          rw [this] at c2
          cases c2
        · have c3 : xs.length ≤ 13 := by
            have : ¬ ¬ ((xs.length : Int) ≤ 12 + 1) := fun q => c2 (by rw [decide_eq_false q]; rfl)
            omega
          refine ⟨_, rfl, a, rfl, ⟨_, SqT.of e⟩, fun D hD => ?_⟩
          refine lc_bs (walk_tup (K := K) (a := a) (xs := xs)) (fun i => ∃ x, xs[i]? = some x ∧ AreI H x xs.length) hD (by omega) (fun H1 s1 => SqT.of (s1 _ _ e)) ?_ ?_
          · rintro i x H1 H' kT hi s1 ⟨rfl, hx⟩ h
            refine ⟨rfl, _, rfl, _, rfl, a, xs, rfl, .inr (SqT.of (s1 _ _ e)), x, _, H, m, j, rfl, s1, hm, px x (List.mem_of_getElem? hx), fun H4 b s4 hb => h b H4 s4 (hb.trans ⟨fun q => ⟨x, hx, q⟩, fun ⟨y, hy, q⟩ => ?_⟩)⟩
            rw [hx] at hy
            cases hy
            exact q
          · rintro H1 bs s1 hD1 hall -
            refine ⟨D, bs, rfl, SqL.of hD1, k _ _ s1 (hall.trans ⟨fun h => ⟨a, xs, rfl, e0, c1, c3, fun x hx => ?_⟩, fun ⟨a', xs', ea, e', _, _, h⟩ i hi => ?_⟩)⟩
            · obtain ⟨i, hi⟩ := List.getElem?_of_mem hx
              obtain ⟨y, hy, q⟩ := h i (List.getElem?_eq_some_iff.mp hi).1
              rw [hi] at hy
              cases hy
              exact q
            · cases ea
              rw [e0] at e'
              cases e'
              exact ⟨_, List.getElem?_eq_getElem hi, h _ (List.getElem_mem hi)⟩
      · refine ⟨_, rfl, iteT (k _ _ (Same.refl _) (bad fun h => c (decide_eq_true (by omega))))⟩
    · exact ⟨_, rfl, _, i1, _, rfl, iteT (k _ _ (Same.refl _) (nay fun ⟨a', xs', ea, e', _⟩ => no _ _ ea e'))⟩
end
end Bd

set_option Elab.async false
set_option linter.all false
set_option maxRecDepth 100000
set_option maxHeartbeats 4000000
/-! the tightest rows -/
namespace Bd
open PySem PySem.Spec PyProof.Rows L2 Wd Br
def spTight (K : PySem.W.Frag) : Sp := fun vs H Q _ => ∃ (a : Addr) (n : Nat) (m : Mx), vs = [.ref a] ∧ MatT H a n m ∧ 1 ≤ n ∧ n ≤ 13 ∧
  (∀ t a' H', Same H H' → Tight n m t → MatT H' a' n t → Q (.ref a') H') ∧ (∀ H', Same H H' → ¬ Feas n m → Q .non H')
section
variable {P : Program} {w : World} {K : PySem.W.Frag} {mg : Str → Option Value} {base : Heap} {fI fA : Addr}
abbrev nTight : List Str := ["rows", "places", "k", "i", "j", "row"]
theorem scTight : FnScope nTight ["rows"] (defScope sTightRows) := ⟨rfl, rfl, rfl, by decide +kernel, rfl, by decide +kernel, by decide +kernel⟩
theorem ok_tight {f : Addr} {fd : FuncData} (F : Fun K "tight_rows" "tight_rows" sTightRows f fd) (X : BTxt mg fI) : FnOk P w K mg base CX0 1 f fd ["rows"] (spTight K) := by
  refine F.ok scTight (fun vs H Q E h => ?_) (fun cdv A outer s H vs Q E hr h => ?_)
  · obtain ⟨a, n, m, rfl, _⟩ := h
    rfl
  · obtain ⟨a, n, m, rfl, mt, n1, n13, yes, no⟩ := h
    have nd := scTight.nd
    refine ⟨_, pss_cons (ps_set (i := 1) nd rfl (Or.inr rfl) (pe_callTy cr_range1 (by rfl) X.range (by decide +kernel) (pa_cons (pe_callB call_len_seq (by rfl) X.len PySem.boot_len (pa_cons (pv 0) pa_nil)) pa_nil)))
      (pss_cons (ps_if (pt_val (pe_callB (cr_any rfl) (by rfl) X.any (by decide +kernel) (pa_cons (pe_lc (own := [("i", 3)]) (g := gName 3) (tt := tYes) rfl nd (pi_rngN (pv 1)) (blkOk_by (N := nTight) (sc := defScope sTightRows) (by decide +kernel))
          (fun _ _ _ _ _ => pg_name (i := 3) nd rfl (Or.inl rfl)) (fun _ _ _ _ _ => pts_nil) (fun _ _ _ _ _ => pe_cmpR op_lt (pe_ix (r := rIxT K) ix_tup (pe_ix (r := rIxT K) ix_tup (pv 0) (pv 3) (fun _ _ => rfl)) (pv 3) (fun _ _ => rfl)) pe_int (nomark _))) pa_nil))) (pss_one (ps_ret pe_non)) pss_nil)
      (pss_cons (ps_set (i := 0) nd rfl (Or.inr rfl) (pe_callTy (r := rTupQ K) call_tuple_of (by rfl) X.tup (by decide +kernel) (pa_cons (pe_lc (own := [("i", 3)]) (g := gName 3) (tt := tYes) rfl nd (pi_rngN (pv 1)) (blkOk_by (N := nTight) (sc := defScope sTightRows) (by decide +kernel))
          (fun _ _ _ _ _ => pg_name (i := 3) nd rfl (Or.inr rfl)) (fun _ _ _ _ _ => pts_nil) (fun _ _ _ _ _ => pe_callTy (r := rTupQ K) call_tuple_of (by rfl) X.tup (by decide +kernel) (pa_cons (pe_lc (own := [("j", 4)]) (g := gName 4) (tt := tYes) rfl nd (pi_rngN (pv 1)) (blkOk_by (N := nTight) (by rfl))
            (fun _ _ _ _ _ => pg_name (i := 4) nd rfl (Or.inl rfl)) (fun _ _ _ _ _ => pts_nil) (fun _ _ _ _ _ => pe_ifExp (pt_cmpR op_eq (pv 3) (pv 4) (nomark _)) pe_int (pe_ix (r := rIxT K) ix_tup (pe_ix (r := rIxT K) ix_tup (pv 0) (pv 3) (fun _ _ => rfl)) (pv 4) (fun _ _ => rfl)))) pa_nil))) pa_nil)))
      (pss_cons (ps_for PassesOwn.never rfl (pi_rngN (pv 1)) (pg_name (i := 2) nd rfl (Or.inr rfl))
        (pss_one (ps_set (i := 0) nd rfl (Or.inr rfl) (pe_callTy (r := rTupQ K) call_tuple_of (by rfl) X.tup (by decide +kernel) (pa_cons (pe_lc (own := [("row", 5)]) (g := gName 5) (tt := tYes) rfl nd (pi_tup (pv 0)) (blkOk_by (N := nTight) (sc := defScope sTightRows) (by decide +kernel))
          (fun _ _ _ _ _ => pg_name (i := 5) nd rfl (Or.inr rfl)) (fun _ _ _ _ _ => pts_nil) (fun _ _ _ _ _ => pe_callTy (r := rTupQ K) call_tuple_of (by rfl) X.tup (by decide +kernel) (pa_cons (pe_lc (own := [("j", 4)]) (g := gName 4) (tt := tYes) rfl nd (pi_rngN (pv 1)) (blkOk_by (N := nTight) (by rfl))
            (fun _ _ _ _ _ => pg_name (i := 4) nd rfl (Or.inl rfl)) (fun _ _ _ _ _ => pts_nil) (fun _ _ _ _ _ => pe_callB (call_min2 rfl) (by rfl) X.min (by decide +kernel) (pa_cons (pe_ix (r := rIxT K) ix_tup (pv 5) (pv 4) (fun _ _ => rfl)) (pa_cons (pe_op op_add (pe_ix (r := rIxT K) ix_tup (pv 5) (pv 2) (fun _ _ => rfl)) (pe_ix (r := rIxT K) ix_tup (pe_ix (r := rIxT K) ix_tup (pv 0) (pv 2) (fun _ _ => rfl)) (pv 4) (fun _ _ => rfl))) pa_nil)))) pa_nil))) pa_nil)))))
      (pss_cons (ps_if (pt_val (pe_callB (cr_any rfl) (by rfl) X.any (by decide +kernel) (pa_cons (pe_lc (own := [("i", 3)]) (g := gName 3) (tt := tYes) rfl nd (pi_rngN (pv 1)) (blkOk_by (N := nTight) (sc := defScope sTightRows) (by decide +kernel))
          (fun _ _ _ _ _ => pg_name (i := 3) nd rfl (Or.inl rfl)) (fun _ _ _ _ _ => pts_nil) (fun _ _ _ _ _ => pe_cmpR op_lt (pe_ix (r := rIxT K) ix_tup (pe_ix (r := rIxT K) ix_tup (pv 0) (pv 3) (fun _ _ => rfl)) (pv 3) (fun _ _ => rfl)) pe_int (nomark _))) pa_nil))) (pss_one (ps_ret pe_non)) pss_nil)
      (pss_one (ps_ret (pv 0))))))), ?_⟩
    obtain ⟨rs, q, l, _⟩ := id mt
    refine ⟨_, rfl, a, rs, rfl, .inr (SqT.of q), _, rfl, fun p hp => ?_⟩
    rw [l]
    have s1 := same_new (o := .rng 0 (n : Int)) hp
    have hrng : (upd H p (.rng 0 (n : Int))) p = some (.rng 0 (n : Int)) := upd_same
    generalize hH1 : upd H p (.rng 0 (n : Int)) = H1 at s1 hrng
    refine ⟨_, rfl, p, n, rfl, hrng, by omega, fun D hD => ?_⟩
    refine lc_bs walk_rng (fun i => m i i < 0) hD (by omega) (fun _ _ => trivial) ?_ ?_
    · rintro i x H2 H' kT hi s2 ⟨rfl, rfl⟩ h
      obtain ⟨rs', b, q1, l1, at1, qb⟩ := (mt.mono (Kp.of (s1.trans s2))).at_ (K := K) hi
      exact ⟨rfl, _, rfl, _, rfl, a, rs', _, _, rfl, rfl, SqT.of q1, at1, _, rfl, b, _, _, _, rfl, rfl, SqT.of qb, rowV_at hi, _, _, rfl, rfl, h _ _ (Same.refl _) decide_eq_true_iff⟩
    · rintro H2 bs s2 hD2 - hany
      refine ⟨D, bs, rfl, SqL.of hD2, _, rfl, ?_⟩
      have s12 := s1.trans s2
      cases hb : bs.any id with
      | true =>
        refine iteT (no _ s12 ?_)
        exact fw_none (.inl (hany.mp hb))
      | false =>
        have d0 : ∀ i, i < n → 0 ≤ m i i := fun i hi => Int.not_lt.mp fun z => by
          have := hany.mpr ⟨i, hi, z⟩
          rw [hb] at this
          cases this
        refine iteF ?_
        refine ⟨_, rfl, p, n, rfl, s2 _ _ hrng, by omega, fun D2 hD2 => ?_⟩
        refine lc_keep walk_rng (fun i H y => RowAt H y n (clr m i)) (fun i H H' y k r => r.mono k) hD2 (by omega) (fun _ _ => trivial) ?_ ?_
        · rintro i x H3 H' kT hi s3 ⟨rfl, rfl⟩ h
          refine ⟨rfl, _, rfl, p, n, rfl, s3 _ _ (s2 _ _ hrng), by omega, fun D3 hD3 => ?_⟩
          refine lc_ints walk_rng (clr m i) hD3 (by omega) (fun _ _ => trivial) ?_ ?_
          · rintro j x H4 H' kT2 hj s4 ⟨rfl, rfl⟩ h2
            refine ⟨rfl, _, rfl, _, rfl, rfl, _, rfl, ?_⟩
            refine ite2 (fun c => ?_) (fun c => ?_)
            · have e : i = j := by
                have := of_decide_eq_true c
                injection this with z
                omega
              have z := h2 _ (Same.refl _)
              unfold clr at z
              rw [if_pos e] at z
              exact z
            · have e : i ≠ j := fun z => c (by rw [z]; exact decide_eq_true rfl)
              obtain ⟨rs', b, q1, l1, at1, qb⟩ := (mt.mono (Kp.of (s12.trans (s3.trans s4)))).at_ (K := K) hi
              have z := h2 _ (Same.refl _)
              unfold clr at z
              rw [if_neg e] at z
              exact ⟨_, rfl, _, rfl, a, rs', _, _, rfl, rfl, SqT.of q1, at1, _, rfl, b, _, _, _, rfl, rfl, SqT.of qb, rowV_at hj, z⟩
          · intro H4 s4 hD4
            exact ⟨D3, _, rfl, .inl ⟨SqL.of hD4, fun l hl => h _ _ (s4.trans (same_new hl)) ⟨l, rfl, upd_same⟩⟩⟩
        · intro H3 ys s3 d ly r
          refine ⟨D2, ys, rfl, .inl ⟨SqL.of d, fun c hc => ?_⟩⟩
          have mt0 : MatT (upd H3 c (.tup ys)) c n (fw m 0) := mat_new hc ly r
          have s4 : Same H (upd H3 c (.tup ys)) := s12.trans (s3.trans (same_new hc))
          have hr4 : (upd H3 c (.tup ys)) p = some (.rng 0 (n : Int)) := same_new hc _ _ (s3 _ _ (s2 _ _ hrng))
          generalize upd H3 c (.tup ys) = H4 at mt0 s4 hr4
          refine ⟨_, rfl, p, n, rfl, hr4, by omega, ?_⟩
          refine for_it walk_rng (fun k σ H' => ∃ (a' : Addr) (kv : Option V), σ = [some (.ref a'), some (.ref p), kv, none, none, none] ∧ Same H4 H' ∧ MatT H' a' n (fw m k)) ⟨c, none, rfl, Same.refl _, mt0⟩ (fun _ _ _ _ _ => trivial) ?_ ?_
          · rintro k x σ H5 H' hk ⟨a', kv, rfl, s5, mk⟩ ⟨rfl, rfl⟩
            obtain ⟨rk, qk, lk, rrk⟩ := id mk
            refine ⟨_, rfl, a', rfl, ⟨_, SqT.of qk⟩, fun D5 hD5 => ?_⟩
            subst lk
            refine lc_keep (walk_tup (K := K) (a := a') (xs := rk)) (fun i H y => RowAt H y rk.length (stp (fw m k) k i)) (fun i H H' y k r => r.mono k) hD5 (by omega) (fun H6 s6 => SqT.of (s6 _ _ qk)) ?_ ?_
            · rintro i x H6 H' kT hi s6 ⟨rfl, hx⟩ h
              obtain ⟨b, rfl, qb⟩ := rrk i x hx
              refine ⟨rfl, _, rfl, p, rk.length, rfl, s6 _ _ (s5 _ _ hr4), by omega, fun D6 hD6 => ?_⟩
              refine lc_ints walk_rng (stp (fw m k) k i) hD6 (by omega) (fun _ _ => trivial) ?_ ?_
              · rintro j x H7 H' kT2 hj s7 ⟨rfl, rfl⟩ h2
                have qb7 := (s6.trans s7) _ _ qb
                obtain ⟨rs', b', q1, l1, at1, qb'⟩ := (mk.mono (Kp.of (s6.trans s7))).at_ (K := K) hk
                refine ⟨rfl, _, rfl, _, rfl, b, _, _, _, rfl, rfl, SqT.of qb7, rowV_at hj, ?_⟩
                refine ⟨_, rfl, _, rfl, b, _, _, _, rfl, rfl, SqT.of qb7, rowV_at hk, ?_⟩
                refine ⟨_, rfl, _, rfl, a', rs', _, _, rfl, rfl, SqT.of q1, at1, _, rfl, b', _, _, _, rfl, rfl, SqT.of qb', rowV_at hj, ?_⟩
                refine ⟨_, _, rfl, rfl, _, _, rfl, ?_⟩
                have z := h2 _ (Same.refl _)
                have e : stp (fw m k) k i j = if fw m k i k + fw m k k j < fw m k i j then fw m k i k + fw m k k j else fw m k i j := by
                  unfold stp
                  split <;> omega
                rw [e] at z
                exact z
              · intro H7 s7 hD7
                exact ⟨D6, _, rfl, .inl ⟨SqL.of hD7, fun l hl => h _ _ (s7.trans (same_new hl)) ⟨l, rfl, upd_same⟩⟩⟩
            · intro H6 ys6 s6 d6 l6 r6
              refine ⟨D5, ys6, rfl, .inl ⟨SqL.of d6, fun c6 hc6 => ?_⟩⟩
              exact ⟨c6, _, rfl, s5.trans (s6.trans (same_new hc6)), mat_new hc6 l6 r6⟩
          · rintro σ H5 ⟨a', kv, rfl, s5, mn⟩
            refine ⟨_, rfl, p, n, rfl, s5 _ _ hr4, by omega, fun D5 hD5 => ?_⟩
            refine lc_bs walk_rng (fun i => fw m n i i < 0) hD5 (by omega) (fun _ _ => trivial) ?_ ?_
            · rintro i x H6 H' kT hi s6 ⟨rfl, rfl⟩ h
              obtain ⟨rs', b, q1, l1, at1, qb⟩ := (mn.mono (Kp.of s6)).at_ (K := K) hi
              exact ⟨rfl, _, rfl, _, rfl, a', rs', _, _, rfl, rfl, SqT.of q1, at1, _, rfl, b, _, _, _, rfl, rfl, SqT.of qb, rowV_at hi, _, _, rfl, rfl, h _ _ (Same.refl _) decide_eq_true_iff⟩
            · rintro H6 bs6 s6 hD6 - hany6
              refine ⟨D5, bs6, rfl, SqL.of hD6, _, rfl, ?_⟩
              have sA := s4.trans (s5.trans s6)
              cases hb6 : bs6.any id with
              | true => exact iteT (no _ sA (fw_none (.inr (hany6.mp hb6))))
              | false =>
                have dn : ∀ i, i < n → 0 ≤ fw m n i i := fun i hi => Int.not_lt.mp fun z => by
                  have := hany6.mpr ⟨i, hi, z⟩
                  rw [hb6] at this
                  cases this
                exact iteF ⟨_, rfl, yes _ a' _ sA (fw_tight d0 dn) (mn.mono (Kp.of s6))⟩
end
end Bd

set_option Elab.async false
set_option linter.all false
set_option maxRecDepth 100000
set_option maxHeartbeats 4000000
/-! rows of zeros; the rows of both -/
namespace Bd
open PySem PySem.Spec PyProof.Rows L2 Wd Br
def zeroM : Mx := fun _ _ => 0
theorem rep_one (x : V) : ∀ k : Nat, (List.replicate k [x]).flatten = List.replicate k x
  | 0 => rfl
  | k + 1 => by rw [List.replicate_succ, List.replicate_succ, List.flatten_cons, rep_one x k]; rfl
theorem rowV_zero (n : Nat) : List.replicate n (V.int 0) = rowV n (fun _ => 0) := by
  apply List.ext_getElem?
  intro i
  by_cases hi : i < n
  · rw [rowV_get hi, List.getElem?_replicate, if_pos hi]
  · rw [List.getElem?_eq_none (by simp; omega), List.getElem?_eq_none (by rw [rowV_len]; omega)]
theorem rows_rep {H : Hp} {l b n : Nat} (hl : H l = none) (hb : H b = some (.tup (rowV n (fun _ => 0)))) : MatT (upd H l (.tup (List.replicate n (.ref b)))) l n zeroM := by
  refine mat_new hl (by simp) fun i y e => ?_
  rw [List.getElem?_replicate] at e
  split at e
  · cases e
    exact ⟨b, rfl, hb⟩
  · cases e
theorem rows_one {H : Hp} {l b : Nat} (hl : H l = some (.tup [.ref b])) (hb : H b = some (.tup (rowV 1 (fun _ => 0)))) : MatT H l 1 zeroM := by
  refine ⟨_, hl, rfl, fun i x e => ?_⟩
  cases i with
  | zero =>
    simp at e
    subst e
    exact ⟨b, rfl, hb⟩
  | succ i => simp at e
/-- (0,) * n and (t,) * n as readings -/
theorem rep_reads {K : PySem.W.Frag} {H : Hp} {t n : Nat} {x : V} {Q : VK} (ht : H t = some (.tup [x])) (h1 : 1 ≤ n) (h2 : n ≤ 14) (q : ∀ b H', Same H H' → H' b = some (.tup (List.replicate n x)) → Q (.ref b) H') : rRepN K (.ref t) (.int (n : Int)) H Q := by
  refine ⟨t, _, [x], rfl, rfl, SqT.of ht, by simp, by omega, by omega, by simp, fun e => ?_, fun p hp => ?_⟩
  · obtain rfl : n = 1 := by omega
    exact q t H (Same.refl _) ht
  · refine q p _ (same_new hp) ?_
    rw [upd_same, rep_one]
    rfl
def spZeroR (K : PySem.W.Frag) : Sp := fun vs H Q _ => ∃ many : Nat, vs = [.int (many : Int)] ∧ many ≤ 12 ∧ ∀ a H', Same H H' → MatT H' a (many + 1) zeroM → Q (.ref a) H'
def spBoth (K : PySem.W.Frag) : Sp := fun vs H Q _ => ∃ (a b : Addr) (n : Nat) (m t : Mx), vs = [.ref a, .ref b] ∧ MatT H a n m ∧ MatT H b n t ∧ 1 ≤ n ∧ n ≤ 13 ∧
  (∀ u a' H', Same H H' → Tight n (mn2 m t) u → MatT H' a' n u → Q (.ref a') H') ∧ (∀ H', Same H H' → ¬ Feas n (mn2 m t) → Q .non H')
section
variable {P : Program} {w : World} {K : PySem.W.Frag} {mg : Str → Option Value} {base : Heap} {fI fA fT : Addr}
theorem scZeroR : FnScope ["many"] ["many"] (defScope sZeroRows) := ⟨rfl, rfl, rfl, by decide +kernel, rfl, by decide +kernel, by decide +kernel⟩
theorem ok_zeroR {f : Addr} {fd : FuncData} (F : Fun K "zero_rows" "zero_rows" sZeroRows f fd) : FnOk P w K mg base CX0 1 f fd ["many"] (spZeroR K) := by
  refine F.ok scZeroR (fun vs H Q E h => ?_) (fun cdv A outer s H vs Q E hr h => ?_)
  · obtain ⟨many, rfl, _⟩ := h
    rfl
  · obtain ⟨many, rfl, hm, q⟩ := h
    refine ⟨_, pss_one (ps_ret (pe_op (r := rRepN K) op_repN (pe_tup (pa_cons (pe_op (r := rRepN K) op_repN (pe_tup (pa_cons pe_int pa_nil)) (pe_op op_add (pv 0) pe_int)) pa_nil)) (pe_op op_add (pv 0) pe_int))), ?_⟩
    refine ⟨(by show 1 ≤ sizeLine; decide), fun t ht => ⟨_, rfl, _, _, rfl, rfl, ?_⟩⟩
    refine rep_reads (n := many + 1) (x := .int 0) upd_same (by omega) (by omega) fun b H1 s1 hb => ?_
    rw [rowV_zero] at hb
    refine ⟨(by show 1 ≤ sizeLine; decide), fun u hu => ⟨_, rfl, _, _, rfl, rfl, ?_⟩⟩
    have s2 : Same H H1 := (same_new ht).trans s1
    refine ⟨u, _, [.ref b], rfl, rfl, SqT.of upd_same, by simp, by omega, by omega, by simp, fun e => ?_, fun p hp => ?_⟩
    · obtain rfl : many = 0 := by omega
      exact q u _ (s2.trans (same_new hu)) (rows_one upd_same (same_new hu _ _ hb))
    · rw [rep_one]
      exact q p _ (s2.trans ((same_new hu).trans (same_new hp))) (rows_rep hp (same_new hu _ _ hb))
abbrev nBoth : List Str := ["rows", "others", "places", "i", "j"]
theorem scBoth : FnScope nBoth ["rows", "others"] (defScope sBothRows) := ⟨rfl, rfl, rfl, by decide +kernel, rfl, by decide +kernel, by decide +kernel⟩
theorem ok_both {f : Addr} {fd fdT : FuncData} (F : Fun K "both_rows" "both_rows" sBothRows f fd) (X : BTxt mg fI) (GT : At_ P w K mg base CX0 1 "tight_rows" fT fdT ["rows"] (spTight K)) : FnOk P w K mg base CX0 2 f fd ["rows", "others"] (spBoth K) := by
  refine F.ok scBoth (fun vs H Q E h => ?_) (fun cdv A outer s H vs Q E hr h => ?_)
  · obtain ⟨a, b, n, m, t, rfl, _⟩ := h
    rfl
  · obtain ⟨a, b, n, m, t, rfl, ma, mb, n1, n13, yes, no⟩ := h
    have nd := scBoth.nd
    refine ⟨_, pss_cons (ps_set (i := 2) nd rfl (Or.inr rfl) (pe_callTy cr_range1 (by rfl) X.range (by decide +kernel) (pa_cons (pe_callB call_len_seq (by rfl) X.len PySem.boot_len (pa_cons (pv 0) pa_nil)) pa_nil)))
      (pss_one (ps_ret (pe_call GT.g hr rfl GT.m GT.kp GT.b .nil pass0 (pa_cons (pe_callTy (r := rTupQ K) call_tuple_of (by rfl) X.tup (by decide +kernel) (pa_cons (pe_lc (own := [("i", 3)]) (g := gName 3) (tt := tYes) rfl nd (pi_rngN (pv 2)) (blkOk_by (N := nBoth) (sc := defScope sBothRows) (by decide +kernel))
          (fun _ _ _ _ _ => pg_name (i := 3) nd rfl (Or.inr rfl)) (fun _ _ _ _ _ => pts_nil) (fun _ _ _ _ _ => pe_callTy (r := rTupQ K) call_tuple_of (by rfl) X.tup (by decide +kernel) (pa_cons (pe_lc (own := [("j", 4)]) (g := gName 4) (tt := tYes) rfl nd (pi_rngN (pv 2)) (blkOk_by (N := nBoth) (by rfl))
            (fun _ _ _ _ _ => pg_name (i := 4) nd rfl (Or.inl rfl)) (fun _ _ _ _ _ => pts_nil) (fun _ _ _ _ _ => pe_callB (call_min2 rfl) (by rfl) X.min (by decide +kernel) (pa_cons (pe_ix (r := rIxT K) ix_tup (pe_ix (r := rIxT K) ix_tup (pv 0) (pv 3) (fun _ _ => rfl)) (pv 4) (fun _ _ => rfl))
              (pa_cons (pe_ix (r := rIxT K) ix_tup (pe_ix (r := rIxT K) ix_tup (pv 1) (pv 3) (fun _ _ => rfl)) (pv 4) (fun _ _ => rfl)) pa_nil)))) pa_nil))) pa_nil)) pa_nil)))), ?_⟩
    obtain ⟨rs, q, l, _⟩ := id ma
    refine ⟨_, rfl, a, rs, rfl, .inr (SqT.of q), _, rfl, fun p hp => ?_⟩
    rw [l]
    have s1 := same_new (o := .rng 0 (n : Int)) hp
    have hrng : (upd H p (.rng 0 (n : Int))) p = some (.rng 0 (n : Int)) := upd_same
    generalize hH1 : upd H p (.rng 0 (n : Int)) = H1 at s1 hrng
    refine ⟨_, rfl, p, n, rfl, hrng, by omega, fun D2 hD2 => ?_⟩
    refine lc_keep walk_rng (fun i H y => RowAt H y n (mn2 m t i)) (fun i H H' y k r => r.mono k) hD2 (by omega) (fun _ _ => trivial) ?_ ?_
    · rintro i x H3 H' kT hi s3 ⟨rfl, rfl⟩ h
      refine ⟨rfl, _, rfl, p, n, rfl, s3 _ _ hrng, by omega, fun D3 hD3 => ?_⟩
      refine lc_ints walk_rng (mn2 m t i) hD3 (by omega) (fun _ _ => trivial) ?_ ?_
      · rintro j x H4 H' kT2 hj s4 ⟨rfl, rfl⟩ h2
        have kp := Kp.of (s1.trans (s3.trans s4))
        obtain ⟨ra, ba, q1, l1, at1, qb1⟩ := (ma.mono kp).at_ (K := K) hi
        obtain ⟨rb, bb, q2, l2, at2, qb2⟩ := (mb.mono kp).at_ (K := K) hi
        refine ⟨rfl, _, rfl, _, rfl, a, ra, _, _, rfl, rfl, SqT.of q1, at1, _, rfl, ba, _, _, _, rfl, rfl, SqT.of qb1, rowV_at hj, ?_⟩
        refine ⟨_, rfl, _, rfl, b, rb, _, _, rfl, rfl, SqT.of q2, at2, _, rfl, bb, _, _, _, rfl, rfl, SqT.of qb2, rowV_at hj, ?_⟩
        have z := h2 _ (Same.refl _)
        have e : mn2 m t i j = if t i j < m i j then t i j else m i j := by
          unfold mn2
          split <;> omega
        rw [e] at z
        exact ⟨_, _, rfl, z⟩
      · intro H4 s4 hD4
        exact ⟨D3, _, rfl, .inl ⟨SqL.of hD4, fun l hl => h _ _ (s4.trans (same_new hl)) ⟨l, rfl, upd_same⟩⟩⟩
    · intro H3 ys s3 d ly r
      refine ⟨D2, ys, rfl, .inl ⟨SqL.of d, fun c hc => ?_⟩⟩
      have s4 : Same H (upd H3 c (.tup ys)) := s1.trans (s3.trans (same_new hc))
      exact ⟨c, n, _, rfl, mat_new hc ly r, n1, n13, fun u a' H' s5 tu mu => yes u a' H' (s4.trans s5) tu mu, fun H' s5 nf => no H' (s4.trans s5) nf⟩
end
end Bd

set_option Elab.async false
set_option linter.all false
set_option maxRecDepth 100000
set_option maxHeartbeats 4000000
/-! the class Bounds -/
namespace Bd
open PySem PySem.Spec PyProof.Rows L2 Wd Br
/-! ### matrices as data -/
def rowD (n : Nat) (f : Nat → Int) : PyData := .tuple ((List.range n).map fun j => .int (f j))
def matD (n : Nat) (m : Mx) : PyData := .tuple ((List.range n).map fun i => rowD n (m i))
theorem lay_ints (f : Nat → Int) : ∀ l : List Nat, PyData.canLayAll0 (l.map fun j => .int (f j)) = true ∧ PyData.depthAll (l.map fun j => .int (f j)) = 0
  | [] => ⟨rfl, rfl⟩
  | j :: l => by
    obtain ⟨h1, h2⟩ := lay_ints f l
    refine ⟨?_, ?_⟩
    · show (true && PyData.canLayAll0 (l.map fun j => .int (f j))) = true
      rw [h1]
      rfl
    · show max 0 (PyData.depthAll (l.map fun j => .int (f j))) = 0
      rw [h2]
      rfl
theorem lay_rows (n : Nat) (m : Mx) : ∀ l : List Nat, PyData.canLayAll0 (l.map fun i => rowD n (m i)) = true ∧ PyData.depthAll (l.map fun i => rowD n (m i)) ≤ 1
  | [] => ⟨rfl, by show 0 ≤ 1; decide⟩
  | i :: l => by
    obtain ⟨h1, h2⟩ := lay_rows n m l
    obtain ⟨h3, h4⟩ := lay_ints (m i) (List.range n)
    refine ⟨?_, ?_⟩
    · show (PyData.canLayAll0 ((List.range n).map fun j => .int (m i j)) && PyData.canLayAll0 (l.map fun i => rowD n (m i))) = true
      rw [h1, h3]
      rfl
    · show max (PyData.depthAll ((List.range n).map fun j => .int (m i j)) + 1) (PyData.depthAll (l.map fun i => rowD n (m i))) ≤ 1
      rw [h4]
      omega
theorem shaped_mat (n : Nat) (m : Mx) : SeqAt.shaped (matD n m) = true := by
  obtain ⟨h1, h2⟩ := lay_rows n m (List.range n)
  unfold SeqAt.shaped
  rw [Bool.and_eq_true]
  exact ⟨h1, decide_eq_true (by show PyData.depthAll _ + 1 ≤ 64; omega)⟩
theorem dp_ints {K : PySem.W.Frag} {H : Hp} (f : Nat → Int) : ∀ l : List Nat, DpAll K H (l.map fun j => V.int (f j)) (l.map fun j => PyData.int (f j))
  | [] => .nil
  | j :: l => .cons (.int _) (dp_ints f l)
theorem dp_rows {K : PySem.W.Frag} {H : Hp} {n : Nat} {m : Mx} : ∀ (l : List V) (k : Nat), (∀ (i : Nat) x, l[i]? = some x → RowAt H x n (m (k + i))) → DpAll K H l ((List.range' k l.length).map fun i => rowD n (m i))
  | [], k, _ => .nil
  | x :: l, k, h => by
    obtain ⟨b, rfl, q⟩ := h 0 x rfl
    exact .cons (.tup (SqT.of q) (dp_ints _ _)) (dp_rows l (k + 1) fun i y e => by
      have := h (i + 1) y (by simpa using e)
      rwa [show k + (i + 1) = k + 1 + i by omega] at this)
theorem MatT.dp {K : PySem.W.Frag} {H : Hp} {a : Addr} {n : Nat} {m : Mx} (h : MatT H a n m) : Dp K H (.ref a) (matD n m) := by
  obtain ⟨rs, q, l, r⟩ := h
  have := dp_rows (K := K) (m := m) rs 0 fun i x e => by
    rw [Nat.zero_add]
    exact r i x e
  rw [l, ← List.range_eq_range'] at this
  exact .tup (SqT.of q) this
theorem eqv_ints {f g : Nat → Int} : ∀ {l k : List Nat}, PyData.eqvAll (l.map fun j => .int (f j)) (k.map fun j => .int (g j)) = true ↔ l.map f = k.map g
  | [], [] => ⟨fun _ => rfl, fun _ => rfl⟩
  | [], j :: k => ⟨fun h => (nomatch h), fun h => (nomatch h)⟩
  | i :: l, [] => ⟨fun h => (nomatch h), fun h => (nomatch h)⟩
  | i :: l, j :: k => by
    show ((f i == g j) && PyData.eqvAll (l.map fun j => .int (f j)) (k.map fun j => .int (g j))) = true ↔ _
    rw [Bool.and_eq_true, beq_iff_eq, eqv_ints, List.map_cons, List.map_cons, List.cons.injEq]
theorem eqv_rows {n k : Nat} {m t : Mx} : ∀ {l r : List Nat}, PyData.eqvAll (l.map fun i => rowD n (m i)) (r.map fun i => rowD k (t i)) = true ↔ (l.map fun i => (List.range n).map (m i)) = (r.map fun i => (List.range k).map (t i))
  | [], [] => ⟨fun _ => rfl, fun _ => rfl⟩
  | [], j :: r => ⟨fun h => (nomatch h), fun h => (nomatch h)⟩
  | i :: l, [] => ⟨fun h => (nomatch h), fun h => (nomatch h)⟩
  | i :: l, j :: r => by
    show (PyData.eqvAll ((List.range n).map fun j => .int (m i j)) ((List.range k).map fun q => .int (t j q)) && PyData.eqvAll (l.map fun i => rowD n (m i)) (r.map fun i => rowD k (t i))) = true ↔ _
    rw [Bool.and_eq_true, eqv_ints, eqv_rows, List.map_cons, List.map_cons, List.cons.injEq]
theorem eqv_mat {n k : Nat} {m t : Mx} : PyData.eqv (matD n m) (matD k t) = true ↔ n = k ∧ EqM n m t := by
  show PyData.eqvAll ((List.range n).map fun i => rowD n (m i)) ((List.range k).map fun i => rowD k (t i)) = true ↔ _
  rw [eqv_rows]
  constructor
  · intro h
    have l := congrArg List.length h
    simp at l
    subst l
    refine ⟨rfl, fun i j hi hj => ?_⟩
    have h1 := congrArg (fun l => l[i]?) h
    simp [hi] at h1
    exact h1 j hj
  · rintro ⟨rfl, h⟩
    refine List.map_congr_left fun i hi => List.map_congr_left fun j hj => h i j (List.mem_range.mp hi) (List.mem_range.mp hj)
theorem MatT.dat {H : Hp} {a : Addr} {n : Nat} {m : Mx} (h : MatT H a n m) (hn : n ≤ 13) : Dat noT [] H 20 3 (.ref a) := by
  obtain ⟨rs, q, l, r⟩ := h
  refine .tup (by simp) q (by omega) fun x hx => ?_
  obtain ⟨i, hi⟩ := List.getElem?_of_mem hx
  obtain ⟨b, rfl, qb⟩ := r i x hi
  refine .tup (by simp) qb (by rw [rowV_len]; omega) fun y hy => ?_
  obtain ⟨j, _, rfl⟩ := rowV_mem hy
  exact .int _
/-! ### the class -/
def bf (t : Addr) : List (Str × V) := putF "_rows" (.ref t) []
theorem bf_rows (t : Addr) : (bf t).lookup ("_rows" : Str) = some (.ref t) := by
  unfold bf
  rw [lookup_putF, if_pos rfl]
def BdAt (C : Addr) (H : Hp) (p : Addr) (n : Nat) (t : Mx) : Prop := ∃ dx a, H p = some (.ins C dx (bf a)) ∧ MatT H a n t
theorem BdAt.mono {C p : Addr} {H H' : Hp} {n : Nat} {t : Mx} (k : Kp H H') (h : BdAt C H p n t) : BdAt C H' p n t := let ⟨dx, a, h1, h2⟩ := h; ⟨dx, a, k.2 _ _ _ _ h1, h2.mono k⟩
structure CTxt (K : PySem.W.Frag) (mg : Str → Option Value) (C fI fE : Addr) : Prop where
  cl : Cls K C
  nR : NoAttr K C "_rows"
  mak : Mk K C fI
  mgC : mg "Bounds" = some (.ref C)
  eq : EqOwn K C fE
  ca : PySem.W.findIn K (.ref C) "__class__" = some (some (.builtin "object.__class__"))
  cg : PySem.W.specialIn K (.builtin "object.__class__") "__get__" = some (some (.builtin "getset_descriptor.__get__"))
  ct : PySem.W.takesIn K (.builtin "object.__class__") = some true
  kC : PySem.W.kitOne K (.ref C) (.ref C) = some true
  kN : PySem.W.kitOne K (.type "NoneType") (.ref C) = some false
  kT : PySem.W.kitOne K (.type "tuple") (.ref C) = some false
  nf : PySem.W.notFirst K C (.ref C) = true
  nfN : PySem.W.notFirst K C (.type "NoneType") = true
  nfT : PySem.W.notFirst K C (.type "tuple") = true
theorem CTxt.ty {K : PySem.W.Frag} {mg : Str → Option Value} {C fI fE : Addr} (Y : CTxt K mg C fI fE) {H : Hp} {a dx : Addr} {fs : List (Str × V)} (e : H a = some (.ins C dx fs)) : TyX K H (.ref a) (.ref C) :=
  .base (.ins e Y.cl Y.ca Y.cg Y.ct Y.eq.ob)
/-- an own error without an __init__ of its own -/
structure ErrT (K : PySem.W.Frag) (mg : Str → Option Value) (x : Str) (C : Addr) : Prop where
  g : mg x = some (.ref C)
  x : PySem.W.excIn K C [.type "ValueError", .type "Exception", .type "BaseException", .type "object"] "ValueError.__new__" = true
  k : PySem.W.keepIn K (.ref C) = true
  b : PySem.W.subIn K (.ref C) (.type "BaseException") = some true
  t : PySem.W.typeIn K (.ref C) = some (.type "type")
/-- the rows are those of bounds -/
def Fine (H : Hp) (v : V) : Prop := ∃ (a : Addr) (k : Nat) (M : Mx), v = .ref a ∧ MatT H a k M ∧ 1 ≤ k ∧ k ≤ 13 ∧ InB k M ∧ Feas k M
def spInitB (K : PySem.W.Frag) (C CIB : Addr) : Sp := fun vs H Q E => ∃ (p dx : Addr) (v : V) (m n : Nat), vs = [.ref p, v] ∧ H p = some (.ins C dx []) ∧ m ≤ 1000 ∧ Dat noT [] H m n v ∧
  (∀ (a : Addr) (k : Nat) (M t : Mx) (a' : Addr) H', v = .ref a → MatT H a k M → 1 ≤ k → k ≤ 13 → InB k M → Tight k M t → (∀ b o, b ≠ p → H b = some o → H' b = some o) → H' p = some (.ins C dx (bf a')) → MatT H' a' k t → Q .non H') ∧
  (∀ H', Same H H' → ¬ Fine H v → E (.ref CIB) none H')
theorem MatT.at_ins {H : Hp} {a p C dx : Addr} {n : Nat} {m : Mx} {fs : List (Str × V)} {o : HO} (h : MatT H a n m) (hp : H p = some (.ins C dx fs)) : MatT (upd H p o) a n m := by
  have ne : ∀ {b : Addr} {xs : List V}, H b = some (.tup xs) → b ≠ p := fun e q => by
    rw [q, hp] at e
    cases e
  obtain ⟨rs, q, l, r⟩ := h
  refine ⟨rs, by rw [upd_ne (ne q)]; exact q, l, fun i x e => ?_⟩
  obtain ⟨b, rfl, qb⟩ := r i x e
  exact ⟨b, rfl, by rw [upd_ne (ne qb)]; exact qb⟩
section
variable {P : Program} {w : World} {K : PySem.W.Frag} {mg : Str → Option Value} {base : Heap} {fI fR fT C CIB f1 f2 : Addr}
theorem scInitB : FnScope ["self", "rows", "tight"] ["self", "rows"] (defScope cBounds_init) := ⟨rfl, rfl, rfl, by decide +kernel, rfl, by decide +kernel, by decide +kernel⟩
theorem ok_initB {f : Addr} {fd fdR fdT : FuncData} (F : Fun K "__init__" "Bounds.__init__" cBounds_init f fd) (Y : CTxt K mg C f1 f2) (T : ErrT K mg "InvalidBounds" CIB) (GR : At_ P w K mg base CX0 3 "is_rows" fR fdR ["value"] (spIsRows K))
    (GT : At_ P w K mg base CX0 1 "tight_rows" fT fdT ["rows"] (spTight K)) : FnOk P w K mg base (L2.CX P w) 4 f fd ["self", "rows"] (spInitB K C CIB) := by
  refine F.okX scInitB (fun vs H Q E h => ?_) (fun cdv A outer s H vs Q E hr h => ?_)
  · obtain ⟨p, dx, v, m, n, rfl, _⟩ := h
    rfl
  · obtain ⟨p, dx, v, m, n, rfl, hp, hm, d, yes, no⟩ := h
    refine ⟨_, pss_cons (ps_set (i := 2) scInitB.nd rfl (Or.inl rfl) (pe_ifExp (pt_val (pe_call GR.g hr rfl GR.m GR.kp GR.b .nil pass0 (pa_cons (pv 1) pa_nil))) (pe_call GT.g (hr.mono (by decide)) rfl GT.m GT.kp GT.b .nil pass0 (pa_cons (pv 1) pa_nil)) pe_non))
      (pss_cons (ps_if (pt_cmp (pc_isN (pv 2)) rfl) (pss_one (ps_raise rfl (takes_of rfl rfl rfl rfl) (pmk_own PySem.F.excBase_ValueError T.x T.g T.k (raises_own T.b T.t) rfl))) pss_nil)
      (pss_one (ps_fld (pv 0) (pv 2) rfl))), ?_⟩
    refine ⟨_, rfl, v, m, n, rfl, hm, d, fun H1 b s1 hb => ⟨b, rfl, ?_⟩⟩
    cases b with
    | false =>
      refine iteF ⟨_, rfl, _, rfl, iteT (no H1 s1 fun ⟨a, k, M, e, mt, k1, k2, ib, _⟩ => ?_)⟩
      subst e
      exact Bool.noConfusion (hb.mpr (isRows_of mt k1 k2 ib))
    | true =>
      obtain ⟨a, k, M, rfl, mt, k1, k2, ib⟩ := isRows_mat (hb.mp rfl)
      refine iteT ⟨_, rfl, a, k, M, rfl, mt.mono (Kp.of s1), k1, k2, fun t a' H2 s2 tt mt' => ?_, fun H2 s2 nf => ?_⟩
      · have s12 := s1.trans s2
        refine ⟨_, rfl, _, rfl, iteF ⟨_, rfl, _, rfl, p, C, dx, _, rfl, s12 _ _ hp, Y.cl, Y.nR, (by show 0 < 1000; decide), ?_⟩⟩
        refine yes a k M t a' _ rfl mt k1 k2 ib tt (fun b o nb e => ?_) upd_same (mt'.at_ins (s12 _ _ hp))
        rw [upd_ne nb]
        exact s12 _ _ e
      · refine ⟨_, rfl, _, rfl, iteT (no _ (s1.trans s2) fun ⟨a', k', M', e, mt', _, _, _, fe⟩ => ?_)⟩
        cases e
        obtain ⟨rfl, eq⟩ := mt.uniq mt'
        obtain ⟨p', hp'⟩ := fe
        exact nf ⟨p', (pot_eq eq).mpr hp'⟩
/-- Bounds(v), read -/
theorem newB_reads {H : Hp} {x dx : Addr} {v : V} {m n : Nat} {Q : VK} {E : XK} (hx : H x = none) (hd : H dx = none) (ne : dx ≠ x) (hm : m ≤ 1000) (d : Dat noT [] H m n v)
    (yes : ∀ (a : Addr) (k : Nat) (M t : Mx) (b : Addr) H', v = .ref a → MatT H a k M → 1 ≤ k → k ≤ 13 → InB k M → Tight k M t → Same H H' → BdAt C H' b k t → Q (.ref b) H')
    (no : ∀ H', Same H H' → ¬ Fine H v → E (.ref CIB) none H') : spInitB K C CIB [.ref x, v] (upd (upd H dx (.own x)) x (.ins C dx [])) (fun v H3 => v = .non ∧ Q (.ref x) H3) E := by
  have s0 : Same H (upd (upd H dx (.own x)) x (.ins C dx [])) := (same_new hd).trans (same_new (by rw [upd_ne ne.symm]; exact hx))
  have back : ∀ {a : Addr} {k : Nat} {M : Mx}, v = .ref a → MatT (upd (upd H dx (.own x)) x (.ins C dx [])) a k M → MatT H a k M := fun {a k M} e h => by
    subst e
    have bk : ∀ {c : Addr} {xs : List V}, (∃ o, H c = some o) → (upd (upd H dx (.own x)) x (.ins C dx [])) c = some (.tup xs) → H c = some (.tup xs) := fun {c xs} ⟨o, ho⟩ e => by
      rw [s0 _ _ ho] at e
      rw [ho, e]
    have hq := h
    obtain ⟨rs, q, l, r⟩ := h
    cases d with
    | own t => exact t.elim
    | tup nn e0 l0 p0 =>
      have q0 := bk ⟨_, e0⟩ q
      refine ⟨rs, q0, l, fun i y ei => ?_⟩
      obtain ⟨b, rfl, qb⟩ := r i y ei
      rw [e0] at q0
      cases q0
      have dy := p0 _ (List.mem_of_getElem? ei)
      have there : ∃ o, H b = some o := by
        cases dy with
        | own t => exact t.elim
        | tup _ e1 _ _ => exact ⟨_, e1⟩
        | lst _ e1 _ _ => exact ⟨_, e1⟩
        | dic _ e1 _ _ _ _ => exact ⟨_, e1⟩
      exact ⟨b, rfl, bk there qb⟩
    | lst nn e0 l0 p0 =>
      have q0 := bk ⟨_, e0⟩ q
      rw [e0] at q0
      cases q0
    | dic nn e0 l0 _ _ p0 =>
      have q0 := bk ⟨_, e0⟩ q
      rw [e0] at q0
      cases q0
  refine ⟨x, dx, v, m, n, rfl, upd_same, hm, d.mono (K := K) own_no (Ob.of s0), fun a k M t a' H' e mt k1 k2 ib tt keep ex mt' => ⟨rfl, ?_⟩, fun H' s' nf => no H' (s0.trans s') fun ⟨a, k, M, e, mt, h⟩ => nf ⟨a, k, M, e, mt.mono (Kp.of s0), h⟩⟩
  exact yes a k M t x H' e (back e mt) k1 k2 ib tt (Same.made hx hd fun b o q nb => keep b o nb q) ⟨dx, a', ex, mt'⟩
end
end Bd

set_option Elab.async false
set_option linter.all false
set_option maxRecDepth 100000
set_option maxHeartbeats 4000000
/-! the methods of Bounds -/
namespace Bd
open PySem PySem.Spec PyProof.Rows L2 Wd Br
theorem cut_tail {xs : List V} (h : 1 ≤ xs.length) : cutV xs (some 1) none = xs.drop 1 ∧ ¬ (HT.sIx xs.length 0 (some 1) = 0 ∧ HT.sIx xs.length xs.length none = xs.length) := by
  have e : HT.sIx xs.length 0 (some 1) = 1 := by
    rw [show (1 : Int) = ((1 : Nat) : Int) from rfl, HT.sIx_nat, Nat.min_eq_left h]
  refine ⟨?_, fun q => by rw [e] at q; exact absurd q.1 (by decide)⟩
  unfold cutV
  rw [e, HT.sIx_none, List.take_of_length_le (by rw [List.length_drop]; exact Nat.le_refl _)]
theorem rowV_tail {n : Nat} {f : Nat → Int} : (rowV (n + 1) f).drop 1 = rowV n fun j => f (j + 1) := by
  apply List.ext_getElem?
  intro i
  rw [List.getElem?_drop]
  by_cases hi : i < n
  · rw [rowV_get hi, rowV_get (by omega), Nat.add_comm]
  · rw [List.getElem?_eq_none (by rw [rowV_len]; omega), List.getElem?_eq_none (by rw [rowV_len]; omega)]
def spLenB (C : Addr) : Sp := fun vs H Q _ => ∃ (p : Addr) (n : Nat) (t : Mx), vs = [.ref p] ∧ BdAt C H p (n + 1) t ∧ n ≤ 12 ∧ ∀ H', Same H H' → Q (.int (n : Int)) H'
def spEqB (K : PySem.W.Frag) (C : Addr) : Sp := fun vs H Q _ => ∃ (p : Addr) (n : Nat) (t : Mx) (y : V), vs = [.ref p, y] ∧ BdAt C H p n t ∧
  ((∃ ty, TyX K H y ty ∧ PySem.W.kitOne K ty (.ref C) = some false ∧ Q (.bl false) H) ∨ (∃ q k u, y = .ref q ∧ BdAt C H q k u ∧ ∀ b, (b = true ↔ n = k ∧ EqM n t u) → Q (.bl b) H))
def lenText (n : Nat) : Str := Str.empty ++ "bounds of " ++ toString (n : Int) ++ " clocks"
def spStrB (C : Addr) : Sp := fun vs H Q _ => ∃ (p : Addr) (n : Nat) (t : Mx), vs = [.ref p] ∧ BdAt C H p (n + 1) t ∧ n ≤ 12 ∧ ∀ H', Same H H' → Q (.str (lenText n)) H'
def spCheck (C : Addr) : Sp := fun vs H Q _ => ∃ (p q : Addr) (n : Nat) (t u : Mx), vs = [.ref p, .ref q] ∧ BdAt C H p (n + 1) t ∧ BdAt C H q (n + 1) u ∧ n ≤ 12 ∧ ∀ H', Same H H' → Q .non H'
def spAnd (C CIB : Addr) : Sp := fun vs H Q E => ∃ (p q : Addr) (n : Nat) (t u : Mx), vs = [.ref p, .ref q] ∧ BdAt C H p (n + 1) t ∧ BdAt C H q (n + 1) u ∧ n ≤ 12 ∧ InB (n + 1) t ∧ InB (n + 1) u ∧
  (∀ z b H', Same H H' → Tight (n + 1) (mn2 t u) z → BdAt C H' b (n + 1) z → Q (.ref b) H') ∧ (∀ H', Same H H' → ¬ Feas (n + 1) (mn2 t u) → Q .non H')
def spLeast (C : Addr) : Sp := fun vs H Q _ => ∃ (p : Addr) (n : Nat) (t : Mx), vs = [.ref p] ∧ BdAt C H p (n + 1) t ∧ n ≤ 12 ∧ ∀ b H', Same H H' → H' b = some (.tup (rowV n fun j => -t 0 (j + 1))) → Q (.ref b) H'
theorem InB.tight {n : Nat} {m t : Mx} (b : InB n m) (h : Tight n m t) : InB n t := fun i j hi hj => by
  have h1 := h.le hi hj
  have h2 := h.ge hi hj
  have h3 := (b i j hi hj).2
  have h4 := (b j i hj hi).2
  exact ⟨by omega, by omega⟩
theorem InB.mn2 {n : Nat} {a b : Mx} (ha : InB n a) (hb : InB n b) : InB n (Bd.mn2 a b) := fun i j hi hj => by
  have h1 := ha i j hi hj
  have h2 := hb i j hi hj
  unfold Bd.mn2
  omega
section
variable {P : Program} {w : World} {K : PySem.W.Frag} {mg : Str → Option Value} {base : Heap} {fI fR fT fB fL C CIB CIO f1 f2 : Addr}
theorem scLenB : FnScope ["self"] ["self"] (defScope cBounds_len) := ⟨rfl, rfl, rfl, by decide +kernel, rfl, by decide +kernel, by decide +kernel⟩
theorem ok_lenB {f : Addr} {fd : FuncData} (F : Fun K "__len__" "Bounds.__len__" cBounds_len f fd) (Y : CTxt K mg C f1 f2) (ml : mg "len" = none) : FnOk P w K mg base CX0 1 f fd ["self"] (spLenB C) := by
  refine F.ok scLenB (fun vs H Q E h => ?_) (fun cdv A outer s H vs Q E hr h => ?_)
  · obtain ⟨p, n, t, rfl, _⟩ := h
    rfl
  · obtain ⟨p, n, t, rfl, ⟨dx, a, ha, rs, q, l, r⟩, hn, k⟩ := h
    refine ⟨_, pss_one (ps_ret (pe_callB call_len_seq (by rfl) ml PySem.boot_len (pa_cons (pe_slice sl_tup (pe_fld (pv 0) rfl) (po_some pe_int) po_none) pa_nil))), ?_⟩
    obtain ⟨c1, c2⟩ := cut_tail (xs := rs) (by omega)
    refine ⟨_, rfl, p, C, dx, _, _, rfl, ha, Y.cl, Y.nR, bf_rows a, _, rfl, a, rs, rfl, SqT.of q, c2, fun z hz => ⟨z, _, rfl, .inr (SqT.of upd_same), ?_⟩⟩
    rw [c1, List.length_drop, l]
    exact k _ (same_new hz)
theorem scEqB : FnScope ["self", "other"] ["self", "other"] (defScope cBounds_eq) := ⟨rfl, rfl, rfl, by decide +kernel, rfl, by decide +kernel, by decide +kernel⟩
theorem ok_eqB {f : Addr} {fd : FuncData} (F : Fun K "__eq__" "Bounds.__eq__" cBounds_eq f fd) (Y : CTxt K mg C f1 f2) (isin : mg "isinstance" = none) : FnOk P w K mg base CX0 1 f fd ["self", "other"] (spEqB K C) := by
  refine F.ok scEqB (fun vs H Q E h => ?_) (fun cdv A outer s H vs Q E hr h => ?_)
  · obtain ⟨p, n, t, y, rfl, _⟩ := h
    rfl
  · obtain ⟨p, n, t, y, rfl, ⟨dx, a, ha, mt⟩, h⟩ := h
    refine ⟨_, pss_one (ps_ret (pe_and (pe_callB call_isi (by rfl) isin (by decide +kernel) (pa_cons (pv 1) (pa_cons (pe_gcon rfl ⟨_, Y.mgC, (show RelV (.ref C) (.ref C) from rfl)⟩) pa_nil)))
      (pe_one (pe_cmpR (op_eqD hr.units) (pe_fld (pv 0) rfl) (pe_fld (pv 1) rfl) (nomark _))))), ?_⟩
    rcases h with ⟨ty, hty, kf, q⟩ | ⟨q, k, u, rfl, ⟨dy, b, hb, mu⟩, h⟩
    · exact ⟨_, rfl, y, .ref C, ty, .ref C, false, rfl, .own C, hty, kf, false, rfl, iteF q⟩
    · refine ⟨_, rfl, .ref q, .ref C, .ref C, .ref C, true, rfl, .own C, Y.ty hb, Y.kC, true, rfl, iteT ?_⟩
      exact ⟨_, rfl, p, C, dx, _, _, rfl, ha, Y.cl, Y.nR, bf_rows a, _, rfl, q, C, dy, _, _, rfl, hb, Y.cl, Y.nR, bf_rows b, _, _, mt.dp, mu.dp, shaped_mat _ _, shaped_mat _ _, h _ eqv_mat⟩
theorem log12 {n : Nat} (h : n ≤ 12) : ((n : Int).natAbs).log2 < 1920 := by
  have : ((n : Int).natAbs) = n := Int.natAbs_natCast n
  rw [this]
  by_cases z : n = 0
  · subst z
    decide
  · exact Nat.lt_of_lt_of_le ((Nat.log2_lt z).mpr (Nat.lt_of_le_of_lt h (by decide : 12 < 2 ^ 10))) (by decide)
theorem lenText_len : ∀ {n : Nat}, n ≤ 12 → (Str.empty ++ "bounds of " ++ toString (n : Int) : Str).length ≤ sizeLine ∧ (lenText n).length ≤ sizeLine ∧ (Str.empty ++ "bounds of " : Str).length ≤ sizeLine := by
  intro n h
  have all : ∀ m : Fin 13, (Str.empty ++ "bounds of " ++ toString ((m.val : Nat) : Int) : Str).length ≤ 100 ∧ (lenText m.val).length ≤ 100 := by decide +kernel
  have z := all ⟨n, by omega⟩
  have s : 100 ≤ sizeLine := by decide
  exact ⟨Nat.le_trans z.1 s, Nat.le_trans z.2 s, by decide⟩
theorem scStrB : FnScope ["self"] ["self"] (defScope cBounds_str) := ⟨rfl, rfl, rfl, by decide +kernel, rfl, by decide +kernel, by decide +kernel⟩
theorem ok_strB {f : Addr} {fd fdL : FuncData} (F : Fun K "__str__" "Bounds.__str__" cBounds_str f fd) (ml : mg "len" = none) (D : OO.Dun K C "__len__" fL) (GL : FnOk P w K mg base CX0 1 fL fdL ["self"] (spLenB C)) (bL : Binds K fdL ["self"] []) :
    FnOk P w K mg base CX0 3 f fd ["self"] (spStrB C) := by
  refine F.ok scStrB (fun vs H Q E h => ?_) (fun cdv A outer s H vs Q E hr h => ?_)
  · obtain ⟨p, n, t, rfl, _⟩ := h
    rfl
  · obtain ⟨p, n, t, rfl, bd, hn, k⟩ := h
    obtain ⟨dx, a, ha, mt⟩ := id bd
    refine ⟨_, pss_one (ps_ret (pe_joined (.cons pe_str (.cons (pe_fmt (pe_callB (OO.len_own D GL hr bL pass0) (by rfl) ml PySem.boot_len (pa_cons (pv 0) pa_nil))) (.cons pe_str .nil))))), ?_⟩
    obtain ⟨l1, l2, l3⟩ := lenText_len hn
    exact ⟨_, rfl, l3, _, rfl, p, dx, _, rfl, ha, p, n, t, rfl, bd, hn, fun H1 s1 => ⟨n, rfl, by omega, .inr ⟨_, rfl, log12 hn, _, rfl, l1, _, rfl, l2, k H1 s1⟩⟩⟩
end
end Bd

set_option Elab.async false
set_option linter.all false
set_option maxRecDepth 100000
set_option maxHeartbeats 4000000
/-! An own exception class whose base's new and init come from two built-in classes (KeyError has LookupError's new and an init of its own); also all that have both from one. -/
namespace Ek
open PySem PySem.W PySem.Calls PyProof.Rows PySem.HandSPX
open PySem.Builtin PySem.Builtin.ObjectAttr
/-- the init of the built-in class B -/
structure InitF (B initId : String) : Prop where
  slot : Slot B "__init__" initId
  entry : entryFor table initId = some Builtin.«BaseException.__init__»
  split : splitId initId = some (B, "__init__")
  kind : builtinKind initId = some .slot
  row : Manifest.signature? initId = some ⟨.positional, "*", B, .self, [⟨"args", .varPos, false⟩]⟩
  star : (B != "*") = true
theorem InitF.of {B n i : String} (F : ExcCallFacts B n i) : InitF B i :=
  ⟨F.init, F.initEntry, F.initSplit, F.initKind, F.initRow, F.noStar⟩
theorem initKey : InitF "KeyError" "KeyError.__init__" where
  slot := .of (owner := "KeyError") (n := "__init__")
    (by rw [typeLookup_type, builtinLookup_eq_fast]; kernel_rfl)
    (by decide +kernel) (by decide +kernel) (by decide +kernel)
    (by first | exact .inr (by decide +kernel) | exact .inl (by decide +kernel))
    (by rw [isSubtype_type]; kernel_rfl)
  entry := entryFor_alias (id' := "BaseException.__init__")
    (by rw [fastTable_eq_tree]; kernel_rfl)
    (by first | rfl | decide +kernel) (by decide +kernel)
    (by rw [fastTable_eq_tree]; kernel_rfl)
  split := by kernel_rfl
  kind := by kernel_rfl
  row := by kernel_rfl
  star := by decide +kernel
abbrev kTail : List Value := [.type "KeyError", .type "LookupError", .type "Exception", .type "BaseException", .type "object"]
theorem storeKey : StoreFacts "KeyError" kTail "object.__setattr__" "object" where
  mro := by kernel_rfl
  slot := .of (owner := "object") (n := "__setattr__")
    (by rw [typeLookup_type, builtinLookup_eq_fast]; kernel_rfl)
    (by decide +kernel) (by decide +kernel) (by decide +kernel)
    (by first | exact .inr (by decide +kernel) | exact .inl (by decide +kernel))
    (by rw [isSubtype_type]; kernel_rfl)
  entry := F.entry_object_sa
  kind := by decide +kernel
  split := by decide +kernel
  hasOwner := by decide +kernel
  args := fun a b c => by unfold argsOk; kernel_rfl
  passes := fun _ => by kernel_rfl
/-- what the bases of the class are: one has the new, one the init; none is of the two that ask for more -/
structure Above (bm : List Value) (BN BI : String) : Prop where
  n : bm.contains (.type BN) = true
  i : bm.contains (.type BI) = true
  a : bm.contains (.type "AttributeError") = false
  u : bm.contains (.type "NameError") = false
section
variable {M : Model} {A : Around} {E : Value → Shared → Prop} {hp : Heap} {gs : Array GenState} {dr : Drawn} {tk : Nat} {os : OsState}
variable {nm qn : Str} {C N : Addr} {bs bm bmB : List Value} {hd : Bool} {sn : List Str} {sub : List Value} {ab : Bool} {col : Option Bool} {dd : Option Addr}
variable {s0 s1 s2 s3 s5 : Option Value} {B B' newId initId initId' : String}

theorem seesNew (F : ExcBaseFacts B newId initId bmB) (hb : bm.contains (.type B) = true) {us : List Value} {Q : Unit → Shared → Prop}
    (at_ : hp.get? C = some (excClassObj nm qn C N bs bm hd sn sub ab col dd s0 s1 s2 s3 s5 newId)) (q : Q () ⟨hp, gs, dr, tk, os⟩) :
    wpAny M A (checkBuiltinCall newId ⟨.ref C :: us, []⟩) Q E ⟨hp, gs, dr, tk, os⟩ := by
  have in_ : (Value.ref C :: bm).contains (.type B) = true := by rw [List.contains_cons, hb, Bool.or_true]
  have star := F.noStar
  simp only [checkBuiltinCall, F.newKind, F.newSplit, F.newRow]
  repeat (first
    | refine wpAny_loadPart_at at_ ?_
    | (refine wpAny_isSubtype_exc at_ ?_; rw [in_])
    | refine wpAny_staticBase_exc at_ ?_
    | refine wpAny_madeBy_exc at_ ?_
    | simp only [bne_self_eq_false, Bool.false_eq_true, if_false]
    | wp_step)
  exact q
theorem seesInit (F : InitF B' initId') (hb : bm.contains (.type B') = true) {e : Addr} {oe : Obj} {us : List Value} {Q : Unit → Shared → Prop}
    (at_ : hp.get? C = some (excClassObj nm qn C N bs bm hd sn sub ab col dd s0 s1 s2 s3 s5 newId)) (ate : hp.get? e = some oe) (hc : oe.cls = .ref C)
    (q : Q () ⟨hp, gs, dr, tk, os⟩) : wpAny M A (checkBuiltinCall initId' ⟨.ref e :: us, []⟩) Q E ⟨hp, gs, dr, tk, os⟩ := by
  have in_ : (Value.ref C :: bm).contains (.type B') = true := by rw [List.contains_cons, hb, Bool.or_true]
  have star := F.star
  simp only [checkBuiltinCall, F.kind, F.split, F.row]
  repeat (first
    | (with_reducible refine wpAny_loadPart_at ate ?_; rw [hc])
    | with_reducible refine wpAny_loadPart_at at_ ?_
    | (with_reducible refine wpAny_isSubtype_exc at_ ?_; rw [in_])
    | wp_step)
  refine wpAny_onRaise ?_
  have z : ∀ (a b : String) (n : Nat), Bind.check ⟨.positional, "*", B', .self, [⟨"args", .varPos, false⟩]⟩ a b n
      (List.map (fun x => x.fst) ({ pos := Value.ref e :: us } : Args).kw) = pure () := fun a b n => check_star_args _ _ _ _ _ _
  rw [z]
  exact wpAny_pure q
end
section
variable {prog : Program} {w : World} {A : Around} {E : Value → Shared → Prop} {R : Result → Shared → Prop} {hp : Heap} {gs : Array GenState} {dr : Drawn} {tk : Nat} {os : OsState}
variable {nm qn : Str} {C N : Addr} {bs bm bmB : List Value} {hd : Bool} {sn : List Str} {sub : List Value} {ab : Bool} {col : Option Bool} {dd : Option Addr}
variable {s0 s1 s2 s3 s5 : Option Value} {B B' newId initId initId' : String}
theorem runsNew (F : ExcBaseFacts B newId initId bmB) (U : Above bm B B') {us : List Value}
    (at_ : hp.get? C = some (excClassObj nm qn C N bs bm hd sn sub ab col dd s0 s1 s2 s3 s5 newId)) (hl : us.length ≤ sizeLine)
    (q : R (.ok (.ret (.ref (hp.objs.size + 1)))) ⟨(hp.push (kdv_tup us)).push (excO C hp.objs.size), gs, dr, tk, os⟩) :
    codeAny (model prog w) A (.builtin newId ⟨.ref C :: us, []⟩) R ⟨hp, gs, dr, tk, os⟩ := by
  have ends := F.ends
  have inB : (Value.ref C :: bm).contains (.type B) = true := by rw [List.contains_cons, U.n, Bool.or_true]
  have inA : (Value.ref C :: bm).contains (.type "AttributeError") = false := by rw [List.contains_cons, U.a]; rfl
  have inN : (Value.ref C :: bm).contains (.type "NameError") = false := by rw [List.contains_cons, U.u]; rfl
  refine codeAny_builtinAt F.entry ?_
  unfold Builtin.«BaseException.__new__»
  refine PySem.wpAt_bind ?_
  show PySem.wpAt _ _ _ (stack >>= _) _ _ _
  refine PySem.wpAt_bind (PySem.wpAt_stack fun p below => PySem.wpAt_of_wpAny ?_)
  wp_walk
  refine PySem.wpAt_of_wpAny ?_
  rw [F.owner]
  repeat (first
    | with_reducible refine wpAny_madeHere_exc F.canon at_ ?_
    | with_reducible refine wpAny_loadPart_at at_ ?_
    | (with_reducible refine wpAny_isSubtype_exc at_ ?_; first | rw [inB] | rw [inA] | rw [inN])
    | wp_step)
  show R _ _
  rw [Heap.size_push]
  exact q
theorem typeCalls (F : ExcBaseFacts B newId initId bmB) (U : Above bm B B') {us : List Value} {fI : Addr} {Q : Fin → Shared → Prop}
    (at_ : hp.get? C = some (excClassObj nm qn C N bs bm hd sn sub ab col dd s0 s1 s2 s3 s5 newId))
    (li : Looks (model prog w) hp (typeLookup (.ref C) "__init__") (some (.ref fI))) (lb : ∀ self, Looks (model prog w) hp (bindSpecial (.ref fI) self) (.ref fI, [self]))
    (hl : us.length ≤ sizeLine)
    (q : codeAny (model prog w) A (.call (.ref fI) ⟨.ref (hp.objs.size + 1) :: us, []⟩)
      (fun r s' => match r with | .ok (.ret v) => v = .none ∧ Q (.done (.ret (.ref (hp.objs.size + 1)))) s' | .ok _ => False | .error x => E x s')
      ⟨(hp.push (kdv_tup us)).push (excO C hp.objs.size), gs, dr, tk, os⟩) :
    wpAny (model prog w) A (Builtin.«type.__call__» ⟨.ref C :: us, []⟩) Q E ⟨hp, gs, dr, tk, os⟩ := by
  repeat (first
    | with_reducible refine wpAny_loadPart_at at_ ?_
    | with_reducible refine wpAny_madeBy_exc at_ ?_
    | wp_step)
  refine codeAny_call_builtin_code (Code.quiet_builtin _ F.quiet) (seesNew F U.n at_ (runsNew F U at_ hl ?_))
  show wpAny _ _ _ _ _ _
  have kp : ∀ b o, hp.get? b = some o → ((hp.push (kdv_tup us)).push (excO C hp.objs.size)).get? b = some o :=
    fun b o e => Heap.get?_push_of_some _ (Heap.get?_push_of_some _ e)
  have at1 := kp _ _ at_
  have atE : ((hp.push (kdv_tup us)).push (excO C hp.objs.size)).get? (hp.objs.size + 1) = some (excO C hp.objs.size) := by heap_get
  have inC : (Value.ref C :: bm).contains (.ref C) = true := by simp
  have li1 := li.keeps kp
  have lb1 := (lb (.ref (hp.objs.size + 1))).keeps kp
  unfold isInstance
  repeat (first
    | with_reducible refine wpAny_loadPart_at atE ?_
    | (with_reducible refine wpAny_isSubtype_exc at1 ?_; rw [inC])
    | wp_step)
  show wpAny _ _ (typeLookup (.ref C) _) _ _ _
  refine li1.at (wpAny_holding (wpAny_bind (lb1.at (wpAny_bind (wpAny_call (codeAny_mono q fun r s' z => ?_))))))
  rcases r with x | (v | _ | _ | _) <;> first | exact z | exact z.elim | skip
  obtain ⟨rfl, z⟩ := z
  first
    | exact wpAny_pure (wpAny_pure z)
    | (wp_walk; exact z)
theorem clsCalls (F : ExcBaseFacts B newId initId bmB) (U : Above bm B B') {us : List Value} {fI : Addr}
    (at_ : hp.get? C = some (excClassObj nm qn C N bs bm hd sn sub ab col dd s0 s1 s2 s3 s5 newId))
    (li : Looks (model prog w) hp (typeLookup (.ref C) "__init__") (some (.ref fI))) (lb : ∀ self, Looks (model prog w) hp (bindSpecial (.ref fI) self) (.ref fI, [self]))
    (hl : us.length ≤ sizeLine)
    (q : codeAny (model prog w) (A.under (.builtin "type.__call__" ⟨.ref C :: us, []⟩)) (.call (.ref fI) ⟨.ref (hp.objs.size + 1) :: us, []⟩)
      (InitBack (hp.objs.size + 1) R) ⟨(hp.push (kdv_tup us)).push (excO C hp.objs.size), gs, dr, tk, os⟩) :
    codeAny (model prog w) A (.call (.ref C) ⟨us, []⟩) R ⟨hp, gs, dr, tk, os⟩ := by
  have l1 := tc_lookup
  have l2 := tc_bind (.ref C)
  have ty : (⟨hp, gs, dr, tk, os⟩ : Shared).TypeIs (.ref C) "type" := ⟨_, at_, rfl⟩
  refine codeAny_of_tree ?_
  show wpAny _ _ (callAny (.ref C) _) _ _ _
  repeat (any_goals (first
    | assumption
    | with_reducible refine wpAny_loadPart_at at_ ?_
    | wp_step))
  refine ⟨rfl, codeAny_call_builtin_at (Code.quiet_builtin _ (by decide +kernel)) entry_typeCall
    (wpAny_check_type_call_sub at_ (typeCalls F U at_ li lb hl (codeAny_mono q fun r s' z => ?_)))⟩
  rcases r with x | (v | _ | _ | _) <;> exact z
theorem runsInit (F : InitF B' initId') (hb : bm.contains (.type B') = true) {e t0 : Addr} {us : List Value}
    (at_ : hp.get? C = some (excClassObj nm qn C N bs bm hd sn sub ab col dd s0 s1 s2 s3 s5 newId)) (ate : hp.get? e = some (excO C t0)) (hl : us.length ≤ sizeLine)
    (q : ∀ h' t1, (∀ b o, b ≠ e → hp.get? b = some o → h'.get? b = some o) → h'.get? e = some (excO C t1) → R (.ok (.ret .none)) ⟨h', gs, dr, tk, os⟩) :
    codeAny (model prog w) A (.call (.builtin initId') ⟨.ref e :: us, []⟩) R ⟨hp, gs, dr, tk, os⟩ := by
  refine codeAny_call_builtin F.slot.plain F.entry (seesInit F hb at_ ate rfl ?_)
  wp_walk
  refine q _ hp.objs.size (fun b o hne ho => ?_) ?_
  · rw [Heap.get?_update_other _ _ (Ne.symm hne)]
    exact Heap.get?_push_of_some _ ho
  · rw [Heap.get?_update_self _ (Heap.get?_push_of_some _ ate) rfl] <;> rfl
end
end Ek

set_option Elab.async false
set_option linter.all false
set_option maxRecDepth 100000
set_option maxHeartbeats 4000000
namespace Ek
open PySem PySem.Spec PyProof.Rows L2
open PySem.W (Frag findIn subIn mroIn keepIn hasDictIn clsIn takerIn specialIn takesIn readsIn findCls kitOne excInitIn excOver)
/-- an own exception class at C whose mro behind itself ends with bmB -/
structure EC (K : Frag) (C : Addr) (bmB : List Value) (newId : String) : Prop where
  q : excInitIn K C bmB newId = true
  ov : excOver K C bmB = true
  hd : hasDictIn K C = true
  kC : keepIn K (.ref C) = true
  sa : findIn K (.ref C) "__setattr__" = some (some (.builtin "object.__setattr__"))
/-- how an instance of it is read, and what isinstance asks -/
structure ER (K : Frag) (C : Addr) : Prop where
  hd : hasDictIn K C = true
  ga : findIn K (.ref C) "__getattribute__" = some (some (.builtin "BaseException.__getattribute__"))
  gt : findIn K (.ref C) "__getattr__" = some none
  ex : subIn K (.ref C) (.type "BaseException") = some true
  ca : findIn K (.ref C) "__class__" = some (some (.builtin "object.__class__"))
  ob : mroIn K C (.type "object") = some true
structure ObC (K : Frag) : Prop where
  gn : specialIn K (.builtin "object.__class__") "__get__" = some (some (.builtin "getset_descriptor.__get__"))
  tk : takesIn K (.builtin "object.__class__") = some true
theorem ER.ic {K : Frag} {C : Addr} (R : ER K C) : (clsIn K C).isSome = true := by
  obtain ⟨cd, e, _⟩ := PySem.W.any_some R.hd
  rw [e]
  rfl
section
variable {X : Cx} {pins : List (Addr × Obj)} {σ : L2.St} {H : Hp} {s : Shared} {a C : Addr} {f : Str} {y : V} {u : Value} {bmB : List Value} {B newId : String}
variable {Q : Unit → Shared → Prop} {E : Value → Shared → Prop} {A : Around}
/-- the first attribute of an exception without a dict -/
theorem putFirst (SF : StoreFacts B bmB "object.__setattr__" "object") (T : EC X.K C bmB newId) (I : L2.Inv X pins σ H s) (e : H a = some (exo a C none))
    (nt : takerIn X.K C f = some none) (ry : RelV y u)
    (h : ∀ d s', H d = none → d ≠ a → L2.Inv X pins σ (upd (upd H a (exo a C (some d))) d (exd d [(f, y)])) s' → Q () s') :
    wpAny (model X.prog X.w) A (setAttr (.ref a) f u) Q E s := by
  obtain ⟨t1, ho⟩ := exo_at I.hok e
  obtain ⟨cd, hc, hdct⟩ := PySem.W.any_some T.hd
  obtain ⟨hp, g, dr, t, os⟩ := s
  have lc : ∀ M h, X.K.In h → PySem.W.Looks M h (classData C) cd := fun M h Y => PySem.W.looks_clsIn Y hc
  have lt : a ≠ hp.objs.size := Nat.ne_of_lt (Heap.lt_size ho)
  refine PySem.W.set_plain I.kIn (ox := { cls := .ref C, dict := none, data := .fields #[.ref t1, .none, .none, .none, .bool false, .none] }) (od := none) ⟨ho, rfl, rfl, trivial⟩ T.sa ?_
  refine PySem.W.osa_openX (od := none) SF I.kIn ⟨ho, rfl, rfl, trivial⟩ T.ov nt fun b => ?_
  have hcls := lc (model X.prog X.w) hp I.kIn
  show wpAny _ _ (Builtin.ObjectAttr.storeInOwnDict (.ref a) (.ref C) (.str f t) f u b) _ _ _
  obtain ⟨nm, bs, mro, ns, qn, hd, sn, sb, ab, col, del⟩ := cd
  dsimp only at hdct
  subst hdct
  unfold Builtin.ObjectAttr.storeInOwnDict Builtin.ObjectAttr.ownDictForStores
  repeat (first
    | with_reducible refine PySem.HandSPX.store_in_new ?_ ?_
    | with_reducible refine wpAny_loadPart_at ho ?_
    | with_reducible refine hcls.at ?_
    | wp_step)
  · refine ⟨_, #[], _, (Heap.get?_update_ne _ _ _ _ lt.symm).trans (Heap.get?_push_at rfl rfl), rfl, fun z hz => ?_, fun _ => rfl⟩
    exact absurd hz (by simp)
  · intro h' tk' hn hs
    have ha0 : (hp.push { cls := .type "dict", data := .dict #[] }).get? a = some { cls := .ref C, data := .fields #[.ref t1, .none, .none, .none, .bool false, .none] } := Heap.get?_push_of_some _ ho
    have ha : h'.get? a = some { cls := .ref C, dict := some hp.objs.size, data := .fields #[.ref t1, .none, .none, .none, .bool false, .none] } := by
      rw [hs.2 a lt, Heap.get?_update_self _ ha0 rfl] <;> rfl
    have kp : ∀ b o, b ≠ a → hp.get? b = some o → h'.get? b = some o := fun b o hb ho' => by
      have nb : b ≠ hp.objs.size := Nat.ne_of_lt (Heap.lt_size ho')
      rw [hs.2 b nb, Heap.get?_update_other _ _ (Ne.symm hb)]
      exact Heap.get?_push_of_some _ ho'
    obtain ⟨G, g1, g2⟩ := L2.restrict h' fun b => decide (b ≠ hp.objs.size)
    have gk : ∀ b, b ≠ hp.objs.size → G.get? b = h'.get? b := fun b hb => g1 b (decide_eq_true hb)
    have gd : G.get? hp.objs.size = none := g2 _ (by simp)
    have hn0 : H hp.objs.size = none := I.hok.fresh (Nat.le_refl _)
    have J := I.write (h' := G) (t' := tk') (x := a) (e := a) (o := exo a C (some hp.objs.size)) (by rw [e]; exact True.intro) (.inl rfl)
      (fun b o hb ho' => by rw [gk b (Nat.ne_of_lt (Heap.lt_size ho'))]; exact kp b o hb ho') ⟨_, (gk a lt).trans ha⟩ (exo_ok ((gk a lt).trans ha))
    have nd : (upd H a (exo a C (some hp.objs.size))) hp.objs.size = none := by rw [upd_ne (Ne.symm lt)]; exact hn0
    refine h _ _ hn0 (Ne.symm lt) (J.laidN (h' := h') (t' := tk') (a := hp.objs.size) (fun b o q => ?_) gd nd (exd_ok hn (relO_put (fs := []) ry fun g => True.intro)))
    have q' : G.get? b = some o := q
    by_cases hb : b = hp.objs.size
    · rw [hb, gd] at q'
      cases q'
    · rw [← gk b hb]
      exact q'
/-- the init of a built-in base: nothing of it is told -/
theorem baseInit {B' initId : String} {us : List Value} {Q : Value → Shared → Prop} (F : InitF B' initId) (hB : bmB.contains (.type B') = true) (T : EC X.K C bmB newId) (I : L2.Inv X pins σ H s)
    (e : H a = some (exo a C none)) (hl : us.length ≤ sizeLine) (h : ∀ s', L2.Inv X pins σ H s' → Q .none s') :
    wpAny (model X.prog X.w) A (call (.builtin initId) (.ref a :: us)) Q E s := by
  obtain ⟨nm, N, qn, bs, bm, hd, sn, sub, ab, col, dd, k0, k1, k2, k3, k5, hC, hT⟩ := PySem.W.excInit_of I.kIn T.q
  obtain ⟨t1, ho⟩ := exo_at I.hok e
  obtain ⟨hp, g, dr, t, os⟩ := s
  refine wpAny_call (runsInit F ((hT B').trans hB) hC ho hl fun h' t2 kp hx => ?_)
  have same : upd H a (exo a C none) = H := funext fun b => by
    by_cases hb : b = a
    · rw [hb, upd_same, e]
    · exact upd_ne hb
  have J := I.write (h' := h') (t' := t) (x := a) (e := a) (o := exo a C none) (by rw [e]; exact True.intro) (.inl rfl) kp ⟨_, hx⟩ (exo_ok hx)
  rw [same] at J
  exact h _ J
end

/-- Base.__init__(self, ..) -/
def tBaseI (K : Frag) (bmB : List Value) (newId : String) (ta : TA) : TE := fun σ H Q => ta σ H fun vs H1 =>
  ∃ (a C : Addr) (ws : List V), vs = .ref a :: ws ∧ ws.length ≤ 1000 ∧ EC K C bmB newId ∧ H1 a = some (exo a C none) ∧ Q .non H1
/-- self.f = e, the first -/
def tPut (K : Frag) (bmB : List Value) (newId : String) (f : Str) (to te : TE) : TS := fun D σ H => te σ H fun y H1 => to σ H1 fun x H2 =>
  ∃ a C : Addr, x = .ref a ∧ EC K C bmB newId ∧ takerIn K C f = some none ∧ H2 a = some (exo a C none) ∧
    ∀ d, H2 d = none → d ≠ a → D.nx σ (upd (upd H2 a (exo a C (some d))) d (exd d [(f, y)]))
/-- C(e, ..) by its own __init__ -/
def tMkE (C : Addr) (sp : Sp) (ta : TA) : TE := fun σ H Q => ta σ H fun vs H1 => vs.length ≤ 1000 ∧ ∀ a, H1 a = none →
  sp (.ref a :: vs) (upd H1 a (exo a C none)) (fun v H2 => v = .non ∧ Q (.ref a) H2) fun _ _ _ => False
/-- e.f, f held by the exception's own dict -/
def tAtE (K : Frag) (f : Str) (te : TE) : TE := fun σ H Q => te σ H fun x H1 => ∃ (a C d : Addr) (fs : List (Str × V)) (v : V),
  x = .ref a ∧ ER K C ∧ findIn K (.ref C) f = some none ∧ H1 a = some (exo a C (some d)) ∧ H1 d = some (exd d fs) ∧ fs.lookup f = some v ∧ Q v H1
/-- at a stands an exception of the class at C -/
def ErrAt (H : Hp) (a C : Addr) : Prop := H a = some (ExO (.ref C) a) ∨ ∃ d fs, H a = some (exo a C (some d)) ∧ H d = some (exd d fs)
def rIsX (K : Frag) : List V → Hp → VK → Prop := fun xs H Q => ∃ (a C : Addr) (c : V) (u : Value) (b : Bool), xs = [.ref a, c] ∧ ClsV c u ∧ ErrAt H a C ∧ ER K C ∧ ObC K ∧ kitOne K (.ref C) u = some b ∧ Q (.bl b) H
section
variable {X : Cx} {o e : Expr} {es : List Expr} {to te : TE} {ta : TA} {f : Str} {p p' p1 p2 pos : Pos} {bmB : List Value} {B newId : String}
theorem pe_baseT {B' initId : String} {x : Str} {pl : Sem Bool} (F : InitF B' initId) (hB : bmB.contains (.type B') = true) (hg : Gl X x) (hm : X.mg x = none) (hbt : bootBuiltins x = some (.type B'))
    (typ : typeOf (.type B') = pure (.type "type")) (stub : Manifest.isStub B' = false) (vV : findCls X.K (.type B') (.type "type") "__init__" = some (.val (.builtin initId))) (ha : PA X (e :: es) ta) (hh : PySem.W.handedIn (.builtin initId) = true := by decide +kernel)
    (hn : x ≠ "__name__" := by decide) (hdb : (x == ("__debug__" : Str)) = false := by decide)
    (hc : eval (.Call (.Attribute (.Name x p1) "__init__" p2) (e :: es) [] pos) X.env = (do
      let ov ← eval (.Name x p1) X.env
      standAt p2.atName
      let (f, first) ← holding [ov] (getMethod ov "__init__" pl)
      callWith pos f first (backTo pos (starEach (e :: es) X.env)) (backToKw pos (keywordEach [] X.env))) := by rfl)
    (he : starEach (e :: es) X.env = (false, eval e X.env) :: starEach es X.env := by rfl) (hpl : (backTo pos (starEach es X.env)).any (·.1) = false := by rfl) :
    PE X (.Call (.Attribute (.Name x p1) "__init__" p2) (e :: es) [] pos) (tBaseI X.K bmB newId ta) := by
  refine ⟨fun pins s σ H Q I h => PySem.W.methodCall_KW (ld_blt I hg hm hbt ?_ hn hdb) hc⟩
  obtain ⟨m, fr⟩ := I.fr
  refine PySem.W.method_type fr I.ok.mod.kin typ stub vV hh ?_
  show wpAny _ _ (callWith pos (Value.builtin initId) [] (backTo pos (starEach (e :: es) X.env)) []) _ _ _
  refine PyProof.Rows.callWith_method1 (thn (ha.run pos pins _ σ H _ (I.tok _) h) fun us s1 ⟨vs, H1, I1, r1, a, C, ws, ev, hl, T, ea, q⟩ => ?_) he hpl
  subst ev
  cases r1 with
  | @cons _ u0 _ ur ra rw' =>
    obtain rfl : u0 = Value.ref a := ra
    have hl2 : ur.length ≤ sizeLine := by
      rw [← Paired.length rw', sizeLine_eq]
      omega
    exact baseInit F hB T I1 ea hl2 fun s' J => ⟨.non, H1, J, rfl, q⟩
theorem pe_baseC {B' initId : String} {x : Str} {CB : Addr} {pl : Sem Bool} (F : InitF B' initId) (hB : bmB.contains (.type B') = true) (hg : Gl X x) (hm : X.mg x = some (.ref CB))
    (gg : specialIn X.K (.ref CB) "__getattribute__" = some (some (.builtin "type.__getattribute__"))) (rd : readsIn X.K CB (.type "type") = true)
    (vV : findCls X.K (.ref CB) (.type "type") "__init__" = some (.val (.builtin initId))) (ha : PA X (e :: es) ta) (hh : PySem.W.handedIn (.builtin initId) = true := by decide +kernel)
    (hdb : (x == ("__debug__" : Str)) = false := by decide)
    (hc : eval (.Call (.Attribute (.Name x p1) "__init__" p2) (e :: es) [] pos) X.env = (do
      let ov ← eval (.Name x p1) X.env
      standAt p2.atName
      let (f, first) ← holding [ov] (getMethod ov "__init__" pl)
      callWith pos f first (backTo pos (starEach (e :: es) X.env)) (backToKw pos (keywordEach [] X.env))) := by rfl)
    (he : starEach (e :: es) X.env = (false, eval e X.env) :: starEach es X.env := by rfl) (hpl : (backTo pos (starEach es X.env)).any (·.1) = false := by rfl) :
    PE X (.Call (.Attribute (.Name x p1) "__init__" p2) (e :: es) [] pos) (tBaseI X.K bmB newId ta) := by
  refine ⟨fun pins s σ H Q I h => PySem.W.methodCall_KW (ld_glob I hg hm ?_ hdb) hc⟩
  refine PySem.W.method_cls I.kIn gg (PySem.W.cls_value I.kIn rd vV hh ?_)
  show wpAny _ _ (callWith pos (Value.builtin initId) [] (backTo pos (starEach (e :: es) X.env)) []) _ _ _
  refine PyProof.Rows.callWith_method1 (thn (ha.run pos pins _ σ H _ (I.tok _) h) fun us s1 ⟨vs, H1, I1, r1, a, C, ws, ev, hl, T, ea, q⟩ => ?_) he hpl
  subst ev
  cases r1 with
  | @cons _ u0 _ ur ra rw' =>
    obtain rfl : u0 = Value.ref a := ra
    have hl2 : ur.length ≤ sizeLine := by
      rw [← Paired.length rw', sizeLine_eq]
      omega
    exact baseInit F hB T I1 ea hl2 fun s' J => ⟨.non, H1, J, rfl, q⟩
theorem ps_put (SF : StoreFacts B bmB "object.__setattr__" "object") (ho : PE X o to) (he : PE X e te) (hs : swapsWith e (some (.Attribute o f p')) pos.line X.env = pure false := by rfl) :
    PS X (.Assign [.Attribute o f p'] e pos) (tPut X.K bmB newId f to te) := by
  refine ⟨fun pins s σ H D I h => ?_⟩
  refine plainObj_wpAny_Assign_Attribute (thn (he.run pins s σ H _ I h) fun v s1 ⟨y, H1, I1, r1, q1⟩ => thn (ho.run pins s1 σ H1 _ I1 q1) fun u s2 ⟨x, H2, I2, r2, a, C, ex, T, nt, ea, q⟩ => ?_) hs
  subst ex
  obtain rfl : u = Value.ref a := r2
  exact putFirst SF T I2 ea nt r1 fun d s' n ne J => ⟨σ, _, J, q d n ne⟩
theorem pe_mkE {CX : CXT} {x : Str} {C fI : Addr} {k : Nat} {fd : FuncData} {ps : List Str} {sp : Sp} {BN BI initId : String} {bN : List Value} (FN : ExcBaseFacts BN newId initId bN)
    (U : Above bmB BN BI) (T : EC X.K C bmB newId) (iC : findIn X.K (.ref C) "__init__" = some (some (.ref fI))) (tI : PySem.W.typeIn X.K (.ref fI) = some (.type "function"))
    (F1 : FnOk X.prog X.w X.K X.mg X.base CX k fI fd ps sp) (hr : Room (k + 1) X.A) (hb : Binds X.K fd ps []) (hx : Passes CX X (fun _ _ _ => False)) (hg : Gl X x) (hm : X.mg x = some (.ref C)) (ha : PA X (e :: es) ta)
    (hdb : (x == ("__debug__" : Str)) = false := by decide) (he : starEach (e :: es) X.env = (false, eval e X.env) :: starEach es X.env := by rfl) (hpl : (backTo pos (starEach es X.env)).any (·.1) = false := by rfl) :
    PE X (.Call (.Name x p) (e :: es) [] pos) (tMkE C sp ta) := by
  refine ⟨fun pins s σ H Q I h => ?_⟩
  refine wpAny_Call_Name_kw (ld_glob I hg hm ?_ hdb)
  refine PySem.W.callWith_K (h₀ := X.base) I.ok.mod.kin T.kC (thn (ha.run pos pins s σ H _ I h) fun us s1 ⟨vs, H1, I1, r1, hz, q1⟩ => ⟨I1.kIn, ?_⟩) he hpl
  show wpAny _ _ (call (.ref C) us) _ _ _
  obtain ⟨nm, N, qn, bs, bm, hd, sn, sub, ab, col, dd, k0, k1, k2, k3, k5, hC, hT⟩ := PySem.W.excInit_of I1.kIn T.q
  have U' : Above bm BN BI := ⟨(hT _).trans U.n, (hT _).trans U.i, (hT _).trans U.a, (hT _).trans U.u⟩
  obtain ⟨hp, g, dr, tk, os⟩ := s1
  have up : hp.objs.size ≤ hp.objs.size + 1 := Nat.le_succ _
  have hn : H1 (hp.objs.size + 1) = none := I1.hok.fresh up
  have hq := q1 (hp.objs.size + 1) hn
  have kk : ∀ b o, hp.get? b = some o → ((hp.push (PySem.W.kdv_tup us)).push (PySem.HandSPX.excO C hp.objs.size)).get? b = some o := fun b o e => Heap.get?_push_of_some _ (Heap.get?_push_of_some _ e)
  have hget : ((hp.push (PySem.W.kdv_tup us)).push (PySem.HandSPX.excO C hp.objs.size)).get? (hp.objs.size + 1) = some (PySem.HandSPX.excO C hp.objs.size) := by heap_get
  have I2 := I1.laid (t' := tk) (a := hp.objs.size + 1) (o := exo (hp.objs.size + 1) C none) (h' := (hp.push (PySem.W.kdv_tup us)).push (PySem.HandSPX.excO C hp.objs.size)) kk up (exo_ok hget)
  have r2 : Vals (V.ref (hp.objs.size + 1) :: vs) (Value.ref (hp.objs.size + 1) :: us) := .cons rfl r1
  have r3 : Vals (V.ref (hp.objs.size + 1) :: vs) (Value.ref (hp.objs.size + 1) :: us ++ []) := by rw [List.append_nil]; exact r2
  have hl : (Value.ref (hp.objs.size + 1) :: us ++ []).length = ps.length := r3.length.symm.trans (F1.len _ _ _ _ hq)
  have hus : us.length ≤ sizeLine := by
    rw [← Paired.length r1, sizeLine_eq]
    omega
  refine wpAny_call (clsCalls FN U' hC (PySem.W.looks_findIn I1.kIn iC) (fun self => PySem.W.bind_fn I1.kIn self tI) hus
    (codeAny_mono (F1.run _ X.stack _ _ ⟨Value.ref (hp.objs.size + 1) :: us, []⟩ (Value.ref (hp.objs.size + 1) :: us ++ []) _ _ (fun _ _ _ => False) (hr.make C us []) (I2.env0.make C us [])
      (hb _ (Value.ref (hp.objs.size + 1) :: us) I2.kIn hl) r3 hq) fun r s' hq' => ?_))
  cases r with
  | error er => exact hx pins σ _ _ er s' I2 hq'
  | ok fl =>
    cases fl with
    | ret u =>
      obtain ⟨v, H2, I3, rv, ev, q2⟩ := I2.after hq'
      subst ev
      exact ⟨rv, ⟨V.ref (hp.objs.size + 1), H2, I3, rfl, q2⟩⟩
    | next => exact False.elim hq'
    | brk => exact False.elim hq'
    | cont => exact False.elim hq'
theorem pe_atE (he : PE X e te) (hb : attributeBase e f X.env (eval e X.env) = eval e X.env := by rfl) : PE X (.Attribute e f pos) (tAtE X.K f te) := by
  refine ⟨fun pins s σ H Q I h => attr_of hb (thn (he.run pins s σ H _ I h) fun u s1 hh => ?_)⟩
  obtain ⟨x, H1, I1, rx, a, C, d, fs, v, ex, R, no, ea, ed, hl, q⟩ := hh
  subst ex
  obtain rfl : u = Value.ref a := rx
  obtain ⟨t1, ho⟩ := exo_at I1.hok ea
  obtain ⟨mA, hns, rel⟩ := exd_at I1.hok ed
  obtain ⟨od, hod, lk⟩ := lookIn_ns hns
  obtain ⟨u, hu, ru⟩ := RelO.some_of (v := v) (o := mA f) (by rw [← hl]; exact rel f)
  refine PySem.HandSPX.exc_get I1.kIn (od := some od) ⟨ho, rfl, rfl, hod⟩ R.ga R.gt R.ex (PySem.W.findObj_own R.hd no rfl (by rw [lk, hu])) (handed_of ru) ?_
  exact ⟨v, H1, I1.tok _, ru, q⟩
theorem call_isX : CallR X (.builtin "isinstance") (rIsX X.K) := by
  intro pins s σ H xs us Q I r h
  obtain ⟨a, C, c, u, b, rfl, kc, ea, R, O, kb, q⟩ := h
  obtain ⟨u1, u2, rfl, r1, r2⟩ := vals2 r
  obtain rfl : u1 = Value.ref a := r1
  obtain rfl := kc.eq r2
  rcases ea with ea | ⟨d, fs, ea, ed⟩
  · have z : ObjOk X.prog X.w H s.heap a (ExO (.ref C) a) := I.hok a _ ea
    obtain ⟨⟨oe, vs, ho, hz, hv, _⟩, _⟩ := z
    have J : PySem.W.InstAt s.heap a oe C none := ⟨ho, hz.1, by unfold PySem.W.notCls; rw [hv] <;> rfl, by rw [hz.2]; exact trivial⟩
    exact PySem.W.kia_one (PySem.W.kitx_exc R.ic R.ga R.gt R.ex R.ca O.gn O.tk R.ob) I.kIn J kb (fun z => nomatch z) fun tk => ⟨.bl b, H, I.tok tk, rfl, q⟩
  · obtain ⟨t1, ho⟩ := exo_at I.hok ea
    obtain ⟨mA, hns, rel⟩ := exd_at I.hok ed
    obtain ⟨od, hod, lk⟩ := lookIn_ns hns
    have J : PySem.W.InstAt s.heap a { cls := .ref C, dict := some d, data := .fields #[.ref t1, .none, .none, .none, .bool false, .none] } C (some od) := ⟨ho, rfl, rfl, hod⟩
    exact PySem.W.kia_one (PySem.W.kitx_exc R.ic R.ga R.gt R.ex R.ca O.gn O.tk R.ob) I.kIn J kb (fun z => nomatch z) fun tk => ⟨.bl b, H, I.tok tk, rfl, q⟩
end
end Ek

set_option Elab.async false
set_option linter.all false
set_option maxRecDepth 100000
set_option maxHeartbeats 4000000
/-! raise X(e), X an own class over any built-in exception, with its own __init__ -/
namespace Ek
open PySem PySem.Spec PyProof.Rows L2
open PySem.W (Frag findIn subIn mroIn keepIn hasDictIn clsIn takerIn specialIn takesIn readsIn findCls kitOne excInitIn excOver)
/-- at a stands a new error of the class at C whose own dict, new too, holds v under f -/
def AttrNew (H0 H : Hp) (a C : Addr) (f : Str) (v : V) : Prop := ∃ d, H0 d = none ∧ d ≠ a ∧ H a = some (exo a C (some d)) ∧ H d = some (exd d [(f, v)])
/-- the promise of __init__(self, e): .. ; self.f = e -/
def spInitX (C : Addr) (f : Str) : Sp := fun vs H Q _ => ∃ (a : Addr) (y : V) (H0 : Hp), vs = [.ref a, y] ∧ H = upd H0 a (exo a C none) ∧ H0 a = none ∧ ∀ H', Same H0 H' → AttrNew H0 H' a C f y → Q .non H'
theorem init_endX {H0 : Hp} {a C d : Addr} {f : Str} {y : V} (h0 : H0 a = none) (hd : (upd H0 a (exo a C none)) d = none) (ne : d ≠ a) :
    Same H0 (upd (upd (upd H0 a (exo a C none)) a (exo a C (some d))) d (exd d [(f, y)])) ∧ AttrNew H0 (upd (upd (upd H0 a (exo a C none)) a (exo a C (some d))) d (exd d [(f, y)])) a C f y := by
  have hd0 : H0 d = none := by rwa [upd_ne ne] at hd
  refine ⟨fun b o e => ?_, d, hd0, ne, ?_, upd_same⟩
  · rw [upd_ne (ne_of_none e hd0), upd_ne (ne_of_none e h0), upd_ne (ne_of_none e h0)]
    exact e
  · rw [upd_ne (Ne.symm ne)]
    exact upd_same
section
variable {X : Cx} {o e : Expr} {es : List Expr} {to te : TE} {ta : TA} {f : Str} {p p' p1 p2 pos : Pos} {bmB : List Value} {B newId : String}
/-- raise X(e): the error leaves with its own dict, new, that holds e's value -/
def tRaiseE (C : Addr) (f : Str) (te : TE) : L2.St → Hp → XK → Prop := fun σ H Q => te σ H fun y H1 => ∀ d H', H1 d = none → Same H1 H' → H' d = some (.xd [(f, y)]) → Q (.ref C) (some d) H'
theorem pmk_raise {x f : Str} {C fI : Addr} {k : Nat} {fd : FuncData} {ps : List Str} {BN BI initId : String} {bN : List Value} (FN : ExcBaseFacts BN newId initId bN)
    (U : Above bmB BN BI) (T : EC X.K C bmB newId) (rs : Raises X (.ref C)) (iC : findIn X.K (.ref C) "__init__" = some (some (.ref fI))) (tI : PySem.W.typeIn X.K (.ref fI) = some (.type "function"))
    (F1 : FnOk X.prog X.w X.K X.mg X.base CX0 k fI fd ps (spInitX C f)) (hr : Room (k + 1) X.A) (hb : Binds X.K fd ps []) (hg : Gl X x) (hm : X.mg x = some (.ref C)) (he : PE X e te)
    (hdb : (x == ("__debug__" : Str)) = false := by decide) (hs : starEach [e] X.env = (false, eval e X.env) :: starEach [] X.env := by rfl) (hpl : (backTo pos (starEach [] X.env)).any (·.1) = false := by rfl) :
    PMk X (.Call (.Name x p) [e] [] pos) (tRaiseE C f te) := by
  intro pins s σ H Q I h
  refine wpAny_Call_Name_kw (ld_glob I hg hm ?_ hdb)
  refine PySem.W.callWith_K (h₀ := X.base) I.ok.mod.kin T.kC (thn ((pa_cons he pa_nil hs).run pos pins s σ H (fun vs H1 => match vs with
    | [y] => ∀ d H', H1 d = none → Same H1 H' → H' d = some (.xd [(f, y)]) → Q (.ref C) (some d) H'
    | _ => False) I h) fun us s1 ⟨vs, H1, I1, r1, q1⟩ => ⟨I1.kIn, ?_⟩) hs hpl
  dsimp only at q1
  split at q1
  case h_2 => exact q1.elim
  rename_i y
  show wpAny _ _ (call (.ref C) us) _ _ _
  obtain ⟨nm, N, qn, bs, bm, hd, sn, sub, ab, col, dd, k0, k1, k2, k3, k5, hC, hT⟩ := PySem.W.excInit_of I1.kIn T.q
  have U' : Above bm BN BI := ⟨(hT _).trans U.n, (hT _).trans U.i, (hT _).trans U.a, (hT _).trans U.u⟩
  obtain ⟨hp, g, dr, tk, os⟩ := s1
  have up : hp.objs.size ≤ hp.objs.size + 1 := Nat.le_succ _
  have hn : H1 (hp.objs.size + 1) = none := I1.hok.fresh up
  have grow : ∀ b o, hp.get? b = some o → ((hp.push (PySem.W.kdv_tup us)).push (PySem.HandSPX.excO C hp.objs.size)).get? b = some o := fun b o e => Heap.get?_push_of_some _ (Heap.get?_push_of_some _ e)
  have there : ((hp.push (PySem.W.kdv_tup us)).push (PySem.HandSPX.excO C hp.objs.size)).get? (hp.objs.size + 1) = some (PySem.HandSPX.excO C hp.objs.size) := by heap_get
  have I2 := I1.laid (t' := tk) (a := hp.objs.size + 1) (o := exo (hp.objs.size + 1) C none) (h' := (hp.push (PySem.W.kdv_tup us)).push (PySem.HandSPX.excO C hp.objs.size)) grow up (exo_ok there)
  have r2 : Vals (V.ref (hp.objs.size + 1) :: [y]) (Value.ref (hp.objs.size + 1) :: us) := .cons rfl r1
  have hq : spInitX C f (V.ref (hp.objs.size + 1) :: [y]) (upd H1 (hp.objs.size + 1) (exo (hp.objs.size + 1) C none)) (fun v H2 => v = .non ∧ ∃ (d : Addr) (fs : List (Str × V)), H2 (hp.objs.size + 1) = some (exo (hp.objs.size + 1) C (some d)) ∧ H2 d = some (exd d fs) ∧
      H1 d = none ∧ Q (.ref C) (some d) (upd (del H2 (hp.objs.size + 1)) d (.xd fs))) (fun _ _ _ => False) :=
    ⟨_, y, H1, rfl, rfl, hn, fun H2 s2 ⟨d, d0, ne, e1, e2⟩ => ⟨rfl, d, _, e1, e2, d0, q1 d _ d0 (fun b o e => by
      rw [upd_ne (ne_of_none e d0), del_ne (ne_of_none e hn)]
      exact s2 _ _ e) upd_same⟩⟩
  have hl : (Value.ref (hp.objs.size + 1) :: us ++ []).length = ps.length := by
    rw [List.append_nil, ← r2.length]
    exact F1.len _ _ _ _ hq
  have hus : us.length ≤ sizeLine := by
    rw [← Paired.length r1, sizeLine_eq]
    show 1 ≤ _
    omega
  have bd := hb ⟨(hp.push (PySem.W.kdv_tup us)).push (PySem.HandSPX.excO C hp.objs.size), g, dr, tk, os⟩ (Value.ref (hp.objs.size + 1) :: us) I2.kIn hl
  rw [List.append_nil] at bd
  refine wpAny_call (clsCalls FN U' hC (PySem.W.looks_findIn I1.kIn iC) (fun self => PySem.W.bind_fn I1.kIn self tI) hus
    (codeAny_mono (F1.run _ X.stack _ _ ⟨Value.ref (hp.objs.size + 1) :: us, []⟩ (Value.ref (hp.objs.size + 1) :: us) _ _ (fun _ _ _ => False) (hr.make C us []) (I2.env0.make C us []) bd r2 hq) fun r s' hq' => ?_))
  cases r with
  | error er => exact hq'.elim
  | ok fl =>
    cases fl with
    | ret u =>
      obtain ⟨v, H2, os2, bare2, un2, hok2, rv, ev, d, fs, ea, ed, hd1, q2⟩ := hq'
      subst ev
      obtain ⟨h2, g2, d2, t2, os'⟩ := s'
      exact ⟨rv, mk_end rs I1 up grow un2 hok2 os2 bare2 ea ed hd1 q2⟩
    | next => exact False.elim hq'
    | brk => exact False.elim hq'
    | cont => exact False.elim hq'
end
end Ek

set_option Elab.async false
set_option linter.all false
set_option maxRecDepth 100000
set_option maxHeartbeats 4000000
/-! several except clauses, some of them with a name -/
namespace TM
open PySem PySem.Spec PyProof.Rows L2
abbrev Cl := Value × Option Nat × (Addr → Value → Option Addr → TS)
/-- where a suite goes on whose name (slot i) goes behind it -/
def drop (o : Option Nat) (D : Ends) : Ends := match o with
  | none => D
  | some i => { nx := fun z H' => D.nx (z.set i none) H', rt := D.rt, bk := fun z H' => D.bk (z.set i none) H', ct := fun z H' => D.ct (z.set i none) H' }
def give (o : Option Nat) (a : Addr) (σ : L2.St) : L2.St := match o with
  | none => σ
  | some i => σ.set i (some (.ref a))
def wMix (K : PySem.W.Frag) (Wo : WX) (D : Ends) : List Cl → WX
  | [] => Wo
  | c :: r => fun cls d σ H => ∃ b, PySem.W.exmOne K cls c.1 = some b ∧ (b = true → ∀ a, H a = none → c.2.2 a cls d (drop c.2.1 D) (give c.2.1 a σ) H) ∧ (b = false → wMix K Wo D r cls d σ H)
/-- the suite of a clause keeps its reading -/
def SuiteOk (X : Cx) (body : List Stmt) (ts : Addr → Value → Option Addr → TS) : Prop :=
  ∀ (a : Addr) (oe : Obj) (cls : Value) (d : Option Addr) (pn : List (Addr × Obj)), Zc cls d oe → (∃ vs, oe.data = .fields vs) → PSs (X.suite a ((a, oe) :: pn)) body (ts a cls d)
inductive Hds (X : Cx) : List ExceptHandler → List Cl → Prop
  | nil : Hds X [] []
  | bare {x : Str} {c : Value} {ts} {b₀ : Stmt} {su : List Stmt} {np q : Pos} {hs : List ExceptHandler} {l : List Cl} (hc : Names X x c) (s : SuiteOk X (b₀ :: su) ts) (r : Hds X hs l) :
      Hds X (.ExceptHandler (some (.Name x np)) none (b₀ :: su) q :: hs) ((c, none, ts) :: l)
  | named {x n : Str} {c : Value} {i : Nat} {ts} {b₀ : Stmt} {su : List Stmt} {np q : Pos} {hs : List ExceptHandler} {l : List Cl} (nd : X.N.Nodup) (hi : X.N[i]? = some n) (hl : X.env.kindOf n = some .local) (hc : Names X x c) (s : SuiteOk X (b₀ :: su) ts) (r : Hds X hs l) :
      Hds X (.ExceptHandler (some (.Name x np)) (some n) (b₀ :: su) q :: hs) ((c, some i, ts) :: l)
section
variable {X : Cx}
theorem nameRead {x : Str} {c : Value} {np : Pos} {a : Addr} {oe : Obj} {pn : List (Addr × Obj)} {σ : L2.St} {H : Hp} {s : Shared} {Q E : Value → Shared → Prop} (hc : Names X x c) (S : Inv (X.suite a ((a, oe) :: pn)) [] σ H s)
    (q : Q c s) : wpAny (model X.prog X.w) (X.A.mark (some (.ref a))) (eval (.Name x np) X.env) Q E s := by
  rcases hc with ⟨g, nb, own | ⟨no, bv, nn⟩⟩
  · exact ld_glob (X := X.suite a ((a, oe) :: pn)) S g own q nb
  · exact ld_blt (X := X.suite a ((a, oe) :: pn)) S g no bv q nn nb
/-- no clause takes it -/
theorem passes {B : Heap} {Z : Obj → Prop} {a : Addr} {Q : Flow → Shared → Prop} {E : Value → Shared → Prop} {s' : Shared} {h3 : Heap} (hf : X.env.frame = some X.env.locals) (fl : HandSPX.FlyingZ B (X.env :: X.outer) a Z h3)
    (k : ∀ h4, HandSPX.HeldZ B (X.env :: X.outer) a Z X.env.locals h4 → h3.UpToSlots h4 → E (.ref a) { s' with heap := h4 }) :
    wpAny (model X.prog X.w) X.A (handleBy (.ref a) X.env []) Q E { s' with heap := h3 } := by
  refine wpAny_handleBy_nil ?_
  obtain ⟨_, _, _, _, _, T, _, _, he, _, hd, h1, _⟩ := id fl
  unfold PySem.passOn
  refine wpAny_bind (wpAny_field he hd h1 ?_)
  rw [if_neg (by simp : ¬ ((Value.ref T == Value.none) = true))]
  have out : wpAny (model X.prog X.w) X.A (setFlight (.ref a) X.env.frame) (fun _ s4 => wpAny (model X.prog X.w) X.A (throw (.ref a) : Sem Flow) Q E s4) E { s' with heap := h3 } := by
    rw [hf]
    exact HandSPX.setFlight_upZ fl fun h4 f4 u4 => wpAny_throw (k h4 f4 u4)
  first | exact wpAny_bind (wpAny_pure (wpAny_bind out)) | exact wpAny_bind out
theorem ps_try_mix {body : List Stmt} {h₀ : ExceptHandler} {hds : List ExceptHandler} {l : List Cl} {pos : Pos} {tb : WX → TS} {Wo : WX} (hs : X.stack = X.env :: X.outer) (hf : X.env.frame = some X.env.locals) (tk : Takes X Wo)
    (hb : ∀ (W : WX) (pn : List (Addr × Obj)) (xe : Value → Shared → Prop), Takes (X.tr pn xe) W → PassesOwn (model X.prog X.w) X.A X.env xe → PSs (X.tr pn xe) body (tb W)) (hh : Hds X (h₀ :: hds) l) :
    PS X (.Try body (h₀ :: hds) [] [] pos) (fun D σ H => tb (wMix X.K Wo D l) D σ H) := by
  refine ⟨fun pins s σ H D I h => ?_⟩
  have ok := I.ok
  have fr : X.A.frames = some (X.env :: X.outer) := by rw [ok.frames, hs]
  refine wpAny_Try_except (wpAny_mono ((hb (wMix X.K Wo D l) (X.pn ++ pins) _ ?caught PassesOwn.looking).run [] s σ H D (I.toTry _) h) (fun f s1 fin => ?done) fun _ _ z => z)
  case done =>
    cases f with
    | next => exact let ⟨z, Hz, J, q⟩ := fin; wpAny_execs_nil ⟨z, Hz, J.ofTry ok, q⟩
    | brk => exact let ⟨z, Hz, J, q⟩ := fin; ⟨z, Hz, J.ofTry ok, q⟩
    | cont => exact let ⟨z, Hz, J, q⟩ := fin; ⟨z, Hz, J.ofTry ok, q⟩
    | ret u => exact let ⟨v, z, Hz, J, r, q⟩ := fin; ⟨v, z, Hz, J.ofTry ok, r, q⟩
  case caught =>
    rintro u s' ⟨a, B, sI, _, z, Hz, cls, d, rfl, Jt, nb, up, sky, na, os, ag, w⟩
    have J : Inv X pins z Hz sI := Jt.ofTry ok
    rw [hs] at sky
    refine Sky.land Zc.steady fr hf sky fun h3 f3 u3 => ?_
    have J3 : Inv X pins z Hz { s' with heap := h3 } := J.landed nb f3.1 (up.trans u3) os ag
    have apart : ∀ {h : Heap} {o : Obj} {vs : Array Value}, h.FunFrames B (X.env :: X.outer) → h.get? a = some o → o.data = .fields vs → a ∉ frs (X.env :: X.outer) := fun ff e dd hm => by
      obtain ⟨_, o', e', hn⟩ := ff.mem hm
      cases e.symm.trans e'
      exact hn _ dd
    obtain ⟨o3, v3, e3, z3, d3⟩ := f3.there
    have nf := apart f3.2.2.1 e3 d3
    have nl : a ≠ X.env.locals := fun q => nf (List.mem_filterMap.mpr ⟨X.env, List.mem_cons_self, by rw [hf, q]⟩)
    have no : a ∉ X.fs := fun hm => let ⟨e, he, q⟩ := List.mem_filterMap.mp hm; nf (List.mem_filterMap.mpr ⟨e, List.mem_cons_of_mem _ he, q⟩)
    have S3 := J3.suite e3 d3 na nl no
    have LT : PySem.W.Looks (model X.prog X.w) h3 (typeOf (.ref a)) cls := fun A Q E s k q => wpAny_typeOf_ref (k _ _ e3) (by rw [z3.1]; exact q)
    -- once more held by the frame, with the suite's invariant
    have again : ∀ {h4 : Heap}, HandSPX.FlyingZ B (X.env :: X.outer) a (Zc cls d) h4 → h3.UpToSlots h4 → ∃ o4, Inv (X.suite a ((a, o4) :: (X.pn ++ pins))) [] z Hz { s' with heap := h4 } ∧ Zc cls d o4 ∧ ∃ vs, o4.data = .fields vs := fun {h4} f4 u4 => by
      obtain ⟨o4, v4, e4, z4, d4⟩ := f4.there
      have J4 : L2.Inv X pins z Hz { s' with heap := h4 } := J.landed nb f4.1 ((up.trans u3).trans u4) os ag
      exact ⟨o4, J4.suite e4 d4 na nl no, z4, _, d4⟩
    have go : ∀ {hs' : List ExceptHandler} {l' : List Cl}, Hds X hs' l' → wMix X.K Wo D l' cls d z Hz → wpAny (model X.prog X.w) X.A (handleBy (.ref a) X.env hs') (SP X pins D) X.xe { s' with heap := h3 } := by
      intro hs' l' hk
      induction hk with
      | nil =>
        intro w
        refine passes hf f3 fun h4 f4 u4 => tk _ _ ?_
        exact ⟨a, B, sI, pins, z, Hz, cls, d, rfl, J, nb, (up.trans u3).trans u4, .inr (.inr (by rw [hs]; exact f4)), na, os, ag, w⟩
      | bare hc hsu r ih =>
        rintro ⟨b, hb1, yes, nope⟩
        refine wpAny_handleBy_cons (codeAny_handlers_test (nameRead hc S3 ((PySem.W.exm_one (M := model X.prog X.w) J3.kIn LT hb1).here ?_))) (by intro q; cases q)
        cases b with
        | false => exact ih (nope rfl)
        | true =>
          refine codeAny_handlers_suite (HandSPX.lands_againZ f3 fun h4 f4 u4 => ?_)
          obtain ⟨o4, S4, z4, w4⟩ := again f4 u4
          refine wpAny_mono ((hsu a o4 cls d (X.pn ++ pins) z4 w4).run [] _ _ Hz _ S4 (yes rfl a na)) (fun f s6 fin => ?_) fun _ _ x => x.elim
          cases f with
          | next => exact let ⟨y, Hy, S, q⟩ := fin; ⟨y, Hy, S.unsuite ok, q⟩
          | brk => exact let ⟨y, Hy, S, q⟩ := fin; ⟨y, Hy, S.unsuite ok, q⟩
          | cont => exact let ⟨y, Hy, S, q⟩ := fin; ⟨y, Hy, S.unsuite ok, q⟩
          | ret u => exact let ⟨v, y, Hy, S, r, q⟩ := fin; ⟨v, y, Hy, S.unsuite ok, r, q⟩
      | @named x n c i ts b₀ su np pq hs2 l2 nd hi hl hc hsu r ih =>
        rintro ⟨b, hb1, yes, nope⟩
        refine wpAny_handleBy_cons (codeAny_handlers_test (nameRead hc S3 ((PySem.W.exm_one (M := model X.prog X.w) J3.kIn LT hb1).here ?_))) (by intro q; cases q)
        cases b with
        | false => exact ih (nope rfl)
        | true =>
          refine codeAny_handlers_suite_as (HandSPX.lands_againZ f3 fun h4 f4 u4 => ?_)
          obtain ⟨o4, S4, z4, w4⟩ := again f4 u4
          refine store_ok (X := X.suite a ((a, o4) :: (X.pn ++ pins))) (v := .ref a) S4 nd hi (.inl hl) rfl (fun s5 S5 => ?_) (.inr hl)
          refine wpAny_mono ((hsu a o4 cls d (X.pn ++ pins) z4 w4).run [] s5 _ Hz _ S5 (yes rfl a na)) (fun f s6 fin => ?_) fun _ _ x => x.elim
          have gone : ∀ {y : L2.St} {Hy : Hp} {Q : Shared → Prop}, Inv (X.suite a ((a, o4) :: (X.pn ++ pins))) [] y Hy s6 → (∀ s7, Inv X pins (y.set i none) Hy s7 → Q s7) →
              wpAny (model X.prog X.w) X.A (do bindName X.env n .none; unbindBehindTheSuite X.env n pq) (fun _ s7 => Q s7) X.xe s6 := fun S q => gone_ok (S.unsuite ok) nd hi hl q
          cases f with
          | next => exact let ⟨y, Hy, S, q⟩ := fin; gone S fun s7 J7 => ⟨_, _, J7, q⟩
          | brk => exact let ⟨y, Hy, S, q⟩ := fin; gone S fun s7 J7 => ⟨_, _, J7, q⟩
          | cont => exact let ⟨y, Hy, S, q⟩ := fin; gone S fun s7 J7 => ⟨_, _, J7, q⟩
          | ret u => exact let ⟨v, y, Hy, S, r, q⟩ := fin; gone S fun s7 J7 => ⟨_, _, _, J7, r, q⟩
    exact go hh w
end
end TM

set_option Elab.async false
set_option linter.all false
set_option maxRecDepth 100000
set_option maxHeartbeats 4000000
/-! t + u of any tuples; t[::-1] of a tuple. -/
namespace TO
open PySem PySem.Spec PyProof.Rows L2
def rCatE (K : PySem.W.Frag) : R2 := fun x y H Q => ∃ a b xs ys, x = .ref a ∧ y = .ref b ∧ SqT K H a xs ∧ SqT K H b ys ∧ xs.length + ys.length ≤ sizeLine ∧
  (xs = [] → Q (.ref b) H) ∧ (xs ≠ [] → ys = [] → Q (.ref a) H) ∧ (xs ≠ [] → ys ≠ [] → ∀ p, H p = none → Q (.ref p) (upd H p (.tup (xs ++ ys))))
theorem op_catE {X : Cx} : OpR X (binaryOp .Add) (rCatE X.K) := by
  intro pins s σ H x y v u Q I rx ry h
  obtain ⟨a, b, xs, ys, ex, ey, ha, hb, hz, q0, q1, q2⟩ := h
  by_cases hx : xs = []
  · subst ex ey
    cases rx
    cases ry
    obtain ⟨its, r1, p1, _⟩ := I.tuple ha
    obtain ⟨its2, r2, p2, _⟩ := I.tuple hb
    obtain ⟨⟨c1, d1, t1, l1⟩, ho, hc, n, hd⟩ := id p1
    obtain ⟨⟨c2, d2, t2, l2⟩, ho2, hc2, n2, hd2⟩ := id p2
    simp only at hc hd hc2 hd2
    subst hc hd hc2 hd2
    exact concat_meets ⟨_, ho, rfl⟩ ⟨_, ho2, rfl⟩ noFill_tuple_add seq_tuple_add PySem.F.slot_tuple_add PySem.F.entry_tuple_add (PySem.F.args_tuple_add_2 _ _)
      (tuple_addW0 a b its.toArray its2.toArray n n2 d1 d2 l1 l2 (by simpa using r1.nil_iff.mpr hx)) ⟨ho, ho2, ⟨.ref b, H, I, rfl, q0 hx⟩⟩
  · exact op_catT pins s σ H x y v u Q I rx ry ⟨a, b, xs, ys, ex, ey, ha, hb, hx, hz, q1 hx, q2 hx⟩
section
variable {prog : Program} {w : World} {A : Around} {E : Value → Shared → Prop} {s : Shared}
theorem applied_rev {sl : Addr} {vs : Value} {n : Nat} {Q : Int × Int × Nat → Shared → Prop} (hs : s.heap.IsSliceOf sl .none .none vs) (pk : IsPart vs (some (-1))) (h : Q ((n : Int) - 1, -1, n) s) :
    wpAny (model prog w) A (Builtin.Slice.sliceApplied (.ref sl) (pure (n : Int))) Q E s := by
  obtain ⟨os, hos, hcs, hds⟩ := id hs
  unfold Builtin.Slice.sliceApplied Builtin.Slice.sliceFields
  refine wpAny_bind (wpAny_bind (wpAny_field hos hds (x := .none) rfl (wpAny_bind (wpAny_field hos hds (x := .none) rfl (wpAny_bind (wpAny_field hos hds (x := vs) rfl (wpAny_pure ?_)))))))
  refine wpAny_bind (HT.slicePart_ pk ?_)
  show wpAny _ _ (if ((-1 : Int) == 0) = true then _ else _) _ _ s
  rw [if_neg (by decide)]
  refine wpAny_bind (HT.slicePart_ .none (wpAny_bind (HT.slicePart_ .none (wpAny_bind (wpAny_pure ?_)))))
  show wpAny _ _ (pure ((n : Int) - 1, (-1 : Int), Builtin.Slice.slicePlaces ((n : Int) - 1) (-1) (-1))) _ _ s
  have e : Builtin.Slice.slicePlaces ((n : Int) - 1) (-1) (-1) = n := by
    unfold Builtin.Slice.slicePlaces
    rw [if_neg (by decide)]
    by_cases c : (n : Int) - 1 > -1
    · rw [if_pos c]
      simp
    · rw [if_neg c]
      omega
  rw [e]
  exact wpAny_pure h
theorem fm_congr {α β : Type} {f g : α → Option β} : ∀ {l : List α}, (∀ x ∈ l, f x = g x) → l.filterMap f = l.filterMap g
  | [], _ => rfl
  | x :: r, h => by
    rw [List.filterMap_cons, List.filterMap_cons, h x List.mem_cons_self, fm_congr fun y hy => h y (List.mem_cons_of_mem _ hy)]
theorem pick_rev (xs : Array Value) : ((List.range xs.size).filterMap fun (k : Nat) => xs[((xs.size : Int) - 1 + (k : Int) * (-1)).toNat]?).toArray = xs.toList.reverse.toArray := by
  refine congrArg List.toArray ?_
  refine List.ext_getElem? fun i => ?_
  have all : ((List.range xs.size).filterMap fun (k : Nat) => xs[((xs.size : Int) - 1 + (k : Int) * (-1)).toNat]?) = (List.range xs.size).map fun k => xs.toList.getD (xs.size - 1 - k) Value.none := by
    rw [← List.filterMap_eq_map]
    refine fm_congr fun k hk => ?_
    have hk' : k < xs.size := List.mem_range.mp hk
    have e : ((xs.size : Int) - 1 + (k : Int) * (-1)).toNat = xs.size - 1 - k := by omega
    rw [e]
    have l : xs.size - 1 - k < xs.size := by omega
    simp [List.getD_eq_getElem?_getD, l]
  rw [all, List.getElem?_map]
  by_cases h : i < xs.size
  · rw [List.getElem?_range h, List.getElem?_reverse (by simpa using h)]
    have l : xs.size - 1 - i < xs.size := by omega
    simp [List.getD_eq_getElem?_getD, l]
  · rw [List.getElem?_eq_none (by simpa using h), List.getElem?_eq_none (by simpa using h)]
    rfl
theorem getItem_rev {t sl : Addr} {items : Array Value} {vs : Value} {Q : Value → Shared → Prop} (ht : IsTup s.heap t items) (hs : s.heap.IsSliceOf sl .none .none vs) (pk : IsPart vs (some (-1)))
    (h : Q (.ref s.heap.objs.size) { s with heap := s.heap.push { cls := .type "tuple", data := .seq items.toList.reverse.toArray } }) (hsz : items.size ≤ sizeLine) : wpAny (model prog w) A (getItem (.ref t) (.ref sl)) Q E s := by
  have fits : sizeOk (.seq items.toList.reverse.toArray) := by
    show items.toList.reverse.toArray.size ≤ sizeLine
    rw [List.size_toArray, List.length_reverse, Array.length_toList]
    exact hsz
  obtain ⟨os, hos, hcs, hds⟩ := id hs
  have kind : s.TypeIs (.ref sl) "slice" := ⟨os, hos, hcs⟩
  unfold getItem
  try with_reducible refine wpAny_holding ?_
  first | refine wpAny_bind (wpAny_pure ?_) | skip
  refine wpAny_bind (wpAny_sequenceKey ht.typeIs (by decide) (wpAny_bind (wpAny_callSpecial?_slot (name := Str.ofString "__getitem__") ht.typeIs PyProof.Rows.slot_tuple_getitem
    (wpAny_call_entry PyProof.Rows.slot_tuple_getitem ht.typeIs entry_tuple_getitem ?_ (args_tuple_getitem _ _)))))
  show wpAny _ _ (Builtin.Tuple.tupleItemsOf (.ref t) >>= _) _ _ s
  refine wpAny_bind (tupleItemsOf_ ht (wpAny_bind (wpAny_typeOf kind ?_)))
  rw [if_pos (by decide)]
  refine wpAny_bind (applied_rev hs pk ?_)
  show wpAny _ _ (if ((items.size : Int) - 1 == 0 && (-1 : Int) == 1 && items.size == items.size) = true then _ else _) _ _ s
  rw [if_neg (by simp), pick_rev]
  first
    | exact wpAny_bind (m := Builtin.Tuple.tupleExact _) (wpAny_newObj_type (wpAny_pure ⟨_, rfl, wpAny_pure h⟩) fits)
    | exact wpAny_bind (m := Builtin.Tuple.tupleExact _) (wpAny_newObj_type (wpAny_bind (wpAny_pure (wpAny_pure ⟨_, rfl, wpAny_pure h⟩))) fits)
    | exact wpAny_bind (wpAny_bind (m := Builtin.Tuple.tupleExact _) (wpAny_newObj_type (wpAny_pure (wpAny_pure ⟨_, rfl, wpAny_pure h⟩)) fits))
    | exact wpAny_bind (wpAny_bind (m := Builtin.Tuple.tupleExact _) (wpAny_newObj_type (wpAny_pure ⟨_, rfl, wpAny_pure h⟩) fits))
end
/-- t[::-1] -/
def tRevT (K : PySem.W.Frag) (te : TE) : TE := fun σ H Q => te σ H fun x H1 => ∃ a xs, x = .ref a ∧ SqT K H1 a xs ∧ ∀ p, H1 p = none → Q (.ref p) (upd H1 p (.tup xs.reverse))
theorem pe_revT {X : Cx} {e : Expr} {te : TE} {k : Nat} {p1 p2 p3 pos : Pos} (he : PE X e te) : PE X (.Subscript e (.Slice none none (some (.UnaryOp .USub (.Constant (.int 1) k p1) p2)) p3) pos) (tRevT X.K te) := by
  refine ⟨fun pins s σ H Q I h => Subscript_ (thn (he.run pins s σ H _ I h) fun v s1 ⟨x, H1, I1, r1, q1⟩ => ?_)⟩
  obtain ⟨a, xs, ex, hx, q⟩ := q1
  subst ex
  cases r1
  have last : PO X (some (.UnaryOp .USub (.Constant (.int 1) k p1) p2)) (tPart (tUn (rU fun i => .int (-i)) (tC (.int 1)))) := po_some (pe_un un_neg pe_int)
  refine wpAny_Slice (thn (po_none.run pins s1 σ H1 (fun o H2 => o = none ∧ H2 = H1) I1 ⟨rfl, rfl⟩) fun vl s2 ⟨l, H2, I2, pl, el, e2⟩ => ?_)
  subst el
  subst e2
  refine thn (po_none.run pins s2 σ H2 (fun o H3 => o = none ∧ H3 = H2) I2 ⟨rfl, rfl⟩) fun vu s3 ⟨u, H3, I3, pu, eu, e3⟩ => ?_
  subst eu
  subst e3
  refine thn (last.run pins s3 σ H3 (fun o H4 => o = some (-1) ∧ H4 = H3) I3 ⟨1, rfl, -1, rfl, rfl, rfl⟩) fun vs s4 ⟨o, H4, I4, ps, eo, e4⟩ => ?_
  subst eo
  subst e4
  cases pl
  cases pu
  have I5 : Inv X pins σ H4 { s4 with heap := s4.heap.push { cls := .type "slice", data := .fields #[.none, .none, vs] } } := I4.kept (t' := s4.toks) fun b ob q => Heap.get?_push_of_some _ q
  obtain ⟨its, r, ht, hz⟩ := I5.tuple hx
  have hlen := r.length
  show wpAny (model X.prog X.w) X.A (subscriptTail e (.Slice none none (some (.UnaryOp .USub (.Constant (.int 1) k p1) p2)) p3) (.ref a) (.ref s4.heap.objs.size)) (EP X pins σ Q) X.xe { s4 with heap := s4.heap.push { cls := .type "slice", data := .fields #[.none, .none, vs] } }
  refine tail_any (ops := [.ref a, .ref s4.heap.objs.size]) ht.typeIs PyProof.Rows.slot_tuple_getitem.lookup ?_ (by with_unfolding_all rfl)
  refine getItem_rev ht (Heap.IsSliceOf.new _ .none .none vs) ps ?_ (by rw [List.size_toArray]; omega)
  refine ⟨.ref _, _, I5.laid (t' := s4.toks) (o := .tup xs.reverse) (fun b ob q => Heap.get?_push_of_some _ q) (Nat.le_refl _) ?_, rfl, q _ (I5.hok.fresh (Nat.le_refl _))⟩
  exact ⟨by rw [List.length_reverse]; exact hz, _, r.reverse, IsTup.new _ _⟩
end TO

set_option Elab.async false
set_option linter.all false
set_option maxRecDepth 100000
set_option maxHeartbeats 4000000
/-! the methods of Bounds: &, least, zero -/
namespace Bd
open PySem PySem.Spec PyProof.Rows L2 Wd Br
section
variable {P : Program} {w : World} {K : PySem.W.Frag} {mg : Str → Option Value} {base : Heap} {fI fR fT fB fL fC fZ C CIB CIO CIN f1 f2 : Addr}
theorem scCheck : FnScope ["bounds", "other"] ["bounds", "other"] (defScope sCheckClocks) := ⟨rfl, rfl, rfl, by decide +kernel, rfl, by decide +kernel, by decide +kernel⟩
theorem ok_check {f : Addr} {fd fdL : FuncData} (F : Fun K "check_clocks" "check_clocks" sCheckClocks f fd) (Y : CTxt K mg C f1 f2) (isin : mg "isinstance" = none) (ml : mg "len" = none) (D : OO.Dun K C "__len__" fL) (GL : FnOk P w K mg base CX0 1 fL fdL ["self"] (spLenB C)) (bL : Binds K fdL ["self"] []) :
    FnOk P w K mg base CX0 3 f fd ["bounds", "other"] (spCheck C) := by
  refine F.ok scCheck (fun vs H Q E h => ?_) (fun cdv A outer s H vs Q E hr h => ?_)
  · obtain ⟨p, q, n, t, u, rfl, _⟩ := h
    rfl
  · obtain ⟨p, q, n, t, u, rfl, bp, bq, hn, k⟩ := h
    obtain ⟨dx, a, ha, mt⟩ := id bp
    obtain ⟨dy, b, hb, mu⟩ := id bq
    refine ⟨_, pss_one (ps_if (PW.pt (pw_or (pt_not (pt_val (pe_callB call_isi (by rfl) isin (by decide +kernel) (pa_cons (pv 1) (pa_cons (pe_gcon rfl ⟨_, Y.mgC, (show RelV (.ref C) (.ref C) from rfl)⟩) pa_nil))))) (pw_or1 (pt_cmpR op_ne (pe_callB (OO.len_own D GL hr bL pass0) (by rfl) ml PySem.boot_len (pa_cons (pv 0) pa_nil)) (pe_callB (OO.len_own D GL hr bL pass0) (by rfl) ml PySem.boot_len (pa_cons (pv 1) pa_nil)) (nomark _))))) (pss_one ps_never) pss_nil), ?_⟩
    refine ⟨_, rfl, .ref q, .ref C, .ref C, .ref C, true, rfl, .own C, Y.ty hb, Y.kC, _, rfl, iteF ?_⟩
    refine ⟨_, rfl, p, dx, _, rfl, ha, p, n, t, rfl, bp, hn, fun H1 s1 => ⟨n, rfl, by omega, ?_⟩⟩
    refine ⟨_, rfl, q, dy, _, rfl, s1 _ _ hb, q, n, u, rfl, bq.mono (Kp.of s1), hn, fun H2 s2 => ⟨n, rfl, by omega, rfl, _, rfl, ?_⟩⟩
    refine ite2 (fun c => ?_) (fun _ => k _ (s1.trans s2))
    simp at c
abbrev nAnd : List Str := ["self", "other", "rows"]
theorem scAnd : FnScope nAnd ["self", "other"] (defScope cBounds_and) := ⟨rfl, rfl, rfl, by decide +kernel, rfl, by decide +kernel, by decide +kernel⟩
theorem ok_and {f : Addr} {fd fdC fdB fdI : FuncData} (F : Fun K "__and__" "Bounds.__and__" cBounds_and f fd) (Y : CTxt K mg C f1 f2) (GC : At_ P w K mg base CX0 3 "check_clocks" fC fdC ["bounds", "other"] (spCheck C)) (GB : At_ P w K mg base CX0 2 "both_rows" fB fdB ["rows", "others"] (spBoth K))
    (GI : FnOk P w K mg base (L2.CX P w) 4 f1 fdI ["self", "rows"] (spInitB K C CIB)) (bI : Binds K fdI ["self", "rows"] []) : FnOk P w K mg base (L2.CX P w) 6 f fd ["self", "other"] (spAnd C CIB) := by
  refine F.okX scAnd (fun vs H Q E h => ?_) (fun cdv A outer s H vs Q E hr h => ?_)
  · obtain ⟨p, q, n, t, u, rfl, _⟩ := h
    rfl
  · obtain ⟨p, q, n, t, u, rfl, bp, bq, hn, ib, iu, yes, no⟩ := h
    obtain ⟨dx, a, ha, mt⟩ := id bp
    obtain ⟨dy, b, hb, mu⟩ := id bq
    refine ⟨_, pss_cons (ps_expr (pe_call GC.g (hr.mono (by decide)) rfl GC.m GC.kp GC.b .nil pass0 (pa_cons (pv 0) (pa_cons (pv 1) pa_nil))))
      (pss_cons (ps_set (i := 2) scAnd.nd rfl (Or.inl rfl) (pe_call GB.g (hr.mono (by decide)) rfl GB.m GB.kp GB.b .nil pass0 (pa_cons (pe_fld (pv 0) rfl) (pa_cons (pe_fld (pv 1) rfl) pa_nil))))
      (pss_one (ps_ret (pe_ifExp (pt_cmp (pc_isN (pv 2)) rfl) pe_non (pe_make Y.mak GI hr rfl Y.mgC bI .nil (passes_call (takes_of rfl rfl rfl rfl) (fun _ _ _ _ h => h)) (pa_cons (pv 2) pa_nil)))))), ?_⟩
    refine ⟨_, rfl, _, rfl, p, q, n, t, u, rfl, bp, bq, hn, fun H1 s1 => ?_⟩
    refine ⟨_, rfl, p, C, dx, _, _, rfl, s1 _ _ ha, Y.cl, Y.nR, bf_rows a, _, rfl, q, C, dy, _, _, rfl, s1 _ _ hb, Y.cl, Y.nR, bf_rows b, ?_⟩
    refine ⟨a, b, n + 1, t, u, rfl, mt.mono (Kp.of s1), mu.mono (Kp.of s1), by omega, by omega, fun z a' H2 s2 tz mz => ?_, fun H2 s2 nf => ?_⟩
    · refine ⟨_, rfl, _, rfl, iteF ⟨_, rfl, fun x dz hx hd ne => ?_⟩⟩
      refine newB_reads hx hd ne (by decide) (mz.dat (by omega)) (fun a2 k M t2 b2 H3 e m2 k1 k2 ib2 tt s3 bd3 => ?_) fun H3 s3 nf => ?_
      · cases e
        obtain ⟨rfl, eq⟩ := mz.uniq m2
        have tz2 : EqM (n + 1) t2 z := tt.uniq ⟨tz.cl, fun p => (pot_eq eq)⟩
        exact yes z b2 H3 (s1.trans (s2.trans s3)) tz (let ⟨d3, a3, h3, m3⟩ := bd3; ⟨d3, a3, h3, m3.ext tz2⟩)
      · exact (nf ⟨a', n + 1, z, rfl, mz, by omega, by omega, (ib.mn2 iu).tight tz, closed_feas tz.cl (by omega)⟩).elim
    · exact ⟨_, rfl, _, rfl, iteT (no H2 (s1.trans s2) nf)⟩
abbrev nLeast : List Str := ["self", "most"]
theorem scLeast : FnScope nLeast ["self"] (defScope cBounds_least) := ⟨rfl, rfl, rfl, by decide +kernel, rfl, by decide +kernel, by decide +kernel⟩
theorem ok_least {f : Addr} {fd : FuncData} (F : Fun K "least" "Bounds.least" cBounds_least f fd) (Y : CTxt K mg C f1 f2) (tup : mg "tuple" = none) : FnOk P w K mg base CX0 1 f fd ["self"] (spLeast C) := by
  refine F.ok scLeast (fun vs H Q E h => ?_) (fun cdv A outer s H vs Q E hr h => ?_)
  · obtain ⟨p, n, t, rfl, _⟩ := h
    rfl
  · obtain ⟨p, n, t, rfl, ⟨dx, a, ha, mt⟩, hn, k⟩ := h
    have nd := scLeast.nd
    refine ⟨_, pss_one (ps_ret (pe_callTy (r := rTupQ K) call_tuple_of (by rfl) tup (by decide +kernel) (pa_cons (pe_lc (own := [("most", 1)]) (g := gName 1) (tt := tYes) rfl nd (pi_tup (pe_slice sl_tup (pe_ix (r := rIxT K) ix_tup (pe_fld (pv 0) rfl) pe_int (fun _ _ => rfl)) (po_some pe_int) po_none)) (blkOk_by (N := nLeast) (sc := defScope cBounds_least) (by decide +kernel))
        (fun _ _ _ _ _ => pg_name (i := 1) nd rfl (Or.inl rfl)) (fun _ _ _ _ _ => pts_nil) (fun _ _ _ _ _ => pe_un un_neg (pv 1))) pa_nil))), ?_⟩
    obtain ⟨rs, b, q, l, at0, qb⟩ := mt.at_ (K := K) (i := 0) (by omega)
    obtain ⟨c1, c2⟩ := cut_tail (xs := rowV (n + 1) (t 0)) (by rw [rowV_len]; omega)
    refine ⟨_, rfl, p, C, dx, _, _, rfl, ha, Y.cl, Y.nR, bf_rows a, a, rs, _, _, rfl, rfl, SqT.of q, at0, _, rfl, b, _, rfl, SqT.of qb, c2, fun z hz => ?_⟩
    rw [c1, rowV_tail]
    have s1 := same_new (o := .tup (rowV n fun j => t 0 (j + 1))) hz
    have qz : (upd H z (.tup (rowV n fun j => t 0 (j + 1)))) z = some (.tup (rowV n fun j => t 0 (j + 1))) := upd_same
    generalize upd H z (.tup (rowV n fun j => t 0 (j + 1))) = H1 at s1 qz
    refine ⟨z, rfl, ⟨_, SqT.of qz⟩, fun D hD => ?_⟩
    have lz : (rowV n fun j => t 0 (j + 1)).length = n := rowV_len
    refine lc_ints (n := (rowV n fun j => t 0 (j + 1)).length) (walk_tup (K := K) (a := z) (xs := rowV n fun j => t 0 (j + 1))) (fun j => -t 0 (j + 1)) hD (by omega) (fun H2 s2 => SqT.of (s2 _ _ qz)) ?_ ?_
    · rintro i x H2 H' kT hi s2 ⟨rfl, hx⟩ h
      rw [rowV_get (by omega)] at hx
      cases hx
      exact ⟨rfl, _, rfl, _, rfl, h _ (Same.refl _)⟩
    · intro H2 s2 hD2
      rw [lz] at hD2
      exact ⟨D, _, rfl, .inl ⟨SqL.of hD2, fun c hc => k c _ (s1.trans (s2.trans (same_new hc))) upd_same⟩⟩
end
end Bd

set_option Elab.async false
set_option linter.all false
set_option maxRecDepth 100000
set_option maxHeartbeats 4000000
/-! Bounds.zero; the law's makers -/
namespace Bd
open PySem PySem.Spec PyProof.Rows L2 Wd Br
def Btw (v : V) (lo hi : Int) : Prop := ∃ i, v = .int i ∧ -ten60 < i ∧ i < ten60 ∧ lo ≤ i ∧ i ≤ hi
def spBet (K : PySem.W.Frag) : Sp := fun vs H Q _ => ∃ (v : V) (lo hi : Int), vs = [v, .int lo, .int hi] ∧ IntV K H v ∧ ∀ b, (b = true ↔ Btw v lo hi) → Q (.bl b) H
/-- an own error that keeps its one argument -/
structure ErrE (P : Program) (w : World) (K : PySem.W.Frag) (mg : Str → Option Value) (base : Heap) (x f : Str) (C : Addr) (BN BI initId newId : String) (bN bmB : List Value) (ps : List Str) : Prop where
  g : mg x = some (.ref C)
  FN : ExcBaseFacts BN newId initId bN
  U : Ek.Above bmB BN BI
  T : Ek.EC K C bmB newId
  b : PySem.W.subIn K (.ref C) (.type "BaseException") = some true
  t : PySem.W.typeIn K (.ref C) = some (.type "type")
  i : ∃ fI fd, PySem.W.findIn K (.ref C) "__init__" = some (some (.ref fI)) ∧ PySem.W.typeIn K (.ref fI) = some (.type "function") ∧ FnOk P w K mg base CX0 1 fI fd ps (Ek.spInitX C f) ∧ Binds K fd ps []
/-- what an error told under E: its own dict holds the value -/
def Told (E : XK) (H : Hp) (C : Addr) (f : Str) (y : V) : Prop := ∀ d H', H d = none → Same H H' → H' d = some (.xd [(f, y)]) → E (.ref C) (some d) H'
abbrev rTail : List Value := [.type "RuntimeError", .type "Exception", .type "BaseException", .type "object"]
abbrev ErrN (P : Program) (w : World) (K : PySem.W.Frag) (mg : Str → Option Value) (base : Heap) (C : Addr) : Prop := ∃ BN BI initId newId, ∃ bN bmB, ErrE P w K mg base "InvalidNumber" "value" C BN BI initId newId bN bmB ["self", "value"]
def spZeroB (K : PySem.W.Frag) (C CIN : Addr) : Sp := fun vs H Q E => ∃ y, vs = [.ref C, y] ∧ IntV K H y ∧ (¬ (∃ k : Nat, y = .int (k : Int) ∧ k ≤ 12) → Told E H CIN "value" y) ∧
  (∀ (k : Nat) b H', y = .int (k : Int) → k ≤ 12 → Same H H' → BdAt C H' b (k + 1) zeroM → Q (.ref b) H')
theorem zero_closed (n : Nat) : Closed n zeroM := ⟨fun _ _ => rfl, fun _ _ _ _ _ _ => (by decide : (0 : Int) ≤ 0 + 0)⟩
theorem zero_inb (n : Nat) : InB n zeroM := fun _ _ _ _ => ⟨(by decide +kernel : -ten60 < 0), (by decide +kernel : (0 : Int) < ten60)⟩
/-- what leaves through W wherever the names stand -/
abbrev anyE (W : WX) (n : Nat) : XK := fun cls d H => ∀ σ : L2.St, σ.length = n → W cls d σ H
theorem passLen {X : Cx} {W : WX} {n : Nat} (tk : Takes X W) (hn : X.N.length = n) : Passes (L2.CX X.prog X.w) X (anyE W n) := fun pins σ H s e s' I c => tk e s' (XE.of_call I (fun cls d H' h => h σ (I.len.trans hn)) c)
def spMade (C : Addr) : Sp := fun vs H Q _ => ∃ (v : V) (m n : Nat), vs = [v] ∧ m ≤ 1000 ∧ Dat noT [] H m n v ∧
  (∀ (a : Addr) (k : Nat) (M t : Mx) (b : Addr) H', v = .ref a → MatT H a k M → 1 ≤ k → k ≤ 13 → InB k M → Tight k M t → Same H H' → BdAt C H' b k t → Q (.ref b) H') ∧ (∀ H', Same H H' → ¬ Fine H v → Q .non H')
def spLZero (K : PySem.W.Frag) (C : Addr) : Sp := fun vs H Q _ => ∃ y, vs = [y] ∧ IntV K H y ∧ (¬ (∃ k : Nat, y = .int (k : Int) ∧ k ≤ 12) → ∀ p H', Same H H' → H' p = some (.tup [.str "error", y]) → Q (.ref p) H') ∧
  (∀ (k : Nat) p b H', y = .int (k : Int) → k ≤ 12 → Same H H' → H' p = some (.tup [.str "bounds", .ref b]) → BdAt C H' b (k + 1) zeroM → Q (.ref p) H')
section
variable {P : Program} {w : World} {K : PySem.W.Frag} {mg : Str → Option Value} {base : Heap} {fI fR fT fB fL fC fZ pZ gZ C CIB CIO CIN f1 f2 : Addr}
theorem scBetween : FnScope ["value", "least", "most"] ["value", "least", "most"] (defScope sIsBetween) := ⟨rfl, rfl, rfl, by decide +kernel, rfl, by decide +kernel, by decide +kernel⟩
theorem ok_bet {f : Addr} {fd fdI : FuncData} (F : Fun K "is_between" "is_between" sIsBetween f fd) (GI : At_ P w K mg base CX0 1 "is_integer" fI fdI ["value"] (spInt K)) :
    FnOk P w K mg base CX0 2 f fd ["value", "least", "most"] (spBet K) := by
  refine F.ok scBetween (fun vs H Q E h => ?_) (fun cdv A outer s H vs Q E hr h => ?_)
  · obtain ⟨v, lo, hi, rfl, _⟩ := h
    rfl
  · obtain ⟨v, lo, hi, rfl, iv, k⟩ := h
    refine ⟨_, pss_one (ps_ret (pe_and (pe_call GI.g hr rfl GI.m GI.kp GI.b .nil pass0 (pa_cons (pv 0) pa_nil)) (pe_one (pe_chain op_le op_le (pv 1) (pv 0) (pv 2))))), ?_⟩
    refine ⟨_, rfl, v, rfl, iv, fun b hb => ⟨b, rfl, ?_⟩⟩
    cases b with
    | false => exact iteF (k _ (nay fun ⟨i, e, h1, h2, _⟩ => Bool.noConfusion (hb.mpr ⟨i, e, h1, h2⟩)))
    | true =>
      obtain ⟨i, rfl, h1, h2⟩ := hb.mp rfl
      refine iteT ⟨_, rfl, _, rfl, _, _, rfl, rfl, _, rfl, ?_⟩
      refine ite2 (fun c => ?_) (fun c => ?_)
      · refine ⟨_, rfl, _, _, rfl, rfl, k _ ?_⟩
        rw [decide_eq_true_iff]
        exact ⟨fun q => ⟨i, rfl, h1, h2, of_decide_eq_true c, q⟩, fun ⟨j, e, _, _, _, q⟩ => by cases e; exact q⟩
      · refine k _ (nay fun ⟨j, e, _, _, q, _⟩ => c ?_)
        cases e
        exact decide_eq_true q
theorem scZeroB : FnScope ["cls", "many"] ["cls", "many"] (defScope cBounds_zero) := ⟨rfl, rfl, rfl, by decide +kernel, rfl, by decide +kernel, by decide +kernel⟩
theorem ok_zeroB {f : Addr} {fd fdB fdI fdZ : FuncData} (F : Fun K "zero" "Bounds.zero" cBounds_zero f fd) (X : BTxt mg fI) (Y : CTxt K mg C f1 f2) (EN : ErrN P w K mg base CIN) (GB : At_ P w K mg base CX0 2 "is_between" fB fdB ["value", "least", "most"] (spBet K))
    (GZ : At_ P w K mg base CX0 1 "zero_rows" fZ fdZ ["many"] (spZeroR K)) (GI : FnOk P w K mg base (L2.CX P w) 4 f1 fdI ["self", "rows"] (spInitB K C CIB)) (bI : Binds K fdI ["self", "rows"] []) :
    FnOk P w K mg base (L2.CX P w) 6 f fd ["cls", "many"] (spZeroB K C CIN) := by
  obtain ⟨BN, BI, initId, newId, bN, bmB, EN⟩ := EN
  obtain ⟨fJ, fdJ, iC, tI, GJ, bJ⟩ := EN.i
  refine F.okX scZeroB (fun vs H Q E h => ?_) (fun cdv A outer s H vs Q E hr h => ?_)
  · obtain ⟨y, rfl, _⟩ := h
    rfl
  · obtain ⟨y, rfl, iv, no, yes⟩ := h
    refine ⟨_, pss_cons (ps_if (pt_not (pt_val (pe_call GB.g (hr.mono (by decide)) rfl GB.m GB.kp GB.b .nil pass0 (pa_cons (pv 1) (pa_cons pe_int (pa_cons (pe_gcon rfl X.mc) pa_nil)))))) (pss_one (ps_raise rfl (takes_of rfl rfl rfl rfl) (Ek.pmk_raise EN.FN EN.U EN.T (raises_own EN.b EN.t) iC tI GJ (hr.mono (by decide)) bJ rfl EN.g (pv 1)))) pss_nil)
      (pss_one (ps_ret (pe_makeL (i := 0) Y.mak GI hr rfl (.inl rfl) bI .nil (passes_call (takes_of rfl rfl rfl rfl) (fun _ _ _ _ h => h)) (pa_cons (pe_call GZ.g (hr.mono (by decide)) rfl GZ.m GZ.kp GZ.b .nil pass0 (pa_cons (pv 1) pa_nil)) pa_nil)))), ?_⟩
    refine ⟨_, rfl, y, 0, 12, rfl, iv, fun b hb => ⟨b, rfl, ?_⟩⟩
    cases b with
    | false =>
      refine iteT ⟨_, rfl, no fun ⟨k, e, hk⟩ => Bool.noConfusion (hb.mpr ⟨_, e, ?_, ?_, by omega, by omega⟩)⟩
      · exact Int.lt_of_lt_of_le (by decide +kernel : -ten60 < 0) (by omega)
      · exact Int.lt_of_le_of_lt (by omega : (k : Int) ≤ 12) (by decide +kernel)
    | true =>
      obtain ⟨i, rfl, _, _, i0, i1⟩ := hb.mp rfl
      obtain ⟨k, rfl⟩ := Int.eq_ofNat_of_zero_le i0
      have hk : k ≤ 12 := by omega
      refine iteF ⟨rfl, _, rfl, k, rfl, hk, fun a H1 s1 mz x dz hx hd ne => ?_⟩
      refine newB_reads hx hd ne (by decide) (mz.dat (by omega)) (fun a2 k2 M t2 b2 H3 e m2 _ _ ib2 tt s3 bd3 => ?_) fun H3 s3 nf => ?_
      · cases e
        obtain ⟨rfl, eq⟩ := mz.uniq m2
        have tz2 : EqM (k + 1) t2 zeroM := tt.uniq ⟨zero_closed _, fun p => pot_eq eq⟩
        exact yes k b2 H3 rfl hk (s1.trans s3) (let ⟨d3, a3, h3, m3⟩ := bd3; ⟨d3, a3, h3, m3.ext tz2⟩)
      · exact (nf ⟨a, k + 1, zeroM, rfl, mz, by omega, by omega, zero_inb _, closed_feas (zero_closed _) (by omega)⟩).elim
end
end Bd

set_option Elab.async false
set_option linter.all false
set_option maxRecDepth 100000
set_option maxHeartbeats 4000000
namespace Wd
open PySem L2
theorem at_nn {α : Type} {xs : List α} {r : Int} {v : α} (h0 : 0 ≤ r) (h : xs[r.toNat]? = some v) : atI xs r = some v := by
  have := atI_nat (xs := xs) h
  rwa [Int.toNat_of_nonneg h0] at this
/-! ### numbers -/
theorem op_powB {X : Cx} : OpR X (binaryOp .Pow) (rI (fun i j => 0 ≤ j ∧ (Builtin.Int.intBits i : Int) * j ≤ 2 ^ 27) fun i j => .int (i ^ j.toNat)) :=
  opI fun _ _ _ _ _ _ _ hc q => PyProof.Rows.pow_int hc.1 hc.2 q
abbrev ten61 : Int := 10 ^ 61
theorem ten61_pos : (0 : Int) < ten61 := by decide +kernel
theorem ten61_log : ten61.natAbs.log2 < 9000 := by decide +kernel
theorem great_pos : (0 : Int) < (10 ^ (60 : Int).toNat) ^ (10 : Int).toNat := by decide +kernel
theorem great_bits : (Builtin.Int.intBits (10 ^ (60 : Int).toNat) : Int) * 10 ≤ 2 ^ 27 := by decide +kernel
theorem log_of {t : Int} (h0 : 0 < t) (h : t ≤ ten61) : t.natAbs.log2 < 9000 := by
  have e : t.natAbs ≤ ten61.natAbs := by omega
  have z : t.natAbs ≠ 0 := by omega
  refine Nat.lt_of_le_of_lt ?_ ten61_log
  exact (Nat.le_log2 (by decide +kernel)).mpr (Nat.le_trans (Nat.log2_self_le z) e)
theorem modA (i : Int) : -(2 ^ 64) < i % 2305843009213693951 ∧ i % 2305843009213693951 < 2 ^ 64 := by omega
theorem modB (i : Int) : -(2 ^ 64) < i % 2305843009213693921 ∧ i % 2305843009213693921 < 2 ^ 64 := by omega
/-! ### the bag -/
/-- all but the object at B is as it was -/
def SB (B : Addr) (H H' : Hp) : Prop := ∀ b o, b ≠ B → H b = some o → H' b = some o
def BagAt (H : Hp) (B : Addr) : Prop := ∃ x y z : Int, H B = some (.lst [.int x, .int y, .int z])
theorem SB.refl (B : Addr) (H : Hp) : SB B H H := fun _ _ _ h => h
theorem SB.trans {B : Addr} {H H1 H2 : Hp} (a : SB B H H1) (b : SB B H1 H2) : SB B H H2 := fun c o n h => b c o n (a c o n h)
theorem SB.upd {B : Addr} {H H1 : Hp} {o : HO} (a : SB B H H1) : SB B H (upd H1 B o) := fun c u n h => by
  rw [upd_ne n]
  exact a c u n h
theorem SB.new {B p : Addr} {H H1 : Hp} {o : HO} (a : SB B H H1) (hp : H1 p = none) : SB B H (L2.upd H1 p o) := fun c u n h => by
  have z := a c u n h
  rw [upd_ne (ne_of_none z hp)]
  exact z
theorem SB.of {B : Addr} {H H' : Hp} (a : Same H H') : SB B H H' := fun b o _ h => a b o h
/-- the object p, new since H, is changed -/
theorem SB.own {B p : Addr} {H H1 : Hp} {o : HO} (a : SB B H H1) (hp : H p = none) : SB B H (L2.upd H1 p o) := fun c u n h => by
  rw [upd_ne (ne_of_none h hp)]
  exact a c u n h
theorem BagAt.new {B p : Addr} {H : Hp} {o : HO} (a : BagAt H B) (hp : H p = none) : BagAt (upd H p o) B := by
  obtain ⟨x, y, z, h⟩ := a
  exact ⟨x, y, z, by rw [upd_ne (ne_of_none h hp)]; exact h⟩
theorem BagAt.other {B p : Addr} {H : Hp} {o : HO} (a : BagAt H B) (hp : B ≠ p) : BagAt (upd H p o) B := by
  obtain ⟨x, y, z, h⟩ := a
  exact ⟨x, y, z, by rw [upd_ne hp]; exact h⟩
theorem BagAt.nn {B : Addr} {H : Hp} (a : BagAt H B) : H B ≠ none := by
  obtain ⟨x, y, z, h⟩ := a
  rw [h]
  exact fun q => nomatch q
theorem BagAt.ne {B p : Addr} {H : Hp} (a : BagAt H B) (hp : H p = none) : p ≠ B := fun e => a.nn (by rw [← e]; exact hp)
/-! ### promises -/
def spStart (K : PySem.W.Frag) : Sp := fun vs H Q _ => ∃ (a : Addr) (ns : List Int), ∃ at_ : Nat, vs = [.ref a, .int (at_ : Int)] ∧ SqL K H a (ns.map V.int) ∧
  ∀ H' B, Same H H' → H B = none → BagAt H' B → Q (.ref B) H'
def spThrow : Sp := fun vs H Q _ => ∃ (B : Addr) (t : Int), vs = [.ref B, .int t] ∧ BagAt H B ∧ 0 < t ∧ t ≤ ten61 ∧
  ∀ r H', 0 ≤ r → r < t → SB B H H' → BagAt H' B → Q (.int r) H'
def spPickL : Sp := fun vs H Q _ => ∃ (B L : Addr) (ys : List V), vs = [.ref B, .ref L] ∧ BagAt H B ∧ B ≠ L ∧ H L = some (.lst ys) ∧ 0 < ys.length ∧ ys.length ≤ 100 ∧
  ∀ y H', y ∈ ys → SB B H H' → BagAt H' B → Q y H'
structure TxtA (mg : Str → Option Value) (fT : Addr) : Prop where
  len : mg "len" = none
  int : mg "int" = none
  abs : mg "abs" = none
  max : mg "max" = none
  thr : mg "_law_throw" = some (.ref fT)
section
variable {P : Program} {w : World} {K : PySem.W.Frag} {mg : Str → Option Value} {base : Heap} {fT : Addr}
theorem scStart : FnScope ["script", "at", "cell", "great", "mixed"] ["script", "at"] (defScope sStart) := ⟨rfl, rfl, rfl, by decide +kernel, rfl, by decide +kernel, by decide +kernel⟩
theorem ok_start {f : Addr} {fd : FuncData} (F : Fun K "_law_start" "_law_start" sStart f fd) (T : TxtA mg fT) : FnOk P w K mg base CX0 1 f fd ["script", "at"] (spStart K) := by
  refine F.ok scStart (fun vs H Q E h => ?_) (fun cdv A outer s H vs Q E hr h => ?_)
  · obtain ⟨a, ns, at_, rfl, _⟩ := h
    rfl
  · obtain ⟨a, ns, at_, rfl, hS, k⟩ := h
    refine ⟨_, pss_cons (ps_set (i := 2) scStart.nd rfl (Or.inl rfl) (pe_ifExp (pt_cmpR op_lt (pv 1) (pe_callB call_len_seq (by rfl) T.len PySem.boot_len (pa_cons (pv 0) pa_nil)) (nomark _))
        (pe_ix ix_list (pv 0) (pv 1) (fun _ _ => rfl)) (pe_op op_add (pe_op op_mul pe_int (pv 1)) pe_int)))
      (pss_cons (ps_set (i := 3) scStart.nd rfl (Or.inl rfl) (pe_op op_mod (pe_callTy call_int1 (by rfl) T.int (by decide +kernel) (pa_cons (pe_callB call_abs (by rfl) T.abs (by decide +kernel) (pa_cons (pv 2) pa_nil)) pa_nil))
        (pe_op op_powB (pe_op op_pow pe_int pe_int) pe_int)))
      (pss_cons (ps_set (i := 4) scStart.nd rfl (Or.inl rfl) (pe_op op_add (pe_op op_mul (pe_op op_mod (pe_callTy call_int1 (by rfl) T.int (by decide +kernel) (pa_cons (pv 3) pa_nil)) pe_int) pe_int)
        (pe_callTy call_int1 (by rfl) T.int (by decide +kernel) (pa_cons (pe_cmpR op_lt (pv 2) pe_int (nomark _)) pa_nil))))
      (pss_one (ps_ret (pe_lst (pa_cons (pe_callB (call_max2 rfl) (by rfl) T.max (by decide +kernel) (pa_cons pe_int (pa_cons (pe_op op_sub (pv 3) (pe_op op_pow pe_int pe_int)) pa_nil)))
        (pa_cons (pe_op op_mod (pe_callTy call_int1 (by rfl) T.int (by decide +kernel) (pa_cons (pe_op op_add (pe_op op_add (pe_op op_mul (pv 4) pe_int) (pe_op op_mul pe_int (pv 1))) pe_int) pa_nil)) pe_int)
        (pa_cons pe_int pa_nil)))))))), ?_⟩
    refine ⟨_, rfl, _, rfl, a, _, rfl, .inl hS, _, _, rfl, rfl, _, rfl, ?_⟩
    refine ite2 (fun c => ?_) (fun _ => ?_)
    · obtain ⟨n0, hn⟩ : ∃ n0 : Int, (ns.map V.int)[at_]? = some (V.int n0) := by
        have c' := of_decide_eq_true c
        have c2 : at_ < (ns.map V.int).length := by omega
        rw [List.length_map] at c2
        exact ⟨ns[at_], by rw [List.getElem?_map, List.getElem?_eq_getElem c2]; rfl⟩
      refine ⟨_, rfl, _, rfl, a, _, _, _, rfl, rfl, hS, atI_nat (j := at_) hn, ?_⟩
      refine ⟨_, rfl, _, rfl, .inl ⟨_, rfl, _, _, rfl, rfl, ⟨by decide, by decide, by decide⟩, _, _, rfl, rfl, ⟨by decide, great_bits⟩, _, _, rfl, rfl, great_pos, ?_⟩⟩
      refine ⟨_, rfl, .inl ⟨_, rfl, _, _, rfl, rfl, (by show (0 : Int) < _; decide), _, _, rfl, rfl, .inr ⟨by decide, by decide⟩, _, rfl, _, _, rfl, rfl, .inr ⟨_, rfl, _, _, rfl, rfl, ?_⟩⟩⟩
      refine ⟨_, rfl, _, _, rfl, rfl, ⟨by decide, by decide, by decide⟩, _, _, rfl, rfl, _, _, rfl, _, rfl, _, _, rfl, rfl, .inr ⟨by decide, by decide⟩, _, rfl, _, _, rfl, rfl, .inl ⟨by decide, by decide⟩, _, _, rfl, rfl, _, _, rfl, rfl,
        .inl ⟨_, rfl, _, _, rfl, rfl, (by show (0 : Int) < _; decide), (by show 3 ≤ sizeLine; decide), fun l hl => ?_⟩⟩
      exact k _ l (fun b o e => by rw [upd_ne (ne_of_none e hl)]; exact e) hl ⟨_, _, _, upd_same⟩
    · refine ⟨_, rfl, _, _, rfl, rfl, .inl ⟨by decide, by decide⟩, _, _, rfl, rfl, ?_⟩
      refine ⟨_, rfl, _, rfl, .inl ⟨_, rfl, _, _, rfl, rfl, ⟨by decide, by decide, by decide⟩, _, _, rfl, rfl, ⟨by decide, great_bits⟩, _, _, rfl, rfl, great_pos, ?_⟩⟩
      refine ⟨_, rfl, .inl ⟨_, rfl, _, _, rfl, rfl, (by show (0 : Int) < _; decide), _, _, rfl, rfl, .inr ⟨by decide, by decide⟩, _, rfl, _, _, rfl, rfl, .inr ⟨_, rfl, _, _, rfl, rfl, ?_⟩⟩⟩
      refine ⟨_, rfl, _, _, rfl, rfl, ⟨by decide, by decide, by decide⟩, _, _, rfl, rfl, _, _, rfl, _, rfl, _, _, rfl, rfl, .inr ⟨by decide, by decide⟩, _, rfl, _, _, rfl, rfl, .inl ⟨by decide, by decide⟩, _, _, rfl, rfl, _, _, rfl, rfl,
        .inl ⟨_, rfl, _, _, rfl, rfl, (by show (0 : Int) < _; decide), (by show 3 ≤ sizeLine; decide), fun l hl => ?_⟩⟩
      exact k _ l (fun b o e => by rw [upd_ne (ne_of_none e hl)]; exact e) hl ⟨_, _, _, upd_same⟩
theorem scThrow : FnScope ["bag", "total", "found", "one", "two", "three"] ["bag", "total"] (defScope sThrow) := ⟨rfl, rfl, rfl, by decide +kernel, rfl, by decide +kernel, by decide +kernel⟩
theorem ok_throw {f : Addr} {fd : FuncData} (F : Fun K "_law_throw" "_law_throw" sThrow f fd) (T : TxtA mg fT) : FnOk P w K mg base CX0 1 f fd ["bag", "total"] spThrow := by
  refine F.ok scThrow (fun vs H Q E h => ?_) (fun cdv A outer s H vs Q E hr h => ?_)
  · obtain ⟨B, t, rfl, _⟩ := h
    rfl
  · obtain ⟨B, t, rfl, ⟨x, y, z, hB⟩, h0, ht, k⟩ := h
    refine ⟨_, pss_cons (ps_if (pt_cmpR op_gt (pe_ix ix_list (pv 0) pe_int (fun _ _ => rfl)) pe_int (nomark _))
        (pss_cons (ps_set (i := 2) scThrow.nd rfl (Or.inl rfl) (pe_op op_mod (pe_callTy call_int1 (by rfl) T.int (by decide +kernel) (pa_cons (pe_ix ix_list (pv 0) pe_int (fun _ _ => rfl)) pa_nil)) (pv 1)))
        (pss_cons (ps_asg (pe_op op_fdivW (pe_ix ix_list (pv 0) pe_int (fun _ _ => rfl)) (pv 1)) (pg_sub (pv 0) pe_int set_list))
        (pss_one (ps_ret (pv 2))))) pss_nil)
      (pss_cons (ps_asg (pe_op op_add (pe_ix ix_list (pv 0) pe_int (fun _ _ => rfl)) pe_int) (pg_sub (pv 0) pe_int set_list))
      (pss_cons (ps_set (i := 3) scThrow.nd rfl (Or.inl rfl) (pe_op op_mod (pe_callTy call_int1 (by rfl) T.int (by decide +kernel) (pa_cons (pe_op op_add (pe_ix ix_list (pv 0) pe_int (fun _ _ => rfl)) (pe_op op_mul pe_int (pe_ix ix_list (pv 0) pe_int (fun _ _ => rfl)))) pa_nil)) pe_int))
      (pss_cons (ps_set (i := 4) scThrow.nd rfl (Or.inl rfl) (pe_op op_mod (pe_callTy call_int1 (by rfl) T.int (by decide +kernel) (pa_cons (pe_op op_add (pe_op op_mul (pv 3) (pv 3)) (pe_op op_mul pe_int (pe_ix ix_list (pv 0) pe_int (fun _ _ => rfl)))) pa_nil)) pe_int))
      (pss_cons (ps_set (i := 5) scThrow.nd rfl (Or.inl rfl) (pe_op op_mod (pe_callTy call_int1 (by rfl) T.int (by decide +kernel) (pa_cons (pe_op op_add (pe_op op_mul (pv 4) (pv 3)) pe_int) pa_nil)) pe_int))
      (pss_one (ps_ret (pe_op op_mod (pe_callTy call_int1 (by rfl) T.int (by decide +kernel) (pa_cons (pe_op op_fdiv (pv 5) pe_int) pa_nil)) (pv 1)))))))), ?_⟩
    refine ⟨_, rfl, B, _, _, _, rfl, rfl, SqL.of hB, atI_nat (j := 0) rfl, _, _, rfl, rfl, _, rfl, ?_⟩
    refine ite2 (fun c => ?_) (fun _ => ?_)
    · refine ⟨_, rfl, B, _, _, _, rfl, rfl, SqL.of hB, atI_nat (j := 0) rfl, .inl ⟨_, rfl, _, rfl, _, _, rfl, rfl, h0, ?_⟩⟩
      refine ⟨_, rfl, B, _, _, _, rfl, rfl, SqL.of hB, atI_nat (j := 0) rfl, _, rfl, _, _, rfl, rfl, ⟨h0, log_of h0 ht⟩, _, rfl, B, _, _, 0, rfl, rfl, hB, rfl, ?_⟩
      refine ⟨_, rfl, ?_⟩
      exact k _ _ (Int.emod_nonneg _ (by omega)) (Int.emod_lt_of_pos _ h0) (SB.refl _ _).upd ⟨_, _, _, upd_same⟩
    · refine ⟨_, rfl, B, _, _, _, rfl, rfl, SqL.of hB, atI_nat (j := 2) rfl, _, _, rfl, rfl, _, rfl, B, _, _, 2, rfl, rfl, hB, rfl, ?_⟩
      refine ⟨_, rfl, B, _, _, _, rfl, rfl, SqL.of upd_same, atI_nat (j := 1) rfl, _, rfl, B, _, _, _, rfl, rfl, SqL.of upd_same, atI_nat (j := 2) rfl, _, _, rfl, rfl, .inl ⟨by decide, by decide⟩, _, _, rfl, rfl,
        .inl ⟨_, rfl, _, _, rfl, rfl, (by show (0 : Int) < _; decide), ?_⟩⟩
      refine ⟨_, rfl, _, rfl, _, _, rfl, rfl, .inl (modA _), _, rfl, B, _, _, _, rfl, rfl, SqL.of upd_same, atI_nat (j := 2) rfl, _, _, rfl, rfl, .inl ⟨by decide, by decide⟩, _, _, rfl, rfl,
        .inl ⟨_, rfl, _, _, rfl, rfl, (by show (0 : Int) < _; decide), ?_⟩⟩
      refine ⟨_, rfl, _, rfl, _, _, rfl, rfl, .inl (modB _), _, _, rfl, rfl, .inl ⟨_, rfl, _, _, rfl, rfl, (by show (0 : Int) < _; decide), ?_⟩⟩
      refine ⟨_, rfl, _, _, rfl, rfl, ⟨by decide, by decide⟩, .inl ⟨_, rfl, _, rfl, _, _, rfl, rfl, h0, ?_⟩⟩
      exact k _ _ (Int.emod_nonneg _ (by omega)) (Int.emod_lt_of_pos _ h0) (SB.refl _ _).upd ⟨_, _, _, upd_same⟩
theorem scPick : FnScope ["bag", "items"] ["bag", "items"] (defScope sPick) := ⟨rfl, rfl, rfl, by decide +kernel, rfl, by decide +kernel, by decide +kernel⟩
theorem ok_pickL {f : Addr} {fd fdT : FuncData} (F : Fun K "_law_pick" "_law_pick" sPick f fd) (T : TxtA mg fT) (FT : Fun K "_law_throw" "_law_throw" sThrow fT fdT) (bT : Binds K fdT ["bag", "total"] []) :
    FnOk P w K mg base CX0 2 f fd ["bag", "items"] spPickL := by
  have G : FnOk P w K mg base CX0 1 fT fdT ["bag", "total"] spThrow := ok_throw FT T
  refine F.ok scPick (fun vs H Q E h => ?_) (fun cdv A outer s H vs Q E hr h => ?_)
  · obtain ⟨B, L, ys, rfl, _⟩ := h
    rfl
  · obtain ⟨B, L, ys, rfl, hB, nBL, hL, h0, h1, k⟩ := h
    refine ⟨_, pss_one (ps_ret (pe_ix ix_list (pv 1) (pe_call G hr rfl T.thr FT.kp bT .nil pass0 (pa_cons (pv 0) (pa_cons (pe_callB call_len_seq (by rfl) T.len PySem.boot_len (pa_cons (pv 1) pa_nil)) pa_nil))) (fun _ _ => rfl))), ?_⟩
    refine ⟨_, rfl, _, rfl, _, rfl, L, _, rfl, .inl (SqL.of hL), B, _, rfl, hB, by omega, ?_, fun r H' r0 r1 sb hB' => ?_⟩
    · exact Int.le_trans (by omega : (ys.length : Int) ≤ 100) (by decide +kernel)
    · have hlt : r.toNat < ys.length := by omega
      refine ⟨L, _, r, _, rfl, rfl, SqL.of (sb _ _ nBL.symm hL), ?_, k (ys[r.toNat]'hlt) H' (List.getElem_mem _) sb hB'⟩
      exact at_nn r0 (by simp [hlt])
end
end Wd

set_option Elab.async false
set_option linter.all false
set_option maxRecDepth 100000
set_option maxHeartbeats 4000000
/-! comprehensions that draw from the bag -/
namespace Bd
open PySem PySem.Spec PyProof.Rows L2 Wd Br
theorem Kp.sb {H H' : Hp} {B : Addr} (b : BagAt H B) (s : SB B H H') : Kp H H' := by
  obtain ⟨x, y, z, e⟩ := b
  refine ⟨fun a xs h => s _ _ (fun q => ?_) h, fun a C dx fs h => s _ _ (fun q => ?_) h⟩ <;>
  · rw [q, e] at h
    cases h
theorem lc_bag {J : It} {n : Nat} {G : Hp → Prop} {Y : Nat → Hp → V → Hp → Prop} (w : Walk J n G Y) {B : Addr} (R : V → Prop) {g : TG} {te : TE} {vs : List Nat} {σ : L2.St} {H1 : Hp} {D : Addr} {Qd : Hp → Prop}
    (hD : H1 D = none) (b1 : BagAt H1 B) (hn : n ≤ 1000) (hG : ∀ H, SB B H1 H → G H)
    (hs : ∀ i x H H' (kT : VK), i < n → SB B H1 H → BagAt H B → Y i H x H' → (∀ y H4, SB B H H4 → BagAt H4 B → R y → kT y H4) → g x (wipe σ vs) H' fun σ2 H2 => wipe σ2 vs = wipe σ vs ∧ te σ2 H2 kT)
    (hd : ∀ H ys, SB B H1 H → BagAt H B → H D = some (.lst ys) → ys.length = n → (∀ y ∈ ys, R y) → Qd H) :
    ∃ W : Nat → Nat → Hp → Prop, (∃ m, W 0 m (upd H1 D (.lst []))) ∧ ∀ i m H, W i m H →
      (J.stop i H ∧ Qd H) ∨ (J.go i H ∧ ∃ Nx : Hp → Prop, (∀ H', Nx H' → ∃ m', m' < m ∧ W (i + 1) m' H') ∧ ∀ x H', J.yld i H x H' → g x (wipe σ vs) H' fun σ2 H2 => wipe σ2 vs = wipe σ vs ∧ tYes σ2 H2 fun b H3 =>
        if b = true then te σ2 H3 fun y H4 => ∃ acc, H4 D = some (.lst acc) ∧ acc.length < sizeLine ∧ Nx (upd H4 D (.lst (acc ++ [y]))) else Nx H3) := by
  have nDB : D ≠ B := b1.ne hD
  refine lc_it w (fun i H => SB B H1 H ∧ BagAt H B ∧ ∃ ys, H D = some (.lst ys) ∧ ys.length = i ∧ ∀ y ∈ ys, R y) ⟨(SB.refl B H1).new hD, b1.new hD, [], upd_same, rfl, fun y h => (List.not_mem_nil h).elim⟩ (fun i H _ ⟨s, _⟩ => hG H s) ?_
    (fun H ⟨s, b, ys, d, l, p⟩ => hd H ys s b d l p)
  rintro i x H H' hi ⟨s, b, ys, d, l, p⟩ y
  refine hs i x H H' _ hi s b y fun z H4 s4 b4 r => ⟨ys, s4 _ _ nDB d, small1000 (by omega), (s.trans s4).own hD, b4.other nDB.symm, ys ++ [z], upd_same, by simp; omega, fun u hu => ?_⟩
  rcases List.mem_append.mp hu with q | q
  · exact p u q
  · rw [List.mem_singleton.mp q]
    exact r
theorem mul_bd {a u x U : Int} (h1 : -x ≤ a) (h2 : a ≤ x) (h3 : 0 ≤ u) (h4 : u ≤ U) (hx : 0 ≤ x) : -(x * U) ≤ a * u ∧ a * u ≤ x * U := by
  have e1 : x * u ≤ x * U := Int.mul_le_mul_of_nonneg_left h4 hx
  have e2 : a * u ≤ x * u := Int.mul_le_mul_of_nonneg_right h2 h3
  have e3 : -x * u ≤ a * u := Int.mul_le_mul_of_nonneg_right h1 h3
  have e4 : -x * u = -(x * u) := Int.neg_mul x u
  omega
theorem sum_bd {β : Int} (h0 : 0 ≤ β) : ∀ {l : List Int}, (∀ z ∈ l, -β ≤ z ∧ z ≤ β) → ∀ {k : Nat}, l.length ≤ k → -(k * β) ≤ l.sum ∧ l.sum ≤ k * β
  | [], _, k, _ => by
    have : 0 ≤ (k : Int) * β := Int.mul_nonneg (by omega) h0
    simp
    omega
  | a :: l, h, 0, hk => by simp at hk
  | a :: l, h, k + 1, hk => by
    have z := h a List.mem_cons_self
    have r := sum_bd h0 (fun z hz => h z (List.mem_cons_of_mem _ hz)) (k := k) (by simpa using hk)
    rw [List.sum_cons]
    have e : ((k + 1 : Nat) : Int) * β = k * β + β := by
      rw [Int.natCast_add, Int.add_mul]
      simp
    omega
theorem ints_of {R : Int → Prop} : ∀ {ys : List V}, (∀ y ∈ ys, ∃ z, y = .int z ∧ R z) → ∃ zs : List Int, ys = zs.map V.int ∧ ∀ z ∈ zs, R z
  | [], _ => ⟨[], rfl, fun z h => (List.not_mem_nil h).elim⟩
  | y :: l, h => by
    obtain ⟨z, rfl, hz⟩ := h y List.mem_cons_self
    obtain ⟨zs, rfl, hr⟩ := ints_of (R := R) fun y hy => h y (List.mem_cons_of_mem _ hy)
    refine ⟨z :: zs, rfl, fun u hu => ?_⟩
    rcases List.mem_cons.mp hu with rfl | q
    · exact hz
    · exact hr u q
end Bd

set_option Elab.async false
set_option linter.all false
set_option maxRecDepth 100000
set_option maxHeartbeats 4000000
/-! drawn tables -/
namespace Bd
open PySem PySem.Spec PyProof.Rows L2 Wd Br
theorem pe_popAt {X : Cx} {K : PySem.W.Frag} {o e : Expr} {es : List Expr} {to : TE} {t : TA} {apos cpos : Pos} (hK : X.K = K) (ho : PE X o to) (ha : PA X (e :: es) t)
    (hbase : attributeBase o "pop" X.env (eval o X.env) = eval o X.env := by rfl)
    (hfew : ((backTo cpos (starEach (e :: es) X.env)).all (fun x => !x.1) && (backToKw cpos (keywordEach [] X.env)).all (fun x => x.1.isSome) && decide ((e :: es).length + ([] : List Keyword).length + (if ([] : List Keyword).isEmpty then 0 else 1) < 30)) = true := by rfl)
    (hline : (apos.endLine == cpos.line) = true := by rfl) (he : starEach (e :: es) X.env = (false, eval e X.env) :: starEach es X.env := by rfl)
    (hpl : (backTo cpos (starEach es X.env)).any (·.1) = false := by rfl) : PE X (.Call (.Attribute o "pop" apos) (e :: es) [] cpos) (tBM K "list" rPopAt to t) := by
  subst hK
  exact pe_bm PySem.F.plainAttrs_list PySem.F.slot_list_pop PySem.F.type_list_pop mt_popAt ho ha hbase hfew hline he hpl
/-- a drawn list of indices below n -/
def IdxL (H : Hp) (L : Addr) (n : Nat) (ks : List Nat) : Prop := H L = some (.lst (ks.map fun (i : Nat) => V.int (i : Int))) ∧ ∀ i ∈ ks, i < n
abbrev uMax : Int := 10 ^ 55 + 3
abbrev pMax : Int := 20 * uMax + 4
abbrev eMax : Int := 2 * pMax + 8 * uMax + 2
abbrev fMax : Int := 6 * eMax
/-- a list of integers of at most β -/
def RowL (H0 H : Hp) (B Lr : Addr) (n : Nat) (β : Int) (x : V) : Prop := ∃ (b : Addr) (zs : List Int), x = .ref b ∧ H0 b = none ∧ b ≠ B ∧ b ≠ Lr ∧ H b = some (.lst (zs.map V.int)) ∧ zs.length = n ∧ ∀ z ∈ zs, -β ≤ z ∧ z ≤ β
theorem RowL.mono {H0 H H' : Hp} {B Lr : Addr} {n : Nat} {β γ : Int} {x : V} (h : RowL H0 H B Lr n β x) (hb : β ≤ γ) (k : ∀ b o, b ≠ B → b ≠ Lr → H b = some o → H' b = some o) : RowL H0 H' B Lr n γ x := by
  obtain ⟨b, zs, e, n0, n1, n2, q, l, r⟩ := h
  exact ⟨b, zs, e, n0, n1, n2, k _ _ n1 n2 q, l, fun z hz => ⟨by have := (r z hz).1; omega, by have := (r z hz).2; omega⟩⟩
theorem _root_.Wd.BagAt.of {B : Addr} {H H' : Hp} (b : BagAt H B) (s : Same H H') : BagAt H' B := let ⟨x, y, z, e⟩ := b; ⟨x, y, z, s _ _ e⟩
theorem _root_.Wd.SB.none {B p : Addr} {H H' : Hp} (s : SB B H H') (n : p ≠ B) (h : H' p = Option.none) : H p = Option.none := by
  cases q : H p with
  | none => rfl
  | some o =>
    rw [s _ _ n q] at h
    cases h
theorem atI_ok {α : Type} {xs : List α} {i : Int} (h1 : -(xs.length : Int) ≤ i) (h2 : i < xs.length) : ∃ x, x ∈ xs ∧ atI xs i = some x := by
  by_cases h0 : 0 ≤ i
  · have hk : i.toNat < xs.length := by omega
    exact ⟨xs[i.toNat], List.getElem_mem hk, at_nn h0 (List.getElem?_eq_getElem hk)⟩
  · have hk : (i + xs.length).toNat < xs.length := by omega
    refine ⟨xs[(i + xs.length).toNat], List.getElem_mem hk, ?_⟩
    unfold atI ixN
    rw [if_neg h0, if_pos h1]
    exact List.getElem?_eq_getElem hk
theorem rgV_idx (n : Nat) : rgV 0 (n : Int) = (List.range n).map fun (i : Nat) => V.int (i : Int) := by
  unfold rgV
  rw [show ((n : Int) - 0).toNat = n by omega]
  exact List.map_congr_left fun i _ => by rw [Int.zero_add]
theorem idx_mem {ks : List Nat} {n : Nat} (h : ∀ i ∈ ks, i < n) {x : V} (hx : x ∈ ks.map fun (i : Nat) => V.int (i : Int)) : ∃ i : Nat, x = .int (i : Int) ∧ i < n := by
  obtain ⟨i, hi, rfl⟩ := List.mem_map.mp hx
  exact ⟨i, rfl, h i hi⟩
theorem idx_erase (ks : List Nat) (k : Nat) : (ks.map fun (i : Nat) => V.int (i : Int)).eraseIdx k = (ks.eraseIdx k).map fun (i : Nat) => V.int (i : Int) := by
  induction ks generalizing k with
  | nil => rfl
  | cons a l ih =>
    cases k with
    | zero => rfl
    | succ k => exact congrArg (V.int (a : Int) :: ·) (ih k)
theorem ints_at {zs : List Int} {q : Nat} (h : q < zs.length) : atI (zs.map V.int) (q : Int) = some (.int zs[q]) := atI_nat (by rw [List.getElem?_map, List.getElem?_eq_getElem h]; rfl)
def spTable : Sp := fun vs H Q _ => ∃ B : Addr, vs = [.ref B] ∧ BagAt H B ∧ ∀ (a : Addr) (n : Nat) (m : Mx) H', SB B H H' → BagAt H' B → 1 ≤ n → n ≤ 13 → MatT H' a n m → (∀ i j, i < n → j < n → -fMax ≤ m i j ∧ m i j ≤ fMax) → Q (.ref a) H'
structure DTxt (mg : Str → Option Value) : Prop where
  len : mg "len" = none
  list : mg "list" = none
  tup : mg "tuple" = none
  range : mg "range" = none
  sum : mg "sum" = none
  min : mg "min" = none
def mOf (L : List (List Int)) : Mx := fun i j => ((L[i]?.getD [])[j]?).getD 0
theorem mOf_row {L : List (List Int)} {i n : Nat} {zs : List Int} (h : L[i]? = some zs) (hn : zs.length = n) : zs.map V.int = rowV n (mOf L i) := by
  refine rowV_of (by simpa using hn) fun j y e => ?_
  rw [List.getElem?_map] at e
  obtain ⟨z, hz, rfl⟩ := Option.map_eq_some_iff.mp e
  unfold mOf
  rw [h]
  simp [hz]
/-- rows of lists give a matrix of tuples -/
theorem mat_of {H : Hp} {l n : Nat} {ys : List V} (hn : H l = none) (hl : ys.length = n) {β : Int} (h : ∀ y ∈ ys, ∃ (b : Addr) (zs : List Int), y = .ref b ∧ H b = some (.tup (zs.map V.int)) ∧ zs.length = n ∧ ∀ z ∈ zs, -β ≤ z ∧ z ≤ β) (h0 : 0 ≤ β) :
    ∃ m : Mx, MatT (upd H l (.tup ys)) l n m ∧ ∀ i j, i < n → j < n → -β ≤ m i j ∧ m i j ≤ β := by
  have ch : ∃ L : List (List Int), L.length = ys.length ∧ ∀ (i : Nat) y zs, ys[i]? = some y → L[i]? = some zs → ∃ b : Addr, y = .ref b ∧ H b = some (.tup (zs.map V.int)) ∧ zs.length = n ∧ ∀ z ∈ zs, -β ≤ z ∧ z ≤ β := by
    clear hl
    induction ys with
    | nil => exact ⟨[], rfl, fun i y zs e => by simp at e⟩
    | cons y r ih =>
      obtain ⟨b, zs, e1, e2, e3, e4⟩ := h y List.mem_cons_self
      obtain ⟨L, hL, f⟩ := ih fun y hy => h y (List.mem_cons_of_mem _ hy)
      refine ⟨zs :: L, by simp [hL], fun i y' zs' g1 g2 => ?_⟩
      cases i with
      | zero =>
        simp at g1 g2
        subst g1 g2
        exact ⟨b, e1, e2, e3, e4⟩
      | succ i => exact f i y' zs' (by simpa using g1) (by simpa using g2)
  obtain ⟨L, hL, f⟩ := ch
  refine ⟨mOf L, mat_new hn hl fun i y e => ?_, fun i j hi hj => ?_⟩
  · have hi := (List.getElem?_eq_some_iff.mp e).1
    have eL := List.getElem?_eq_getElem (l := L) (i := i) (by omega)
    obtain ⟨b, e1, e2, e3, _⟩ := f i y _ e eL
    exact ⟨b, e1, by rw [e2, mOf_row eL e3]⟩
  · have eL := List.getElem?_eq_getElem (l := L) (i := i) (by omega)
    obtain ⟨b, _, _, e3, e4⟩ := f i _ _ (List.getElem?_eq_getElem (l := ys) (i := i) (by omega)) eL
    unfold mOf
    rw [eL]
    have ez := List.getElem?_eq_getElem (l := L[i]) (i := j) (by omega)
    simp only [Option.getD_some, ez]
    exact e4 _ (List.getElem_mem _)
section
variable {P : Program} {w : World} {K : PySem.W.Frag} {mg : Str → Option Value} {base : Heap} {fT fP : Addr}
abbrev nTable : List Str := ["bag", "size", "unit", "point", "rows", "one", "places", "ring", "total", "two", "turn", "other", "k", "row"]
end
end Bd

set_option Elab.async false
set_option linter.all false
set_option maxRecDepth 100000
set_option maxHeartbeats 4000000
/-! the law's own closure -/
namespace Bd
open PySem PySem.Spec PyProof.Rows L2 Wd Br
/-- a comprehension of new lists -/
theorem lc_lists {J : It} {n : Nat} {G : Hp → Prop} {Y : Nat → Hp → V → Hp → Prop} (w : Walk J n G Y) (F : Nat → List V) {g : TG} {te : TE} {vs : List Nat} {σ : L2.St} {H1 : Hp} {D : Addr} {Qd : Hp → Prop}
    (hD : H1 D = none) (hn : n ≤ 1000) (hG : ∀ H, Same H1 H → G H)
    (hs : ∀ i x H H' (kT : VK), i < n → Same H1 H → Y i H x H' → (∀ c H4, Same H H4 → H c = none → H4 c = some (.lst (F i)) → kT (.ref c) H4) → g x (wipe σ vs) H' fun σ2 H2 => wipe σ2 vs = wipe σ vs ∧ te σ2 H2 kT)
    (hd : ∀ H (bs : List Addr), Same H1 H → H D = some (.lst (bs.map V.ref)) → bs.length = n → bs.Nodup → (∀ b ∈ bs, H1 b = none ∧ b ≠ D) → (∀ (i : Nat) b, bs[i]? = some b → H b = some (.lst (F i))) → Qd H) :
    ∃ W : Nat → Nat → Hp → Prop, (∃ m, W 0 m (upd H1 D (.lst []))) ∧ ∀ i m H, W i m H →
      (J.stop i H ∧ Qd H) ∨ (J.go i H ∧ ∃ Nx : Hp → Prop, (∀ H', Nx H' → ∃ m', m' < m ∧ W (i + 1) m' H') ∧ ∀ x H', J.yld i H x H' → g x (wipe σ vs) H' fun σ2 H2 => wipe σ2 vs = wipe σ vs ∧ tYes σ2 H2 fun b H3 =>
        if b = true then te σ2 H3 fun y H4 => ∃ acc, H4 D = some (.lst acc) ∧ acc.length < sizeLine ∧ Nx (upd H4 D (.lst (acc ++ [y]))) else Nx H3) := by
  have past : ∀ {H : Hp} {o : HO}, Same H1 H → Same H1 (upd H D o) := fun s b u e => by
    rw [upd_ne (ne_of_none e hD)]
    exact s _ _ e
  refine lc_it w (fun i H => Same H1 H ∧ ∃ bs : List Addr, H D = some (.lst (bs.map V.ref)) ∧ bs.length = i ∧ bs.Nodup ∧ (∀ b ∈ bs, H1 b = none ∧ b ≠ D) ∧ ∀ (j : Nat) b, bs[j]? = some b → H b = some (.lst (F j)))
    ⟨past (Same.refl _), [], upd_same, rfl, .nil, fun b h => (List.not_mem_nil h).elim, fun j b e => by simp at e⟩ (fun i H _ ⟨s, _⟩ => hG H s) ?_ (fun H ⟨s, bs, d, l, nd, f, r⟩ => hd H bs s d l nd f r)
  rintro i x H H' hi ⟨s, bs, d, l, nd, f, r⟩ y
  refine hs i x H H' _ hi s y fun c H4 s4 hc ec => ⟨bs.map V.ref, s4 _ _ d, by rw [List.length_map]; exact small1000 (by omega), past (s.trans s4), bs ++ [c], ?_, by simp [l], ?_, fun b hb => ?_, fun j b e => ?_⟩
  · rw [upd_same, List.map_append]
    rfl
  · rw [List.nodup_append]
    refine ⟨nd, by simp, fun a ha b hb => ?_⟩
    rw [List.mem_singleton.mp hb]
    intro q
    obtain ⟨j, hj⟩ := List.getElem?_of_mem ha
    rw [q] at hj
    rw [r j c hj] at hc
    cases hc
  · rcases List.mem_append.mp hb with q | q
    · exact f b q
    · rw [List.mem_singleton.mp q]
      exact ⟨s.free hc, fun z => by rw [z, d] at hc; cases hc⟩
  · by_cases hj : j < bs.length
    · rw [List.getElem?_append_left hj] at e
      rw [upd_ne (f b (List.mem_of_getElem? e)).2]
      exact s4 _ _ (r j b e)
    · rw [List.getElem?_append_right (by omega)] at e
      have hj0 : j - bs.length = 0 := by
        have := (List.getElem?_eq_some_iff.mp e).1
        simp at this
        omega
      rw [hj0] at e
      simp at e
      subst e
      obtain rfl : j = i := by omega
      rw [upd_ne fun z => by rw [z, d] at hc; cases hc]
      exact ec
/-- a list of lists -/
def LM (H0 H : Hp) (L : Addr) (n : Nat) (m : Mx) (bs : List Addr) : Prop := H L = some (.lst (bs.map V.ref)) ∧ bs.length = n ∧ H0 L = none ∧ (∀ b ∈ bs, H0 b = none ∧ b ≠ L) ∧ ∀ (i : Nat) b, bs[i]? = some b → H b = some (.lst (rowV n (m i)))
theorem LM.mono {H0 H H' : Hp} {L : Addr} {n : Nat} {m : Mx} {bs : List Addr} (h : LM H0 H L n m bs) (s : Same H H') : LM H0 H' L n m bs := let ⟨a, b, c, d, e⟩ := h; ⟨s _ _ a, b, c, d, fun i x q => s _ _ (e i x q)⟩
theorem refs_get {bs : List Addr} {i : Nat} {x : V} (h : (bs.map V.ref)[i]? = some x) : ∃ b, x = .ref b ∧ bs[i]? = some b := by
  rw [List.getElem?_map] at h
  obtain ⟨b, e, rfl⟩ := Option.map_eq_some_iff.mp h
  exact ⟨b, rfl, e⟩
theorem rowV_set {n k : Nat} {f : Nat → Int} {v : Int} : (rowV n f).set k (.int v) = rowV n fun j => if j = k then v else f j := by
  apply List.ext_getElem?
  intro i
  rw [List.getElem?_set]
  by_cases hi : i < n
  · rw [rowV_get hi, rowV_get hi, rowV_len]
    by_cases e : k = i
    · subst e
      simp [hi]
    · rw [if_neg e, if_neg (Ne.symm e)]
  · rw [List.getElem?_eq_none (l := rowV n fun j => if j = k then v else f j) (by rw [rowV_len]; omega), List.getElem?_eq_none (l := rowV n f) (by rw [rowV_len]; omega), rowV_len]
    split
    · rw [if_neg (by omega)]
    · rfl
theorem pi_listK {X : Cx} {K : PySem.W.Frag} {tg l : Expr} {tl : TE} (hK : X.K = K) (hl : PE X l tl) : PI X tg l (iList K tl) := by
  subst hK
  exact pi_list hl
def zdk (m : Mx) (k : Nat) : Mx := fun i j => if i = j ∧ i < k then min 0 (m i i) else m i j
theorem zdk_zero (m : Mx) : zdk m 0 = m := by
  funext i j
  unfold zdk
  rw [if_neg (by omega)]
theorem zdk_end {n : Nat} (m : Mx) : EqM n (zdk m n) (zd m) := fun i j hi hj => by
  unfold zdk zd
  by_cases e : i = j
  · rw [if_pos ⟨e, hi⟩, if_pos e]
  · rw [if_neg (fun q => e q.1), if_neg e]
theorem zdk_row {n k : Nat} {m : Mx} {i : Nat} (h : i ≠ k) : zdk m (k + 1) i = zdk m k i := by
  funext j
  unfold zdk
  by_cases e : i = j ∧ i < k
  · rw [if_pos ⟨e.1, by omega⟩, if_pos e]
  · rw [if_neg (fun q => e ⟨q.1, by omega⟩), if_neg e]
theorem zdk_at {k : Nat} {m : Mx} : zdk m (k + 1) k = fun j => if j = k then min 0 (m k k) else zdk m k k j := by
  funext j
  unfold zdk
  by_cases e : j = k
  · subst e
    rw [if_pos ⟨rfl, by omega⟩, if_pos rfl]
  · rw [if_neg (fun q => e q.1.symm), if_neg e, if_neg (fun q => e q.1.symm)]
theorem LM.ext {H0 H : Hp} {L : Addr} {n : Nat} {m t : Mx} {bs : List Addr} (h : LM H0 H L n m bs) (e : EqM n m t) : LM H0 H L n t bs := by
  obtain ⟨h1, h2, h3, h4, h5⟩ := h
  refine ⟨h1, h2, h3, h4, fun i b q => ?_⟩
  have hi := (List.getElem?_eq_some_iff.mp q).1
  rw [h5 i b q, rowV_ext fun j hj => e i j (by omega) hj]
theorem LM.off {H0 H : Hp} {L Lf : Addr} {n : Nat} {m : Mx} {bs : List Addr} {o : HO} (h : LM H0 H L n m bs) (ne : L ≠ Lf) (nb : ∀ b ∈ bs, b ≠ Lf) : LM H0 (upd H Lf o) L n m bs := by
  obtain ⟨h1, h2, h3, h4, h5⟩ := h
  exact ⟨by rw [upd_ne ne]; exact h1, h2, h3, h4, fun i b q => by rw [upd_ne (nb b (List.mem_of_getElem? q))]; exact h5 i b q⟩
theorem LM.row {H0 H : Hp} {L : Addr} {n : Nat} {m : Mx} {bs : List Addr} (h : LM H0 H L n m bs) {i : Nat} (hi : i < n) : ∃ b, bs[i]? = some b ∧ atI (bs.map V.ref) (i : Int) = some (.ref b) ∧ H b = some (.lst (rowV n (m i))) := by
  obtain ⟨h1, h2, h3, h4, h5⟩ := h
  have e := List.getElem?_eq_getElem (l := bs) (i := i) (by omega)
  exact ⟨_, e, atI_nat (by rw [List.getElem?_map, e]; rfl), h5 i _ e⟩
theorem rows_ne {H : Hp} {b Lf : Addr} {n : Nat} {f : Nat → Int} {fs : List Addr} (n1 : 1 ≤ n) (hb : H b = some (.lst (rowV n f))) (hf : H Lf = some (.lst (fs.map V.ref))) : b ≠ Lf := fun e => by
  rw [e, hf] at hb
  have q : fs.map V.ref = rowV n f := by injection (Option.some.inj hb)
  have r := rowV_get (f := f) (show 0 < n by omega)
  rw [← q, List.getElem?_map] at r
  obtain ⟨x, _, e2⟩ := Option.map_eq_some_iff.mp r
  cases e2
def SqRow (n : Nat) (c : Mx) (i : Nat) (f : Nat → Int) : Prop := ∀ q, q < n → (∀ k, k < n → f q ≤ c i k + c k q) ∧ ∃ k, k < n ∧ f q = c i k + c k q
def spSum : Sp := fun vs H Q _ => ∃ (a b : Addr) (n : Nat) (f g : Nat → Int), vs = [.ref a, .ref b] ∧ H a = some (.lst (rowV n f)) ∧ H b = some (.lst (rowV n g)) ∧ 1 ≤ n ∧ n ≤ 13 ∧
  ∀ z H', Same H H' → (∀ k, k < n → z ≤ f k + g k) → (∃ k, k < n ∧ z = f k + g k) → Q (.int z) H'
def spClosed (K : PySem.W.Frag) : Sp := fun vs H Q _ => ∃ (a : Addr) (n : Nat) (m : Mx), vs = [.ref a] ∧ MatT H a n m ∧ 1 ≤ n ∧ n ≤ 13 ∧ ∀ c a' H', Same H H' → Dbl n (zd m) 4 c → MatT H' a' n c → Q (.ref a') H'
structure ZTxt (mg : Str → Option Value) : Prop where
  len : mg "len" = none
  list : mg "list" = none
  tup : mg "tuple" = none
  range : mg "range" = none
  zip : mg "zip" = none
  min : mg "min" = none
section
variable {P : Program} {w : World} {K : PySem.W.Frag} {mg : Str → Option Value} {base : Heap} {fS : Addr}
abbrev nSum : List Str := ["row", "column", "one", "other"]
abbrev nClosed : List Str := ["rows", "size", "row", "table", "k", "turn", "columns", "found", "column"]
end
end Bd

set_option Elab.async false
set_option linter.all false
set_option maxRecDepth 100000
set_option maxHeartbeats 4000000
/-! equal data, by the law; half of the entries -/
namespace Bd
open PySem PySem.Spec PyProof.Rows L2 Wd Br
def spSame0 : Sp := fun vs H Q _ => ∃ i j : Int, vs = [.int i, .int j] ∧ ∀ b, (b = true ↔ i = j) → Q (.bl b) H
/-- of two tuples, by their items -/
def spSameT (spI : Sp) : Sp := fun vs H Q E => ∃ (a b : Addr) (xs ys : List V) (R : Nat → Prop), vs = [.ref a, .ref b] ∧ H a = some (.tup xs) ∧ H b = some (.tup ys) ∧ xs.length ≤ 1000 ∧
  (∀ (i : Nat) x y H1 Q', xs[i]? = some x → ys[i]? = some y → Same H H1 → (∀ b H2, Same H1 H2 → (b = true ↔ R i) → Q' (.bl b) H2) → spI [x, y] H1 Q' E0) ∧
  ∀ b H', Same H H' → (b = true ↔ xs.length = ys.length ∧ ∀ i, i < xs.length → R i) → Q (.bl b) H'
def spSame1 : Sp := fun vs H Q _ => ∃ (a b : Addr) (n k : Nat) (f g : Nat → Int), vs = [.ref a, .ref b] ∧ H a = some (.tup (rowV n f)) ∧ H b = some (.tup (rowV k g)) ∧ n ≤ 1000 ∧ ∀ b H', Same H H' → (b = true ↔ n = k ∧ ∀ j, j < n → f j = g j) → Q (.bl b) H'
def spSame2 : Sp := fun vs H Q _ => ∃ (a b : Addr) (n k : Nat) (m t : Mx), vs = [.ref a, .ref b] ∧ MatT H a n m ∧ MatT H b k t ∧ n ≤ 1000 ∧ k ≤ 1000 ∧ ∀ b H', Same H H' → (b = true ↔ n = k ∧ EqM n m t) → Q (.bl b) H'
structure STxt (mg : Str → Option Value) : Prop where
  len : mg "len" = none
  isin : mg "isinstance" = none
  int : mg "int" = none
  bool : mg "bool" = none
  tup : mg "tuple" = none
  all : mg "all" = none
  range : mg "range" = none
section
variable {P : Program} {w : World} {K : PySem.W.Frag} {mg : Str → Option Value} {base : Heap} {fS : Addr}
abbrev nSame : List Str := ["one", "other", "k"]
theorem scSame : FnScope nSame ["one", "other"] (defScope sSame) := ⟨rfl, rfl, rfl, by decide +kernel, rfl, by decide +kernel, by decide +kernel⟩
theorem ok_same0 {f : Addr} {fd : FuncData} (F : Fun K "_law_same" "_law_same" sSame f fd) (X : STxt mg) : FnOk P w K mg base CX0 1 f fd ["one", "other"] spSame0 := by
  refine F.ok scSame (fun vs H Q E h => ?_) (fun cdv A outer s H vs Q E hr h => ?_)
  · obtain ⟨i, j, rfl, _⟩ := h
    rfl
  · obtain ⟨i, j, rfl, q⟩ := h
    refine ⟨_, pss_cons (ps_if (PW.pt (pw_or (pt_val (pe_isi (N := "tuple") (pv 0) X.isin X.tup)) (pw_or1 (pt_val (pe_isi (N := "tuple") (pv 1) X.isin X.tup))))) (pss_cons ps_never (pss_one ps_never)) pss_nil)
      (pss_one (ps_ret (pe_and (pe_isi (N := "int") (pv 0) X.isin X.int) (pe_and (pe_not (pe_isi (N := "bool") (pv 0) X.isin X.bool)) (pe_one (pe_cmpR op_eq (pv 0) (pv 1) (nomark _))))))), ?_⟩
    refine ⟨_, rfl, false, isi_ty (.base (.int i)) (by decide), _, rfl, iteF ⟨_, rfl, false, isi_ty (.base (.int j)) (by decide), _, rfl, iteF ?_⟩⟩
    refine ⟨_, rfl, true, isi_ty (.base (.int i)) (by decide), _, rfl, iteT ⟨_, rfl, false, isi_ty (.base (.int i)) (by decide), _, rfl, _, rfl, iteT ⟨_, rfl, _, rfl, rfl, ?_⟩⟩⟩
    refine q _ ?_
    rw [decide_eq_true_iff]
    exact ⟨fun h => by injection h, fun h => by rw [h]⟩
theorem ok_sameT {f : Addr} {fd : FuncData} {spI : Sp} {k : Nat} (F : Fun K "_law_same" "_law_same" sSame f fd) (X : STxt mg) (GI : At_ P w K mg base CX0 k "_law_same" f fd ["one", "other"] spI) : FnOk P w K mg base CX0 (k + 1) f fd ["one", "other"] (spSameT spI) := by
  refine F.ok scSame (fun vs H Q E h => ?_) (fun cdv A outer s H vs Q E hr h => ?_)
  · obtain ⟨a, b, xs, ys, R, rfl, _⟩ := h
    rfl
  · obtain ⟨a, b, xs, ys, R, rfl, ha, hb, few, it, q⟩ := h
    have nd := scSame.nd
    refine ⟨_, pss_cons (ps_if (PW.pt (pw_or (pt_val (pe_isi (N := "tuple") (pv 0) X.isin X.tup)) (pw_or1 (pt_val (pe_isi (N := "tuple") (pv 1) X.isin X.tup)))))
        (pss_cons (ps_if (PW.pt (pw_or (pt_not (pt_val (pe_isi (N := "tuple") (pv 0) X.isin X.tup))) (pw_or (pt_not (pt_val (pe_isi (N := "tuple") (pv 1) X.isin X.tup))) (pw_or1 (pt_cmpR op_ne (pe_callB call_len_seq (by rfl) X.len PySem.boot_len (pa_cons (pv 0) pa_nil)) (pe_callB call_len_seq (by rfl) X.len PySem.boot_len (pa_cons (pv 1) pa_nil)) (nomark _)))))) (pss_one (ps_ret pe_bl)) pss_nil)
        (pss_one (ps_ret (pe_callB (cr_all rfl) (by rfl) X.all (by decide +kernel) (pa_cons (pe_lc (own := [("k", 2)]) (g := gName 2) (tt := tYes) rfl nd (pi_range1 rfl X.range (pa_cons (pe_callB call_len_seq (by rfl) X.len PySem.boot_len (pa_cons (pv 0) pa_nil)) pa_nil)) (blkOk_by (N := nSame) (sc := defScope sSame) (by decide +kernel))
          (fun _ _ _ _ _ => pg_name (i := 2) nd rfl (Or.inl rfl)) (fun _ _ _ _ _ => pts_nil) (fun _ _ _ _ _ => pe_call GI.g hr rfl GI.m GI.kp GI.b .nil pass0 (pa_cons (pe_ix (r := rIxT K) ix_tup (pv 0) (pv 2) (fun _ _ => rfl)) (pa_cons (pe_ix (r := rIxT K) ix_tup (pv 1) (pv 2) (fun _ _ => rfl)) pa_nil)))) pa_nil))))) pss_nil)
      (pss_one ps_never), ?_⟩
    refine ⟨_, rfl, true, isi_ty (.base (.tup ha)) (by decide), _, rfl, iteT ?_⟩
    refine ⟨_, rfl, true, isi_ty (.base (.tup ha)) (by decide), _, rfl, iteF ⟨_, rfl, true, isi_ty (.base (.tup hb)) (by decide), _, rfl, iteF ?_⟩⟩
    refine ⟨_, rfl, a, xs, rfl, .inr (SqT.of ha), _, rfl, b, ys, rfl, .inr (SqT.of hb), rfl, _, rfl, ?_⟩
    refine ite2 (fun c => ?_) (fun c => ?_)
    · refine q _ _ (Same.refl _) (nay fun ⟨e, _⟩ => ?_)
      rw [e] at c
      simp at c
    · have el : xs.length = ys.length := by
        by_cases e : xs.length = ys.length
        · exact e
        · refine (c ?_).elim
          simp
          omega
      refine ⟨_, rfl, a, xs, rfl, .inr (SqT.of ha), _, rfl, by omega, by omega, fun D hD => ?_⟩
      rw [Int.toNat_natCast]
      refine lc_bs walk_rng R hD few (fun _ _ => trivial) ?_ ?_
      · rintro i x H1 H' kT hi s1 ⟨rfl, rfl⟩ h
        have e1 := List.getElem?_eq_getElem (l := xs) (i := i) hi
        have e2 := List.getElem?_eq_getElem (l := ys) (i := i) (by omega)
        exact ⟨rfl, _, rfl, _, rfl, a, _, _, _, rfl, rfl, SqT.of (s1 _ _ ha), atI_nat e1, _, rfl, _, rfl, b, _, _, _, rfl, rfl, SqT.of (s1 _ _ hb), atI_nat e2, it i _ _ _ _ e1 e2 s1 fun b H2 s2 hb => h b H2 s2 hb⟩
      · rintro H1 bs s1 hD1 hall -
        exact ⟨D, bs, rfl, SqL.of hD1, q _ _ s1 (hall.trans ⟨fun h => ⟨el, h⟩, fun h => h.2⟩)⟩
theorem ok_same1 {f : Addr} {fd : FuncData} (F : Fun K "_law_same" "_law_same" sSame f fd) (X : STxt mg) (m : mg "_law_same" = some (.ref f)) (b : Binds K fd ["one", "other"] []) : FnOk P w K mg base CX0 2 f fd ["one", "other"] spSame1 := by
  refine (ok_sameT F X ⟨m, F.kp, b, ok_same0 F X⟩).imp fun vs H Q E h => ?_
  obtain ⟨a, b, n, k, f, g, rfl, ha, hb, few, q⟩ := h
  refine ⟨a, b, _, _, fun i => f i = g i, rfl, ha, hb, by rw [rowV_len]; exact few, fun i x y H1 Q' e1 e2 s1 h => ?_, fun b H' s hb => q b H' s (hb.trans ?_)⟩
  · have h1 := (List.getElem?_eq_some_iff.mp e1).1
    have h2 := (List.getElem?_eq_some_iff.mp e2).1
    rw [rowV_len] at h1 h2
    rw [rowV_get h1] at e1
    rw [rowV_get h2] at e2
    cases e1
    cases e2
    exact ⟨_, _, rfl, fun b hb => h b H1 (Same.refl _) hb⟩
  · rw [rowV_len, rowV_len]
theorem ok_same2 {f : Addr} {fd : FuncData} (F : Fun K "_law_same" "_law_same" sSame f fd) (X : STxt mg) (m : mg "_law_same" = some (.ref f)) (b : Binds K fd ["one", "other"] []) : FnOk P w K mg base CX0 3 f fd ["one", "other"] spSame2 := by
  refine (ok_sameT F X ⟨m, F.kp, b, ok_same1 F X m b⟩).imp fun vs H Q E h => ?_
  obtain ⟨a, b, n, k, m, t, rfl, ⟨rs, q1, l1, r1⟩, ⟨ss, q2, l2, r2⟩, few, few2, q⟩ := h
  refine ⟨a, b, _, _, fun i => n = k ∧ ∀ j, j < n → m i j = t i j, rfl, q1, q2, by omega, fun i x y H1 Q' e1 e2 s1 h => ?_, fun b H' s hb => q b H' s (hb.trans ?_)⟩
  · obtain ⟨c, rfl, qc⟩ := r1 i x e1
    obtain ⟨d, rfl, qd⟩ := r2 i y e2
    exact ⟨c, d, n, k, _, _, rfl, s1 _ _ qc, s1 _ _ qd, few, fun b H2 s2 hb => h b H2 s2 hb⟩
  · rw [l1, l2]
    constructor
    · rintro ⟨e, h⟩
      exact ⟨e, fun i j hi hj => (h i hi).2 j hj⟩
    · rintro ⟨e, h⟩
      exact ⟨e, fun i hi => ⟨e, fun j hj => h i j hi hj⟩⟩
end
/-! ### half of the entries -/
def halfM (m : Mx) (way side : Int) : Mx := fun i j => if ((i : Int) + (j : Int) + way * (i : Int) * (j : Int)) % 2 = side then m i j else 10 ^ 60 - 1
def spHalf (K : PySem.W.Frag) : Sp := fun vs H Q _ => ∃ (a : Addr) (n : Nat) (m : Mx) (way side : Int), vs = [.ref a, .int way, .int side] ∧ MatT H a n m ∧ 1 ≤ n ∧ n ≤ 13 ∧ 0 ≤ way ∧ way ≤ 1 ∧ ∀ a' H', Same H H' → MatT H' a' n (halfM m way side) → Q (.ref a') H'
structure HTxt (mg : Str → Option Value) : Prop where
  len : mg "len" = none
  int : mg "int" = none
  tup : mg "tuple" = none
  range : mg "range" = none
section
variable {P : Program} {w : World} {K : PySem.W.Frag} {mg : Str → Option Value} {base : Heap} {fS : Addr}
abbrev nHalf : List Str := ["rows", "way", "side", "size", "found", "i", "j"]
end
end Bd

set_option Elab.async false
set_option linter.all false
set_option maxRecDepth 100000
set_option maxHeartbeats 4000000
/-! spoiled rows -/
namespace Bd
open PySem PySem.Spec PyProof.Rows L2 Wd Br TO
theorem cut_to {xs : List V} {k : Nat} (h : k < xs.length) : cutV xs none (some (k : Int)) = xs.take k ∧ ¬ (HT.sIx xs.length 0 none = 0 ∧ HT.sIx xs.length xs.length (some (k : Int)) = xs.length) := by
  have e : HT.sIx xs.length xs.length (some (k : Int)) = k := by rw [HT.sIx_nat, Nat.min_eq_left (by omega)]
  refine ⟨?_, fun q => by rw [e] at q; omega⟩
  unfold cutV
  rw [e, HT.sIx_none, List.drop_zero, Nat.sub_zero]
theorem cut_from {xs : List V} {k : Nat} (h : k < xs.length) : cutV xs (some ((k : Int) + 1)) none = xs.drop (k + 1) ∧ ¬ (HT.sIx xs.length 0 (some ((k : Int) + 1)) = 0 ∧ HT.sIx xs.length xs.length none = xs.length) := by
  have e : HT.sIx xs.length 0 (some ((k : Int) + 1)) = k + 1 := by rw [show (k : Int) + 1 = ((k + 1 : Nat) : Int) by omega, HT.sIx_nat, Nat.min_eq_left (by omega)]
  refine ⟨?_, fun q => by rw [e] at q; omega⟩
  unfold cutV
  rw [e, HT.sIx_none, List.take_of_length_le (by rw [List.length_drop]; exact Nat.le_refl _)]
theorem cat_reads {K : PySem.W.Frag} {H : Hp} {a b : Addr} {xs ys : List V} {Q : VK} (ha : H a = some (.tup xs)) (hb : H b = some (.tup ys)) (hl : xs.length + ys.length ≤ 1000) (q : ∀ c H', Same H H' → H' c = some (.tup (xs ++ ys)) → Q (.ref c) H') : rCatE K (.ref a) (.ref b) H Q := by
  refine ⟨a, b, xs, ys, rfl, rfl, SqT.of ha, SqT.of hb, Nat.le_of_lt (small1000 hl), fun e => ?_, fun _ e => ?_, fun _ _ p hp => q p _ (same_new hp) upd_same⟩
  · subst e
    exact q b H (Same.refl _) hb
  · subst e
    exact q a H (Same.refl _) (by rw [List.append_nil]; exact ha)
theorem rep_reads14 {K : PySem.W.Frag} {H : Hp} {t : Addr} {x : V} {Q : VK} (ht : H t = some (.tup [x])) (q : ∀ b H', Same H H' → H' b = some (.tup (List.replicate 14 x)) → Q (.ref b) H') : rRepN K (.ref t) (.int 14) H Q :=
  rep_reads (n := 14) ht (by decide) (by decide) q
/-- whatever the bag: no row of n integers; no rows -/
def BadR (B : Addr) (H : Hp) (n : Nat) (y : V) : Prop := ∀ H', SB B H H' → ¬ AreI H' y (n : Int)
def NoRows (B : Addr) (H : Hp) (v : V) : Prop := ∀ H', SB B H H' → ¬ IsRows H' v
theorem bad_tup {B : Addr} {H : Hp} {n : Nat} {c : Addr} {xs : List V} (b : BagAt H B) (h : H c = some (.tup xs)) (no : xs.length ≠ n ∨ ∃ x ∈ xs, ¬ IsInt x) : BadR B H n (.ref c) := fun H' s ⟨a, ys, e, q, l, i⟩ => by
  cases e
  rw [(Kp.sb b s).1 _ _ h] at q
  cases q
  rcases no with no | ⟨x, hx, no⟩
  · omega
  · exact no (i x hx)
theorem bad_other {B : Addr} {H : Hp} {n : Nat} {y : V} (h : ∀ H', SB B H H' → ∀ a xs, y = .ref a → H' a ≠ some (.tup xs)) : BadR B H n y := fun H' s ⟨a, ys, e, q, _⟩ => h H' s a ys e q
theorem nor_tup {B : Addr} {H : Hp} {c : Addr} {xs : List V} (b : BagAt H B) (h : H c = some (.tup xs)) (no : xs.length = 0 ∨ 13 < xs.length ∨ ∃ x ∈ xs, BadR B H xs.length x) : NoRows B H (.ref c) := fun H' s ⟨a, ys, e, q, l1, l2, i⟩ => by
  cases e
  rw [(Kp.sb b s).1 _ _ h] at q
  cases q
  rcases no with no | no | ⟨x, hx, no⟩
  · omega
  · omega
  · exact no H' s (i x hx)
theorem nor_other {B : Addr} {H : Hp} {y : V} (h : ∀ H', SB B H H' → ∀ a xs, y = .ref a → H' a ≠ some (.tup xs)) : NoRows B H y := fun H' s ⟨a, ys, e, q, _⟩ => h H' s a ys e q
theorem BadR.mono {B : Addr} {H H1 : Hp} {n : Nat} {y : V} (h : BadR B H n y) (s : SB B H H1) : BadR B H1 n y := fun H' s' => h H' (s.trans s')
theorem NoRows.mono {B : Addr} {H H1 : Hp} {y : V} (h : NoRows B H y) (s : SB B H H1) : NoRows B H1 y := fun H' s' => h H' (s.trans s')
theorem lst_no {B c : Addr} {H : Hp} {xs : List V} (n : c ≠ B) (h : H c = some (.lst xs)) : ∀ H', SB B H H' → ∀ a ys, V.ref c = .ref a → H' a ≠ some (.tup ys) := fun H' s a ys e q => by
  cases e
  rw [s _ _ n h] at q
  cases q
abbrev DB (B : Addr) (H : Hp) (k : Nat) (v : V) : Prop := Dat noT [B] H 20 k v
theorem sb_ob {B : Addr} {H H' : Hp} (s : SB B H H') : Ob [B] H H' := fun b o n e => s b o (by simpa using n) e
theorem DB.mono {B : Addr} {H H' : Hp} {k : Nat} {v : V} (d : DB B H k v) (s : SB B H H') (K : PySem.W.Frag) : DB B H' k v := Dat.mono (K := K) own_no (sb_ob s) d
theorem DB.up {B : Addr} {H : Hp} {k j : Nat} {v : V} (d : DB B H k v) (h : k ≤ j) : DB B H j v := Dat.up (Nat.le_refl _) d h
theorem dat_free {T : List Addr → Hp → Addr → Prop} {B : List Addr} {H : Hp} {m n : Nat} {v : V} (hT : ∀ {a}, T B H a → T [] H a) (d : Dat T B H m n v) : Dat T [] H m n v := by
  induction d with
  | non => exact .non
  | bl b => exact .bl b
  | int i => exact .int i
  | str s h o => exact .str s h o
  | own t => exact .own (hT t)
  | tup ne e l p ih => exact .tup (by simp) e l ih
  | lst ne e l p ih => exact .lst (by simp) e l ih
  | dic ne e l nd k p ih => exact .dic (by simp) e l nd k ih
theorem db_tup {B c : Addr} {H : Hp} {k : Nat} {xs : List V} (b : BagAt H B) (h : H c = some (.tup xs)) (l : xs.length ≤ 20) (d : ∀ x ∈ xs, DB B H k x) : DB B H (k + 1) (.ref c) := .tup (by
  obtain ⟨x, y, z, e⟩ := b
  simp only [List.mem_singleton]
  intro q
  rw [q, e] at h
  cases h) h l d
theorem db_lst {B c : Addr} {H : Hp} {k : Nat} {xs : List V} (n : c ≠ B) (h : H c = some (.lst xs)) (l : xs.length ≤ 20) (d : ∀ x ∈ xs, DB B H k x) : DB B H (k + 1) (.ref c) := .lst (by simpa using n) h l d
theorem db_row {B b : Addr} {H : Hp} {n : Nat} {f : Nat → Int} (bg : BagAt H B) (h : H b = some (.tup (rowV n f))) (hn : n ≤ 14) : DB B H 2 (.ref b) := db_tup bg h (by rw [rowV_len]; omega) fun x hx => by
  obtain ⟨j, _, rfl⟩ := rowV_mem hx
  exact .int _
def spSpoil : Sp := fun vs H Q _ => ∃ (B a : Addr) (n : Nat) (m : Mx), vs = [.ref B, .ref a] ∧ BagAt H B ∧ MatT H a n m ∧ 1 ≤ n ∧ n ≤ 13 ∧ ∀ v H', SB B H H' → BagAt H' B → Dat noT [] H' 20 5 v → ¬ IsRows H' v → Q v H'
section
variable {P : Program} {w : World} {K : PySem.W.Frag} {mg : Str → Option Value} {base : Heap} {fT fP : Addr}
abbrev nSpoil : List Str := ["bag", "rows", "at", "spot", "row", "odd", "others", "found", "wide"]
end
end Bd

set_option Elab.async false
set_option linter.all false
set_option maxRecDepth 100000
set_option maxHeartbeats 4000000
/-! the bounds of both halves meet -/
namespace Bd
open PySem PySem.Spec PyProof.Rows L2 Wd Br
theorem half_inb {n : Nat} {m : Mx} {way side : Int} (b : InB n m) : InB n (halfM m way side) := fun i j hi hj => by
  unfold halfM
  split
  · exact b i j hi hj
  · exact ⟨by decide +kernel, by decide +kernel⟩
theorem half_both {n : Nat} {m : Mx} {way : Int} (b : InB n m) : EqM n (mn2 (halfM m way 0) (halfM m way 1)) m := fun i j hi hj => by
  have h := (b i j hi hj).2
  have e : ten60 = 10 ^ 60 := rfl
  unfold mn2 halfM
  rcases Int.emod_two_eq ((i : Int) + (j : Int) + way * (i : Int) * (j : Int)) with q | q <;> rw [q]
  · rw [if_pos rfl, if_neg (by decide)]
    omega
  · rw [if_neg (by decide), if_pos rfl]
    omega
theorem made_reads {C a : Addr} {H : Hp} {n : Nat} {M : Mx} {Q : VK} {E : XK} (mt : MatT H a n M) (n1 : 1 ≤ n) (n13 : n ≤ 13) (ib : InB n M) (yes : ∀ t b H', Tight n M t → Same H H' → BdAt C H' b n t → Q (.ref b) H') (no : ∀ H', Same H H' → ¬ Feas n M → Q .non H') : spMade C [.ref a] H Q E := by
  refine ⟨_, 20, 3, rfl, by decide, mt.dat n13, fun a2 k M2 t b H' e m2 _ _ _ tt s bd => ?_, fun H' s nf => no H' s fun f => nf ⟨a, n, M, rfl, mt, n1, n13, ib, f⟩⟩
  cases e
  obtain ⟨rfl, eq⟩ := mt.uniq m2
  exact yes t b H' ⟨tt.cl, fun p => (tt.pot p).trans (pot_eq eq).symm⟩ s bd
theorem Tight.feas_iff {n : Nat} {m t : Mx} (h : Tight n m t) (n1 : 1 ≤ n) : Feas n m := h.feas (by omega)
def spMeet : Sp := fun vs H Q _ => ∃ (B a : Addr) (n : Nat) (m : Mx) (tv : V), vs = [.ref B, .ref a, tv] ∧ BagAt H B ∧ MatT H a n m ∧ 1 ≤ n ∧ n ≤ 13 ∧ InB n m ∧
  ((tv = .non ∧ ¬ Feas n m) ∨ ∃ c t, tv = .ref c ∧ MatT H c n t ∧ Tight n m t) ∧ ∀ H', SB B H H' → BagAt H' B → Q (.bl true) H'
abbrev rSame7 (C : Addr) (sp : Sp) (W : WX) : R2 := fun x y H Q => ∃ a b dx dy fs gs, x = .ref a ∧ y = .ref b ∧ H a = some (.ins C dx fs) ∧ H b = some (.ins C dy gs) ∧ sp [x, y] H Q (anyE W 7)
/-- a property that gives a field of its own -/
def PropG (P : Program) (w : World) (K : PySem.W.Frag) (mg : Str → Option Value) (base : Heap) (C : Addr) (x f : Str) : Prop := ∃ p g fd, PropOf K C x p g ∧ FnOk P w K mg base CX0 1 g fd ["self"] (getSp C f) ∧ Binds K fd ["self"] []
section
variable {P : Program} {w : World} {K : PySem.W.Frag} {mg : Str → Option Value} {base : Heap} {fT fM fH fS fA C CIB f1 f2 : Addr}
abbrev nMeet : List Str := ["bag", "rows", "tight", "way", "one", "two", "found"]
end
end Bd

set_option Elab.async false
set_option linter.all false
set_option maxRecDepth 100000
set_option maxHeartbeats 4000000
/-! str by an own method -/
namespace Br
open PySem PySem.Spec PyProof.Rows L2
section
variable {X : Cx} {CX : CXT} {k : Nat} {C f : Addr} {fd : FuncData} {ps : List Str} {sp : Sp} {E : XK} {pins : List (Addr × Obj)} {σ : L2.St} {H : Hp} {s : Shared} {Q : VK}
theorem str_own (D : OO.Dun X.K C "__str__" f) (F : FnOk X.prog X.w X.K X.mg X.base CX k f fd ps sp) (hr : Room (k + 2) X.A) (hb : Binds X.K fd ps []) (hx : Passes CX X E) :
    CallR X (.type "str") (fun xs H Q => ∃ a dx fs, xs = [.ref a] ∧ H a = some (.ins C dx fs) ∧ sp xs H (fun z H' => ∃ t : Str, z = .str t ∧ Q (.str t) H') E) := by
  intro pins s σ H xs us Q I r ⟨a, dx, fs, ex, ha, h⟩
  subst ex
  cases r with
  | cons ra rr =>
    cases rr
    cases ra
    obtain ⟨mA, J, _⟩ := ins_get I.hok ha
    obtain ⟨od, J, _⟩ := J.look
    refine PySem.W.kso_call (by show X.A.units + 1 + 1 < cLine; have := hr.un; omega) I.kIn J D.at_ D.fn ?_
    have hl : ([Value.ref a] ++ []).length = ps.length := by
      show 1 = _
      rw [← F.len _ _ _ _ h]
      rfl
    have bd := hb s [.ref a] I.kIn hl
    rw [List.append_nil] at bd
    refine wpAny_call (codeAny_mono (F.run X.A.in1.in1 X.stack s H ⟨[.ref a], []⟩ [.ref a] [.ref a] _ E hr.in1.in1 I.env0.in1.in1 bd (.cons rfl .nil) h) fun r s' hq => ?_)
    cases r with
    | error e => exact hx pins σ H s e s' I hq
    | ok fl =>
      cases fl with
      | ret u =>
        obtain ⟨y, H', I', ry, t, ey, q⟩ := I.after hq
        subst ey
        obtain ⟨tk, rfl⟩ := ry
        exact ⟨.str t, H', I', ⟨_, rfl⟩, q⟩
      | next => exact hq.elim
      | brk => exact hq.elim
      | cont => exact hq.elim
end
end Br

set_option Elab.async false
set_option linter.all false
set_option maxRecDepth 100000
set_option maxHeartbeats 4000000
/-! one drawn table and one changed table -/
namespace Bd
open PySem PySem.Spec PyProof.Rows L2 Wd Br
theorem made_both {C a : Addr} {H : Hp} {n : Nat} {M : Mx} {Q : VK} {E : XK} (mt : MatT H a n M) (n1 : 1 ≤ n) (n13 : n ≤ 13) (ib : InB n M) (k : ∀ v H', Same H H' → ((v = .non ∧ ¬ Feas n M) ∨ ∃ b t, v = .ref b ∧ BdAt C H' b n t ∧ Tight n M t) → Q v H') : spMade C [.ref a] H Q E :=
  made_reads mt n1 n13 ib (fun t b H' tt s bd => k _ H' s (.inr ⟨b, t, rfl, bd, tt⟩)) fun H' s nf => k _ H' s (.inl ⟨rfl, nf⟩)
theorem spInitB_mono {K : PySem.W.Frag} {C CIB : Addr} {vs : List V} {H : Hp} {Q R : VK} {E : XK} (h : spInitB K C CIB vs H Q E) (f : ∀ v H', Q v H' → R v H') : spInitB K C CIB vs H R E := by
  obtain ⟨p, dx, v, m, n, e, h1, h2, h3, yes, no⟩ := h
  exact ⟨p, dx, v, m, n, e, h1, h2, h3, fun a k M t a' H' e1 e2 e3 e4 e5 e6 e7 e8 e9 => f _ _ (yes a k M t a' H' e1 e2 e3 e4 e5 e6 e7 e8 e9), no⟩
theorem newB_R {K : PySem.W.Frag} {C CIB : Addr} {H : Hp} {x dx : Addr} {v : V} {m n : Nat} {R : VK} {E : XK} (hx : H x = none) (hd : H dx = none) (ne : dx ≠ x) (hm : m ≤ 1000) (d : Dat noT [] H m n v)
    (yes : ∀ (a : Addr) (k : Nat) (M t : Mx) H', v = .ref a → MatT H a k M → 1 ≤ k → k ≤ 13 → InB k M → Tight k M t → Same H H' → BdAt C H' x k t → R .non H')
    (no : ∀ H', Same H H' → ¬ Fine H v → E (.ref CIB) none H') : spInitB K C CIB [.ref x, v] (upd (upd H dx (.own x)) x (.ins C dx [])) R E :=
  spInitB_mono (newB_reads (Q := fun y H' => y = .ref x → R .non H') hx hd ne hm d (fun a k M t b H' e m1 k1 k2 ib tt s bd eb => by
    cases eb
    exact yes a k M t H' e m1 k1 k2 ib tt s bd) no) fun v H' ⟨e, h⟩ => by
      rw [e]
      exact h rfl
theorem ifx {b : Bool} {i : Nat} {T : V} {σ : L2.St} {H : Hp} {Q : VK} (h : σ[i]? = some (some T)) (k : ∀ tv, (b = true → tv = .non) → (b = false → tv = T) → Q tv H) : if b = true then tC .non σ H Q else tVar i σ H Q := by
  cases b with
  | true => exact iteT (k _ (fun _ => rfl) fun e => nomatch e)
  | false => exact iteF ⟨T, h, k _ (fun e => nomatch e) fun _ => rfl⟩
theorem eqm_symm {n k : Nat} {a b : Mx} : (n = k ∧ EqM n a b) ↔ (k = n ∧ EqM k b a) := by
  constructor <;> rintro ⟨rfl, h⟩ <;> exact ⟨rfl, fun i j hi hj => (h i j hi hj).symm⟩
theorem lenText_eq (n : Nat) : lenText n = ("bounds of " : Str) ++ toString (n : Int) ++ " clocks" := by
  unfold lenText
  rw [show Str.empty ++ ("bounds of " : Str) = "bounds of " from by decide +kernel]
theorem txt_len : ∀ {n : Nat}, n ≤ 12 → (Str.ofString "bounds of ").length + (Str.ofString (toString (n : Int))).length ≤ sizeLine ∧ (Str.ofString "bounds of " ++ Str.ofString (toString (n : Int))).length + (Str.ofString " clocks").length ≤ sizeLine := by
  intro n h
  have all : ∀ m : Fin 13, (Str.ofString "bounds of ").length + (Str.ofString (toString ((m.val : Nat) : Int))).length ≤ 100 ∧ (Str.ofString "bounds of " ++ Str.ofString (toString ((m.val : Nat) : Int))).length + (Str.ofString " clocks").length ≤ 100 := by decide +kernel
  have z := all ⟨n, by omega⟩
  have s : 100 ≤ sizeLine := by decide
  exact ⟨Nat.le_trans z.1 s, Nat.le_trans z.2 s⟩
/-- the list of three truths, shown -/
def three (a : Bool) : PyData := .list [.bool a, .bool a, .bool (!a)]
theorem rep3 {K : PySem.W.Frag} {H : Hp} {L : Addr} {a : Bool} {Q : VK} (h : H L = some (.lst [.bl a, .bl a, .bl (!a)])) (q : Q (.str (three a).shown) H) : rReprD K [.ref L] H Q :=
  ⟨_, three a, rfl, .lst (SqL.of h) (.cons (.bl _) (.cons (.bl _) (.cons (.bl _) .nil))), by cases a <;> rfl, by cases a <;> rfl, by cases a <;> decide +kernel, fun _ => by cases a <;> decide +kernel, q⟩
theorem bf_least (t : Addr) : (bf t).lookup ("least" : Str) = none := by
  unfold bf
  rw [lookup_putF, if_neg (by decide)]
  rfl
/-- what stands while one table is asked -/
structure St7 (C B : Addr) (H : Hp) (a T p : Addr) (j : Nat) (m c : Mx) (H' : Hp) : Prop where
  sb : SB B H H'
  bg : BagAt H' B
  mt : MatT H' a (j + 1) m
  mc : MatT H' T (j + 1) c
  bd : BdAt C H' p (j + 1) c
theorem St7.sbm {C B : Addr} {H : Hp} {a T p : Addr} {j : Nat} {m c : Mx} {H1 H2 : Hp} (S : St7 C B H a T p j m c H1) (s : SB B H1 H2) (b : BagAt H2 B) : St7 C B H a T p j m c H2 :=
  let k := Kp.sb S.bg s
  ⟨S.sb.trans s, b, S.mt.mono k, S.mc.mono k, S.bd.mono k⟩
theorem St7.same {C B : Addr} {H : Hp} {a T p : Addr} {j : Nat} {m c : Mx} {H1 H2 : Hp} (S : St7 C B H a T p j m c H1) (s : Same H1 H2) : St7 C B H a T p j m c H2 := S.sbm (SB.of s) (S.bg.of s)
theorem St7.lst {C B : Addr} {H : Hp} {a T p : Addr} {j : Nat} {m c : Mx} {H1 : Hp} {L : Addr} {xs ys : List V} (S : St7 C B H a T p j m c H1) (n : L ≠ B) (nw : H L = none) (h : H1 L = some (.lst xs)) : St7 C B H a T p j m c (upd H1 L (.lst ys)) :=
  let k := kp_lst (ys := ys) h
  ⟨S.sb.own nw, S.bg.other n.symm, S.mt.mono k, S.mc.mono k, S.bd.mono k⟩
structure RTxt (mg : Str → Option Value) : Prop where
  len : mg "len" = none
  any : mg "any" = none
  range : mg "range" = none
  tup : mg "tuple" = none
  list : mg "list" = none
  int : mg "int" = none
  str : mg "str" = none
  repr : mg "repr" = none
def spRight : Sp := fun vs H Q _ => ∃ B : Addr, vs = [.ref B] ∧ BagAt H B ∧ ∀ H', SB B H H' → BagAt H' B → Q (.bl true) H'
/-- the value is raised to one more where it stands outside its place -/
def upM (c : Mx) (r : Int) (i k : Nat) : Int := if (i : Int) = r then c i k + (if (!decide (V.int (k : Int) = V.int r)) = true then 1 else 0) else c i k
theorem upM_le {c : Mx} {r : Int} {i k : Nat} : c i k ≤ upM c r i k ∧ upM c r i k ≤ c i k + 1 := by
  unfold upM
  split <;> (try split) <;> omega
theorem upM_inb {n : Nat} {c : Mx} {r : Int} (h : ∀ i j, i < n → j < n → -fMax ≤ c i j ∧ c i j ≤ fMax) : InB n (upM c r) := fun i j hi hj => by
  have e1 := h i j hi hj
  have e2 := upM_le (c := c) (r := r) (i := i) (k := j)
  have e3 : fMax + 1 < ten60 := by decide +kernel
  omega
theorem upM_feas {n : Nat} {c : Mx} {r : Int} (h : Feas n c) : Feas n (upM c r) := by
  obtain ⟨p, hp⟩ := h
  exact ⟨p, hp.mono fun i j _ _ => upM_le.1⟩
end Bd

set_option Elab.async false
set_option linter.all false
set_option maxRecDepth 100000
set_option maxHeartbeats 4000000
/-! the law -/
namespace Bd
open PySem PySem.Spec PyProof.Rows L2 Wd Br
theorem same_bag {H0 H' H1 Hk : Hp} {B : Addr} (s0 : Same H0 H') (hB : H' B = none) (s1 : Same H' H1) (s : SB B H1 Hk) : Same H0 Hk := fun b o e => s b o (ne_of_none (s0 b o e) hB) (s1 b o (s0 b o e))
/-- what repr asks of a value -/
def Rd (K : PySem.W.Frag) (H : Hp) (v : V) (d : PyData) : Prop := Dp K H v d ∧ d.showable = true ∧ d.hasDict = false ∧ d.depth ≤ 60 ∧ ((∀ i, d ≠ .int i) → d.shown.length ≤ sizeLine)
theorem Rd.int {K : PySem.W.Frag} {H : Hp} {i : Int} (h : i.natAbs.log2 < 1920) : Rd K H (.int i) (.int i) := ⟨.int i, decide_eq_true h, rfl, by show 0 ≤ 60; decide, fun z => (z i rfl).elim⟩
theorem log_nat {n : Nat} (h : n ≤ 2 ^ 40) : ((n : Int).natAbs).log2 < 1920 := by
  rw [Int.natAbs_natCast]
  by_cases z : n = 0
  · subst z
    decide
  · exact Nat.lt_of_lt_of_le ((Nat.log2_lt z).mpr (Nat.lt_of_le_of_lt h (by decide : 2 ^ 40 < 2 ^ 41))) (by decide)
/-- no number of clocks, yet data -/
structure OddN (K : PySem.W.Frag) (H : Hp) (v : V) : Prop where
  iv : ∀ H', Same H H' → IntV K H' v
  no : ¬ ∃ k : Nat, v = .int (k : Int) ∧ k ≤ 12
  rd : ∃ d, ∀ H', Same H H' → Rd K H' v d
def spLaw (K : PySem.W.Frag) : Sp := fun vs H Q _ => ∃ (a : Addr) (ns : List Int), vs = [.ref a] ∧ SqL K H a (ns.map V.int) ∧ ns.length ≤ 63 ∧ ∀ H', Q (.bl true) H'
theorem odd_of {K : PySem.W.Frag} {B : Addr} {H : Hp} {z : Addr} {r : Int} {v : V} (b : BagAt H B) (hz : H z = some (.tup [.int 2])) (r0 : 0 ≤ r) (r1 : r < 10 ^ 9)
    (h : v ∈ [V.int (-1), .int 13, .int (10 ^ (60 : Int).toNat), .bl true, .bl false, .non, .str "2", .ref z, .int (13 + r)]) : ∀ H', SB B H H' → OddN K H' v := fun H' s => by
  have ez := s z _ (fun e => by
    obtain ⟨x, y, w, q⟩ := b
    rw [e, q] at hz
    cases hz) hz
  have ii : ∀ {i : Int}, (i < 0 ∨ 12 < i) → i.natAbs.log2 < 1920 → OddN K H' (.int i) := fun {i} h1 h2 => ⟨fun _ _ => .inl ⟨_, rfl⟩, fun ⟨k, e, hk⟩ => by
    injection e with e
    omega, ⟨_, fun _ _ => Rd.int h2⟩⟩
  simp only [List.mem_cons, List.not_mem_nil, or_false] at h
  rcases h with rfl | rfl | rfl | rfl | rfl | rfl | rfl | rfl | rfl
  · exact ii (.inl (by decide)) (by decide)
  · exact ii (.inr (by decide)) (by decide)
  · exact ii (.inr (by decide +kernel)) (by decide +kernel)
  · exact ⟨fun _ s => intV_of s (.bl (m := 20) (n := 1) _), fun ⟨k, e, _⟩ => (nomatch e), ⟨_, fun _ _ => ⟨.bl _, rfl, rfl, by decide, fun _ => by decide⟩⟩⟩
  · exact ⟨fun _ s => intV_of s (.bl (m := 20) (n := 1) _), fun ⟨k, e, _⟩ => (nomatch e), ⟨_, fun _ _ => ⟨.bl _, rfl, rfl, by decide, fun _ => by decide⟩⟩⟩
  · exact ⟨fun _ s => intV_of s (.non (m := 20) (n := 1)), fun ⟨k, e, _⟩ => (nomatch e), ⟨_, fun _ _ => ⟨.non, rfl, rfl, by decide, fun _ => by decide⟩⟩⟩
  · exact ⟨fun _ s => intV_of s (.str (m := 20) (n := 1) _ (by decide +kernel) (by decide +kernel)), fun ⟨k, e, _⟩ => (nomatch e), ⟨_, fun _ _ => ⟨.str _, rfl, rfl, by decide, fun _ => by decide +kernel⟩⟩⟩
  · exact ⟨fun _ s => intV_of s (.tup (m := 20) (n := 1) (by simp) ez (by decide) fun x hx => by rw [List.mem_singleton.mp hx]; exact .int _), fun ⟨k, e, _⟩ => (nomatch e), ⟨.tuple [.int 2], fun _ s => ⟨.tup (SqT.of (s _ _ ez)) (.cons (.int _) .nil), by decide, rfl, by decide, fun _ => by decide +kernel⟩⟩⟩
  · obtain ⟨n, rfl⟩ := Int.eq_ofNat_of_zero_le r0
    refine ii (.inr (by omega)) ?_
    have := log_nat (n := 13 + n) (by omega)
    rwa [show ((13 + n : Nat) : Int) = 13 + (n : Int) by omega] at this
end Bd

set_option Elab.async false
set_option linter.all false
set_option maxRecDepth 100000
set_option maxHeartbeats 4000000
/-! points of rows -/
namespace Bd
/-- the readings of a point, with 0 ahead -/
def full (q : Nat → Int) : Nat → Int
  | 0 => 0
  | i + 1 => q i
def Has (n : Nat) (m : Mx) (q : Nat → Int) : Prop := Pot (n + 1) m (full q)
def shift (p : Nat → Int) : Nat → Int := fun k => p (k + 1) - p 0
theorem full_shift (p : Nat → Int) (i : Nat) : full (shift p) i = p i - p 0 := by
  cases i with
  | zero => show (0 : Int) = p 0 - p 0; omega
  | succ i => rfl
theorem pot_shift {n : Nat} {m : Mx} {p : Nat → Int} (h : Pot (n + 1) m p) : Has n m (shift p) := fun i j hi hj => by
  rw [full_shift, full_shift]
  have := h i j hi hj
  omega
theorem has_feas {n : Nat} {m : Mx} : Feas (n + 1) m ↔ ∃ q, Has n m q := ⟨fun ⟨p, h⟩ => ⟨_, pot_shift h⟩, fun ⟨q, h⟩ => ⟨_, h⟩⟩
theorem closed_top {n : Nat} {t : Mx} (c : Closed (n + 1) t) {i j : Nat} (hi : i < n + 1) (hj : j < n + 1) : (∀ q, Has n t q → full q i - full q j ≤ t i j) ∧ ∃ q, Has n t q ∧ full q i - full q j = t i j := by
  refine ⟨fun q h => h i j hi hj, shift fun k => t k j, pot_shift (closed_col c hj), ?_⟩
  rw [full_shift, full_shift]
  have := c.dg j hj
  show t i j - t 0 j - (t j j - t 0 j) = t i j
  omega
theorem has_congr {n : Nat} {m : Mx} {q r : Nat → Int} (h : ∀ k, k < n → q k = r k) (a : Has n m q) : Has n m r := fun i j hi hj => by
  have e : ∀ i, i < n + 1 → full q i = full r i := fun i hi => by
    cases i with
    | zero => rfl
    | succ i => exact h i (by omega)
  rw [← e i hi, ← e j hj]
  exact a i j hi hj
theorem Tight.has {n : Nat} {m t : Mx} (h : Tight (n + 1) m t) {q : Nat → Int} : Has n t q ↔ Has n m q := h.pot _
theorem within_iff {n : Nat} {t u : Mx} (ct : Closed (n + 1) t) : (∀ q, Has n t q → Has n u q) ↔ ∀ i j, i < n + 1 → j < n + 1 → t i j ≤ u i j := by
  constructor
  · intro h i j hi hj
    obtain ⟨q, hq, e⟩ := (closed_top ct hi hj).2
    have := h q hq i j hi hj
    omega
  · intro h q hq
    exact hq.mono h
/-! ### one more bound -/
def cutM (t : Mx) (i j : Nat) (most : Int) : Mx := fun a b => min (t a b) (t a i + most + t j b)
def CutR (n : Nat) (t : Mx) (i j : Nat) (most : Int) (q : Nat → Int) : Prop := Has n t q ∧ full q i - full q j ≤ most
theorem cut_all {n : Nat} {t : Mx} {i j : Nat} {most : Int} (hi : i < n + 1) (hj : j < n + 1) (h : t i j ≤ most) {q : Nat → Int} : CutR n t i j most q ↔ Has n t q :=
  ⟨fun a => a.1, fun a => ⟨a, Int.le_trans (a i j hi hj) h⟩⟩
theorem cut_none {n : Nat} {t : Mx} {i j : Nat} {most : Int} (hi : i < n + 1) (hj : j < n + 1) (h : t j i + most < 0) : ¬ ∃ q, CutR n t i j most q := fun ⟨q, a, b⟩ => by
  have := a j i hj hi
  omega
theorem cut_has {n : Nat} {t : Mx} {i j : Nat} {most : Int} (c : Closed (n + 1) t) (hi : i < n + 1) (hj : j < n + 1) {q : Nat → Int} : CutR n t i j most q ↔ Has n (cutM t i j most) q := by
  constructor
  · rintro ⟨a, b⟩ x y hx hy
    have h1 := a x y hx hy
    have h2 := a x i hx hi
    have h3 := a j y hj hy
    unfold cutM
    omega
  · intro a
    refine ⟨fun x y hx hy => ?_, ?_⟩
    · have h1 := a x y hx hy
      unfold cutM at h1
      omega
    · have h1 := a i j hi hj
      have d1 := c.dg i hi
      have d2 := c.dg j hj
      unfold cutM at h1
      omega
theorem cut_closed {n : Nat} {t : Mx} {i j : Nat} {most : Int} (c : Closed (n + 1) t) (hi : i < n + 1) (hj : j < n + 1) (h : 0 ≤ t j i + most) : Closed (n + 1) (cutM t i j most) := by
  refine ⟨fun x hx => ?_, fun x y z hx hy hz => ?_⟩
  · have h1 := c.dg x hx
    have h2 := c.tr j i x hj hi hx
    unfold cutM
    omega
  · have h1 := c.tr x y z hx hy hz
    have h2 := c.tr x i z hx hi hz
    have h3 := c.tr j y z hj hy hz
    have h4 := c.tr j i z hj hi hz
    unfold cutM
    omega
/-- the closed rows of a set of points, none where there is none -/
def OfR (n : Nat) (R : (Nat → Int) → Prop) (t : Mx) : Prop := Closed (n + 1) t ∧ ∀ q, R q ↔ Has n t q
theorem OfR.tight {n : Nat} {m t : Mx} (h : Tight (n + 1) m t) : OfR n (Has n m) t := ⟨h.cl, fun q => h.has.symm⟩
theorem OfR.ex {n : Nat} {R : (Nat → Int) → Prop} {t : Mx} (h : OfR n R t) : ∃ q, R q := by
  obtain ⟨q, a⟩ := has_feas.mp (closed_feas h.1 (by omega))
  exact ⟨q, (h.2 q).mpr a⟩
theorem OfR.iff {n : Nat} {R S : (Nat → Int) → Prop} {t : Mx} (h : OfR n R t) (e : ∀ q, S q ↔ R q) : OfR n S t := ⟨h.1, fun q => (e q).trans (h.2 q)⟩
theorem OfR.tight_of {n : Nat} {R : (Nat → Int) → Prop} {m t u : Mx} (h : OfR n R m) (g : Tight (n + 1) m t) : OfR n R t := ⟨g.cl, fun q => (h.2 q).trans g.has.symm⟩
end Bd

set_option Elab.async false
set_option linter.all false
set_option maxRecDepth 100000
set_option maxHeartbeats 4000000
/-! points later, of moved clocks (for k24, k25) -/
namespace Bd
/-! ### later -/
def laterM (t : Mx) (τ : Int) : Mx := fun i j => if i = 0 then (if j = 0 then t 0 0 else t 0 j - τ) else if j = 0 then t i 0 + τ else t i j
def plus (q : Nat → Int) (τ : Int) : Nat → Int := fun k => q k + τ
theorem full_plus (q : Nat → Int) (τ : Int) (i : Nat) : full (plus q τ) i = if i = 0 then 0 else full q i + τ := by
  cases i with
  | zero => rfl
  | succ i => rfl
theorem later_has {n : Nat} {t : Mx} {τ : Int} {q : Nat → Int} : Has n (laterM t τ) (plus q τ) ↔ Has n t q := by
  have key : ∀ i j, full (plus q τ) i - full (plus q τ) j ≤ laterM t τ i j ↔ full q i - full q j ≤ t i j := fun i j => by
    rw [full_plus, full_plus]
    unfold laterM
    by_cases hi : i = 0
    · subst hi
      by_cases hj : j = 0
      · subst hj
        simp
      · rw [if_pos rfl, if_neg hj, if_pos rfl, if_neg hj]
        have : full q 0 = 0 := rfl
        omega
    · by_cases hj : j = 0
      · subst hj
        rw [if_neg hi, if_pos rfl, if_neg hi, if_pos rfl]
        have : full q 0 = 0 := rfl
        omega
      · rw [if_neg hi, if_neg hj, if_neg hi, if_neg hj]
        omega
  exact ⟨fun h i j hi hj => (key i j).mp (h i j hi hj), fun h i j hi hj => (key i j).mpr (h i j hi hj)⟩
theorem later_closed {n : Nat} {t : Mx} {τ : Int} (c : Closed (n + 1) t) : Closed (n + 1) (laterM t τ) := by
  refine ⟨fun i hi => ?_, fun i j k hi hj hk => ?_⟩
  · have h := c.dg i hi
    unfold laterM
    by_cases h0 : i = 0
    · subst h0
      rw [if_pos rfl, if_pos rfl]
      exact h
    · rw [if_neg h0, if_neg h0]
      exact h
  · have h := c.tr i j k hi hj hk
    have d0 := c.dg 0 (by omega)
    unfold laterM
    by_cases hi0 : i = 0 <;> by_cases hj0 : j = 0 <;> by_cases hk0 : k = 0 <;> simp only [hi0, hj0, hk0, if_true, if_false] at h ⊢ <;> omega
/-! ### moved clocks: the extension of what is known at some places -/
def extP (t : Mx) (κ : Nat → Nat) (r : Nat → Int) : Nat → Nat → Int
  | 0, x => r 0 + t x (κ 0)
  | k + 1, x => min (extP t κ r k x) (r (k + 1) + t x (κ (k + 1)))
theorem extP_le {t : Mx} {κ : Nat → Nat} {r : Nat → Int} : ∀ {k s x : Nat}, s ≤ k → extP t κ r k x ≤ r s + t x (κ s)
  | 0, s, x, h => by
    obtain rfl : s = 0 := by omega
    exact Int.le_refl _
  | k + 1, s, x, h => by
    unfold extP
    by_cases e : s = k + 1
    · subst e
      exact Int.min_le_right _ _
    · exact Int.le_trans (Int.min_le_left _ _) (extP_le (by omega))
theorem extP_at {t : Mx} {κ : Nat → Nat} {r : Nat → Int} : ∀ (k x : Nat), ∃ s, s ≤ k ∧ extP t κ r k x = r s + t x (κ s)
  | 0, x => ⟨0, Nat.le_refl _, rfl⟩
  | k + 1, x => by
    unfold extP
    obtain ⟨s, hs, e⟩ := extP_at (t := t) (κ := κ) (r := r) k x
    by_cases h : extP t κ r k x ≤ r (k + 1) + t x (κ (k + 1))
    · exact ⟨s, by omega, by rw [Int.min_eq_left h, e]⟩
    · exact ⟨k + 1, Nat.le_refl _, Int.min_eq_right (by omega)⟩
theorem ext_pot {n k : Nat} {t : Mx} {κ : Nat → Nat} {r : Nat → Int} (c : Closed (n + 1) t) (hκ : ∀ s, s ≤ k → κ s < n + 1) : Pot (n + 1) t (extP t κ r k) := fun x y hx hy => by
  obtain ⟨s, hs, e⟩ := extP_at (t := t) (κ := κ) (r := r) k y
  have h := extP_le (t := t) (κ := κ) (r := r) (k := k) (x := x) hs
  have h2 := c.tr x (κ s) y hx (hκ s hs) hy
  omega
theorem ext_agree {n k : Nat} {t : Mx} {κ : Nat → Nat} {r : Nat → Int} (c : Closed (n + 1) t) (hκ : ∀ s, s ≤ k → κ s < n + 1) (hr : ∀ a b, a ≤ k → b ≤ k → r a - r b ≤ t (κ a) (κ b)) {a : Nat} (ha : a ≤ k) : extP t κ r k (κ a) = r a := by
  have h1 := extP_le (t := t) (κ := κ) (r := r) (k := k) (x := κ a) ha
  have d := c.dg (κ a) (hκ a ha)
  obtain ⟨s, hs, e⟩ := extP_at (t := t) (κ := κ) (r := r) k (κ a)
  have h2 := hr a s ha hs
  omega
def movedM (t : Mx) (κ : Nat → Nat) : Mx := fun i j => t (κ i) (κ j)
theorem moved_closed {n k : Nat} {t : Mx} {κ : Nat → Nat} (c : Closed (n + 1) t) (hκ : ∀ s, s < k + 1 → κ s < n + 1) : Closed (k + 1) (movedM t κ) :=
  ⟨fun i hi => c.dg _ (hκ i hi), fun i j l hi hj hl => c.tr _ _ _ (hκ i hi) (hκ j hj) (hκ l hl)⟩
/-- the points of the clocks at the places -/
def MovR (n k : Nat) (t : Mx) (κ : Nat → Nat) (r : Nat → Int) : Prop := ∃ q, Has n t q ∧ ∀ i, i < k → r i = full q (κ (i + 1))
theorem moved_has {n k : Nat} {t : Mx} {κ : Nat → Nat} (c : Closed (n + 1) t) (hκ : ∀ s, s < k + 1 → κ s < n + 1) (h0 : κ 0 = 0) {r : Nat → Int} : MovR n k t κ r ↔ Has k (movedM t κ) r := by
  constructor
  · rintro ⟨q, hq, e⟩ i j hi hj
    have f : ∀ i, i < k + 1 → full r i = full q (κ i) := fun i hi => by
      cases i with
      | zero => rw [h0]; rfl
      | succ i => exact e i (by omega)
    rw [f i hi, f j hj]
    exact hq _ _ (hκ i hi) (hκ j hj)
  · intro h
    have hκ' : ∀ s, s ≤ k → κ s < n + 1 := fun s hs => hκ s (by omega)
    have hr : ∀ a b, a ≤ k → b ≤ k → full r a - full r b ≤ t (κ a) (κ b) := fun a b ha hb => h a b (by omega) (by omega)
    refine ⟨shift (extP t κ (full r) k), pot_shift (ext_pot c hκ'), fun i hi => ?_⟩
    rw [full_shift, ext_agree c hκ' hr (by omega : i + 1 ≤ k)]
    have z := ext_agree c hκ' hr (Nat.zero_le k)
    rw [h0] at z
    rw [z]
    show r i = r i - 0
    omega
/-! ### risen, up to tops: n = k + 1 clocks -/
/-- the greatest reading of clock i that the tops let -/
def hiP (t : Mx) (a : Nat → Int) : Nat → Nat → Int
  | 0, i => t i 1 + a 0
  | k + 1, i => min (hiP t a k i) (t i (k + 2) + a (k + 1))
theorem hiP_le {t : Mx} {a : Nat → Int} : ∀ {k l i : Nat}, l ≤ k → hiP t a k i ≤ t i (l + 1) + a l
  | 0, l, i, h => by
    obtain rfl : l = 0 := by omega
    exact Int.le_refl _
  | k + 1, l, i, h => by
    unfold hiP
    by_cases e : l = k + 1
    · subst e
      exact Int.min_le_right _ _
    · exact Int.le_trans (Int.min_le_left _ _) (hiP_le (by omega))
theorem hiP_at {t : Mx} {a : Nat → Int} : ∀ (k i : Nat), ∃ l, l ≤ k ∧ hiP t a k i = t i (l + 1) + a l
  | 0, i => ⟨0, Nat.le_refl _, rfl⟩
  | k + 1, i => by
    unfold hiP
    obtain ⟨l, hl, e⟩ := hiP_at (t := t) (a := a) k i
    by_cases h : hiP t a k i ≤ t i (k + 2) + a (k + 1)
    · exact ⟨l, by omega, by rw [Int.min_eq_left h, e]⟩
    · exact ⟨k + 1, Nat.le_refl _, Int.min_eq_right (by omega)⟩
def hiT (t : Mx) (a : Nat → Int) (k i : Nat) : Int := if i = 0 then 0 else hiP t a k i
def risenM (t : Mx) (a : Nat → Int) (k : Nat) : Mx := fun i j => if j = 0 then hiT t a k i else min (t i j) (hiT t a k i + t 0 j)
/-- the points to which time passes, up to the tops -/
def RisR (n : Nat) (t : Mx) (a : Nat → Int) (r : Nat → Int) : Prop := ∃ q τ, Has n t q ∧ 0 ≤ τ ∧ ∀ i, i < n → r i = q i + τ ∧ r i ≤ a i
theorem risen_none {n : Nat} {t : Mx} {a : Nat → Int} {j : Nat} (hj : j < n) (h : t 0 (j + 1) + a j < 0) : ¬ ∃ r, RisR n t a r := fun ⟨r, q, τ, hq, h0, hr⟩ => by
  have h1 := hq 0 (j + 1) (by omega) (by omega)
  have f : full q 0 = 0 := rfl
  have g : full q (j + 1) = q j := rfl
  have h2 := hr j hj
  omega
section
variable {k : Nat} {t : Mx} {a : Nat → Int}
theorem hi_tr (c : Closed (k + 1 + 1) t) {i m : Nat} (hi : i < k + 1 + 1) (hm : m < k + 1 + 1) : hiP t a k i ≤ t i m + hiP t a k m := by
  obtain ⟨l, hl, e⟩ := hiP_at (t := t) (a := a) k m
  have h1 := hiP_le (t := t) (a := a) (k := k) (i := i) hl
  have h2 := c.tr i (l + 1) m hi (by omega) hm
  omega
theorem hi_pos (c : Closed (k + 1 + 1) t) (ok : ∀ j, j < k + 1 → 0 ≤ t 0 (j + 1) + a j) {m : Nat} (hm : m < k + 1 + 1) : 0 ≤ t 0 m + hiP t a k m := by
  obtain ⟨l, hl, e⟩ := hiP_at (t := t) (a := a) k m
  have h1 := ok l (by omega)
  have h2 := c.tr 0 (l + 1) m (by omega) (by omega) hm
  omega
theorem risen_closed (c : Closed (k + 1 + 1) t) (ok : ∀ j, j < k + 1 → 0 ≤ t 0 (j + 1) + a j) : Closed (k + 1 + 1) (risenM t a k) := by
  refine ⟨fun i hi => ?_, fun i j m hi hj hm => ?_⟩
  · unfold risenM hiT
    by_cases h0 : i = 0
    · rw [if_pos h0, if_pos h0]
    · rw [if_neg h0, if_neg h0]
      have h1 := hi_pos c ok hi
      have h2 := c.dg i hi
      omega
  · have t1 := c.tr i j m hi hj hm
    have t2 := c.tr 0 j m (by omega) hj hm
    have p1 := hi_pos c ok hm
    have q1 := hi_tr (a := a) c hi hm
    have d0 := c.dg 0 (by omega)
    unfold risenM hiT
    by_cases hi0 : i = 0 <;> by_cases hj0 : j = 0 <;> by_cases hm0 : m = 0 <;> simp only [hi0, hj0, hm0, if_true, if_false] at t1 t2 p1 q1 ⊢ <;> omega
theorem risen_has (c : Closed (k + 1 + 1) t) {r : Nat → Int} : RisR (k + 1) t a r ↔ Has (k + 1) (risenM t a k) r := by
  constructor
  · rintro ⟨q, τ, hq, h0, hr⟩
    have up : ∀ i, i < k + 1 → r i ≤ hiP t a k (i + 1) := fun i hi => by
      obtain ⟨l, hl, e⟩ := hiP_at (t := t) (a := a) k (i + 1)
      have h1 := hq (i + 1) (l + 1) (by omega) (by omega)
      have h2 := hr i hi
      have h3 := hr l (by omega)
      have f1 : full q (i + 1) = q i := rfl
      have f2 : full q (l + 1) = q l := rfl
      omega
    have low : ∀ j, j < k + 1 → -r j ≤ t 0 (j + 1) := fun j hj => by
      have h1 := hq 0 (j + 1) (by omega) (by omega)
      have h2 := hr j hj
      have f : full q 0 = 0 := rfl
      have g : full q (j + 1) = q j := rfl
      omega
    intro i j hi hj
    have d0 := c.dg 0 (by omega)
    cases i with
    | zero =>
      cases j with
      | zero =>
        show (0 : Int) - 0 ≤ (if (0 : Nat) = 0 then (if (0 : Nat) = 0 then 0 else hiP t a k 0) else _)
        rw [if_pos rfl, if_pos rfl]
        omega
      | succ j =>
        have h1 := low j (by omega)
        show (0 : Int) - r j ≤ (if j + 1 = 0 then _ else min (t 0 (j + 1)) ((if (0 : Nat) = 0 then 0 else hiP t a k 0) + t 0 (j + 1)))
        rw [if_neg (by omega), if_pos rfl]
        omega
    | succ i =>
      have u := up i (by omega)
      cases j with
      | zero =>
        show r i - 0 ≤ (if (0 : Nat) = 0 then (if i + 1 = 0 then 0 else hiP t a k (i + 1)) else _)
        rw [if_pos rfl, if_neg (by omega)]
        omega
      | succ j =>
        have h1 := low j (by omega)
        have h2 := hq (i + 1) (j + 1) hi hj
        have h3 := hr i (by omega)
        have h4 := hr j (by omega)
        have f1 : full q (i + 1) = q i := rfl
        have f2 : full q (j + 1) = q j := rfl
        show r i - r j ≤ (if j + 1 = 0 then _ else min (t (i + 1) (j + 1)) ((if i + 1 = 0 then 0 else hiP t a k (i + 1)) + t 0 (j + 1)))
        rw [if_neg (by omega), if_neg (by omega)]
        omega
  · intro h
    have up : ∀ i, i < k + 1 → r i ≤ hiP t a k (i + 1) := fun i hi => by
      have h1 : r i - 0 ≤ (if (0 : Nat) = 0 then (if i + 1 = 0 then 0 else hiP t a k (i + 1)) else _) := h (i + 1) 0 (by omega) (by omega)
      rw [if_pos rfl, if_neg (by omega)] at h1
      omega
    have top : ∀ i, i < k + 1 → r i ≤ a i := fun i hi => by
      have h1 := up i hi
      have h2 := hiP_le (t := t) (a := a) (k := k) (i := i + 1) (show i ≤ k by omega)
      have d := c.dg (i + 1) (by omega)
      omega
    have dif : ∀ i j, i < k + 1 → j < k + 1 → r i - r j ≤ t (i + 1) (j + 1) := fun i j hi hj => by
      have h1 : r i - r j ≤ (if j + 1 = 0 then _ else min (t (i + 1) (j + 1)) ((if i + 1 = 0 then 0 else hiP t a k (i + 1)) + t 0 (j + 1))) := h (i + 1) (j + 1) (by omega) (by omega)
      rw [if_neg (by omega)] at h1
      omega
    have low : ∀ j, j < k + 1 → -r j ≤ t 0 (j + 1) := fun j hj => by
      have h1 : (0 : Int) - r j ≤ (if j + 1 = 0 then _ else min (t 0 (j + 1)) ((if (0 : Nat) = 0 then 0 else hiP t a k 0) + t 0 (j + 1))) := h 0 (j + 1) (by omega) (by omega)
      rw [if_neg (by omega)] at h1
      omega
    -- how long time has passed at least
    have back : ∀ m, m ≤ k + 1 → ∃ τ : Int, 0 ≤ τ ∧ (∀ i, i < m → r i - t (i + 1) 0 ≤ τ) ∧ (τ = 0 ∨ ∃ i, i < m ∧ τ = r i - t (i + 1) 0) := fun m => by
      induction m with
      | zero => exact fun _ => ⟨0, by omega, fun i hi => by omega, .inl rfl⟩
      | succ m ih =>
        intro hm
        obtain ⟨τ, h0, h1, h2⟩ := ih (by omega)
        by_cases hh : r m - t (m + 1) 0 ≤ τ
        · refine ⟨τ, h0, fun i hi => ?_, h2.imp id fun ⟨i, hi, e⟩ => ⟨i, by omega, e⟩⟩
          by_cases e : i = m
          · subst e
            exact hh
          · exact h1 i (by omega)
        · refine ⟨r m - t (m + 1) 0, by omega, fun i hi => ?_, .inr ⟨m, by omega, rfl⟩⟩
          by_cases e : i = m
          · subst e
            exact Int.le_refl _
          · have := h1 i (by omega)
            omega
    obtain ⟨τ, h0, h1, h2⟩ := back (k + 1) (Nat.le_refl _)
    refine ⟨fun i => r i - τ, τ, fun i j hi hj => ?_, h0, fun i hi => ⟨by show r i = r i - τ + τ; omega, top i hi⟩⟩
    have d0 := c.dg 0 (by omega)
    cases i with
    | zero =>
      cases j with
      | zero =>
        show (0 : Int) - 0 ≤ t 0 0
        omega
      | succ j =>
        show (0 : Int) - (r j - τ) ≤ t 0 (j + 1)
        have l := low j (by omega)
        rcases h2 with e | ⟨m, hm, e⟩
        · omega
        · have e1 := dif m j hm (by omega)
          have e2 := c.tr (m + 1) (j + 1) 0 (by omega) hj (by omega)
          omega
    | succ i =>
      cases j with
      | zero =>
        show r i - τ - 0 ≤ t (i + 1) 0
        have := h1 i (by omega)
        omega
      | succ j =>
        show r i - τ - (r j - τ) ≤ t (i + 1) (j + 1)
        have := dif i j (by omega) (by omega)
        omega
end
end Bd

set_option Elab.async false
set_option linter.all false
set_option maxRecDepth 100000
set_option maxHeartbeats 4000000
/-! rows of moved clocks, later rows -/
namespace Bd
open PySem PySem.Spec PyProof.Rows L2 Wd Br TO
/-- the places with 0 ahead -/
def kap (ps : Nat → Int) : Nat → Nat
  | 0 => 0
  | s + 1 => (ps s).toNat
def spMovR (K : PySem.W.Frag) : Sp := fun vs H Q _ => ∃ (a b : Addr) (n k : Nat) (t : Mx) (ps : Nat → Int), vs = [.ref a, .ref b] ∧ MatT H a (n + 1) t ∧ H b = some (.tup (rowV k ps)) ∧ n ≤ 12 ∧ k ≤ 12 ∧ (∀ s, s < k → 0 ≤ ps s ∧ ps s ≤ n) ∧
  ∀ a' H', Same H H' → MatT H' a' (k + 1) (movedM t (kap ps)) → Q (.ref a') H'
section
variable {P : Program} {w : World} {K : PySem.W.Frag} {mg : Str → Option Value} {base : Heap} {fI : Addr}
abbrev nMovR : List Str := ["rows", "places", "kept", "i", "j"]
theorem scMovR : FnScope nMovR ["rows", "places"] (defScope sMovedRows) := ⟨rfl, rfl, rfl, by decide +kernel, rfl, by decide +kernel, by decide +kernel⟩
theorem ok_movR {f : Addr} {fd : FuncData} (F : Fun K "moved_rows" "moved_rows" sMovedRows f fd) (X : BTxt mg fI) : FnOk P w K mg base CX0 1 f fd ["rows", "places"] (spMovR K) := by
  refine F.ok scMovR (fun vs H Q E h => ?_) (fun cdv A outer s H vs Q E hr h => ?_)
  · obtain ⟨a, b, n, k, t, ps, rfl, _⟩ := h
    rfl
  · obtain ⟨a, b, n, k, t, ps, rfl, mt, hb, hn, hk, pb, q⟩ := h
    have nd := scMovR.nd
    refine ⟨_, pss_cons (ps_set (i := 2) nd rfl (Or.inr rfl) (pe_op (r := rCatE K) op_catE (pe_tup (pa_cons pe_int pa_nil)) (pv 1)))
      (pss_one (ps_ret (pe_callTy (r := rTupQ K) call_tuple_of (by rfl) X.tup (by decide +kernel) (pa_cons (pe_lc (own := [("i", 3)]) (g := gName 3) (tt := tYes) rfl nd (pi_tup (pv 2)) (blkOk_by (N := nMovR) (sc := defScope sMovedRows) (by decide +kernel))
          (fun _ _ _ _ _ => pg_name (i := 3) nd rfl (Or.inr rfl)) (fun _ _ _ _ _ => pts_nil) (fun _ _ _ _ _ => pe_callTy (r := rTupQ K) call_tuple_of (by rfl) X.tup (by decide +kernel) (pa_cons (pe_lc (own := [("j", 4)]) (g := gName 4) (tt := tYes) rfl nd (show PI _ _ _ (iTup K (tVar 2)) from pi_tup (pv 2)) (blkOk_by (N := nMovR) (by rfl))
            (fun _ _ _ _ _ => pg_name (i := 4) nd rfl (Or.inl rfl)) (fun _ _ _ _ _ => pts_nil) (fun _ _ _ _ _ => pe_ix (r := rIxT K) ix_tup (pe_ix (r := rIxT K) ix_tup (pv 0) (pv 3) (fun _ _ => rfl)) (pv 4) (fun _ _ => rfl))) pa_nil))) pa_nil)))), ?_⟩
    refine ⟨(by show 1 ≤ sizeLine; decide), fun z hz => ⟨_, rfl, ?_⟩⟩
    have s1 := same_new (o := .tup [.int 0]) hz
    refine cat_reads (xs := [.int 0]) (ys := rowV k ps) upd_same (s1 _ _ hb) (by rw [rowV_len]; show 1 + k ≤ 1000; omega) fun r H2 s2 hr2 => ?_
    have s12 := s1.trans s2
    have er : [V.int 0] ++ rowV k ps = rowV (k + 1) fun s => ((kap ps s : Nat) : Int) := by
      apply List.ext_getElem?
      intro i
      cases i with
      | zero => rw [rowV_get (by omega)]; rfl
      | succ i =>
        rw [List.getElem?_append_right (by simp)]
        simp only [List.length_cons, List.length_nil, Nat.zero_add, Nat.add_sub_cancel]
        by_cases h : i < k
        · rw [rowV_get h, rowV_get (by omega)]
          congr 2
          show ps i = (((ps i).toNat : Nat) : Int)
          have := pb i h
          omega
        · rw [List.getElem?_eq_none (by rw [rowV_len]; omega), List.getElem?_eq_none (by rw [rowV_len]; omega)]
    rw [er] at hr2
    have kb : ∀ s, s < k + 1 → kap ps s < n + 1 := fun s hs => by
      cases s with
      | zero => show 0 < n + 1; omega
      | succ s =>
        have := pb s (by omega)
        show (ps s).toNat < n + 1
        omega
    have lr : (rowV (k + 1) fun s => ((kap ps s : Nat) : Int)).length = k + 1 := rowV_len
    refine ⟨_, rfl, r, rfl, ⟨_, SqT.of hr2⟩, fun D hD => ?_⟩
    refine lc_keep (n := (rowV (k + 1) fun s => ((kap ps s : Nat) : Int)).length) (walk_tup (K := K) (a := r) (xs := rowV (k + 1) fun s => ((kap ps s : Nat) : Int))) (fun i H y => RowAt H y (k + 1) (movedM t (kap ps) i)) (fun i H H' y k r => r.mono k) hD (by omega) (fun H6 s6 => SqT.of (s6 _ _ hr2)) ?_ ?_
    · rintro i x H6 H' kT hi s6 ⟨rfl, hx⟩ h
      rw [rowV_get (by omega)] at hx
      cases hx
      have hr6 := s6 _ _ hr2
      refine ⟨rfl, _, rfl, r, rfl, ⟨_, SqT.of hr6⟩, fun D6 hD6 => ?_⟩
      refine lc_ints (n := (rowV (k + 1) fun s => ((kap ps s : Nat) : Int)).length) (walk_tup (K := K) (a := r) (xs := rowV (k + 1) fun s => ((kap ps s : Nat) : Int))) (movedM t (kap ps) i) hD6 (by omega) (fun H7 s7 => SqT.of (s7 _ _ hr6)) ?_ ?_
      · rintro j x H7 H' kT2 hj s7 ⟨rfl, hx⟩ h2
        rw [rowV_get (by omega)] at hx
        cases hx
        obtain ⟨rs', b', q1, l1, at1, qb'⟩ := (mt.mono (Kp.of (s12.trans (s6.trans s7)))).at_ (K := K) (kb i (by omega))
        exact ⟨rfl, _, rfl, _, rfl, a, rs', _, _, rfl, rfl, SqT.of q1, at1, _, rfl, b', _, _, _, rfl, rfl, SqT.of qb', rowV_at (kb j (by omega)), h2 _ (Same.refl _)⟩
      · intro H7 s7 hD7
        rw [lr] at hD7
        exact ⟨D6, _, rfl, .inl ⟨SqL.of hD7, fun l hl => h _ _ (s7.trans (same_new hl)) ⟨l, rfl, upd_same⟩⟩⟩
    · intro H6 ys6 s6 d6 l6 r6
      refine ⟨D, ys6, rfl, .inl ⟨SqL.of d6, fun c6 hc6 => ?_⟩⟩
      exact q c6 _ (s12.trans (s6.trans (same_new hc6))) (mat_new hc6 (by omega) r6)
end
end Bd

set_option Elab.async false
set_option linter.all false
set_option maxRecDepth 100000
set_option maxHeartbeats 4000000
/-! later rows -/
namespace Bd
open PySem PySem.Spec PyProof.Rows L2 Wd Br TO
def spLatR (K : PySem.W.Frag) : Sp := fun vs H Q _ => ∃ (a : Addr) (n : Nat) (t : Mx) (τ : Int), vs = [.ref a, .int τ] ∧ MatT H a (n + 1) t ∧ n ≤ 12 ∧ ∀ a' H', Same H H' → MatT H' a' (n + 1) (laterM t τ) → Q (.ref a') H'
section
variable {P : Program} {w : World} {K : PySem.W.Frag} {mg : Str → Option Value} {base : Heap} {fI : Addr}
abbrev nLatR : List Str := ["rows", "time", "first", "most", "row"]
theorem scLatR : FnScope nLatR ["rows", "time"] (defScope sLaterRows) := ⟨rfl, rfl, rfl, by decide +kernel, rfl, by decide +kernel, by decide +kernel⟩
theorem ok_latR {f : Addr} {fd : FuncData} (F : Fun K "later_rows" "later_rows" sLaterRows f fd) (X : BTxt mg fI) : FnOk P w K mg base CX0 1 f fd ["rows", "time"] (spLatR K) := by
  refine F.ok scLatR (fun vs H Q E h => ?_) (fun cdv A outer s H vs Q E hr h => ?_)
  · obtain ⟨a, n, t, τ, rfl, _⟩ := h
    rfl
  · obtain ⟨a, n, t, τ, rfl, mt, hn, q⟩ := h
    have nd := scLatR.nd
    refine ⟨_, pss_cons (ps_set (i := 2) nd rfl (Or.inl rfl) (pe_callTy (r := rTupQ K) call_tuple_of (by rfl) X.tup (by decide +kernel) (pa_cons (pe_op op_cat (pe_lst (pa_cons (pe_ix (r := rIxT K) ix_tup (pe_ix (r := rIxT K) ix_tup (pv 0) pe_int (fun _ _ => rfl)) pe_int (fun _ _ => rfl)) pa_nil))
          (pe_lc (own := [("most", 3)]) (g := gName 3) (tt := tYes) rfl nd (pi_tup (pe_slice sl_tup (pe_ix (r := rIxT K) ix_tup (pv 0) pe_int (fun _ _ => rfl)) (po_some pe_int) po_none)) (blkOk_by (N := nLatR) (sc := defScope sLaterRows) (by decide +kernel))
          (fun _ _ _ _ _ => pg_name (i := 3) nd rfl (Or.inl rfl)) (fun _ _ _ _ _ => pts_nil) (fun _ _ _ _ _ => pe_op op_sub (pv 3) (pv 1)))) pa_nil)))
      (pss_one (ps_ret (pe_op (r := rCatE K) op_catE (pe_tup (pa_cons (pv 2) pa_nil)) (pe_callTy (r := rTupQ K) call_tuple_of (by rfl) X.tup (by decide +kernel) (pa_cons (pe_lc (own := [("row", 4)]) (g := gName 4) (tt := tYes) rfl nd (pi_tup (pe_slice sl_tup (pv 0) (po_some pe_int) po_none)) (blkOk_by (N := nLatR) (sc := defScope sLaterRows) (by decide +kernel))
          (fun _ _ _ _ _ => pg_name (i := 4) nd rfl (Or.inl rfl)) (fun _ _ _ _ _ => pts_nil) (fun _ _ _ _ _ => pe_op (r := rCatE K) op_catE (pe_tup (pa_cons (pe_op op_add (pe_ix (r := rIxT K) ix_tup (pv 4) pe_int (fun _ _ => rfl)) (pv 1)) pa_nil)) (pe_slice (show SlR _ (rSlT K) from sl_tup) (pv 4) (po_some pe_int) po_none))) pa_nil))))), ?_⟩
    obtain ⟨rs, b0, q1, l1, at0, qb0⟩ := mt.at_ (K := K) (i := 0) (by omega)
    obtain ⟨c1, c2⟩ := cut_tail (xs := rowV (n + 1) (t 0)) (by rw [rowV_len]; omega)
    refine ⟨_, rfl, a, rs, _, _, rfl, rfl, SqT.of q1, at0, b0, _, _, _, rfl, rfl, SqT.of qb0, rowV_at (j := 0) (Nat.succ_pos n), (by show 1 ≤ sizeLine; decide), fun l hl => ?_⟩
    have s1 := same_new (o := .lst [.int (t 0 0)]) hl
    have el : (upd H l (.lst [.int (t 0 0)])) l = some (.lst [.int (t 0 0)]) := upd_same
    generalize upd H l (.lst [.int (t 0 0)]) = H1 at s1 el
    refine ⟨_, rfl, a, rs, _, _, rfl, rfl, SqT.of (s1 _ _ q1), at0, _, rfl, b0, _, rfl, SqT.of (s1 _ _ qb0), c2, fun z hz => ?_⟩
    rw [c1, rowV_tail]
    have s2 := s1.trans (same_new (o := .tup (rowV n fun k => t 0 (k + 1))) hz)
    have el := same_new (o := .tup (rowV n fun k => t 0 (k + 1))) hz _ _ el
    have qz : (upd H1 z (.tup (rowV n fun k => t 0 (k + 1)))) z = some (.tup (rowV n fun k => t 0 (k + 1))) := upd_same
    generalize upd H1 z (.tup (rowV n fun k => t 0 (k + 1))) = H2 at s2 el qz
    refine ⟨z, rfl, ⟨_, SqT.of qz⟩, fun D hD => ?_⟩
    have lz : (rowV n fun k => t 0 (k + 1)).length = n := rowV_len
    refine lc_ints (n := (rowV n fun k => t 0 (k + 1)).length) (walk_tup (K := K) (a := z) (xs := rowV n fun k => t 0 (k + 1))) (fun k => t 0 (k + 1) - τ) hD (by omega) (fun H3 s3 => SqT.of (s3 _ _ qz)) ?_ ?_
    · rintro i x H3 H' kT hi s3 ⟨rfl, hx⟩ h
      rw [rowV_get (by omega)] at hx
      cases hx
      exact ⟨rfl, _, rfl, _, rfl, _, _, rfl, rfl, h _ (Same.refl _)⟩
    intro H3 s3 hD3
    rw [lz] at hD3
    refine ⟨l, D, [.int (t 0 0)], _, rfl, rfl, s3 _ _ el, hD3, Nat.le_of_lt (small1000 (by rw [rowV_len]; show 1 + n ≤ 1000; omega)), fun p hp => ?_⟩
    have er : [V.int (t 0 0)] ++ rowV n (fun k => t 0 (k + 1) - τ) = rowV (n + 1) (laterM t τ 0) := by
      apply List.ext_getElem?
      intro i
      cases i with
      | zero => rw [rowV_get (by omega)]; rfl
      | succ i =>
        rw [List.getElem?_append_right (by simp)]
        simp only [List.length_cons, List.length_nil, Nat.zero_add, Nat.add_sub_cancel]
        by_cases h : i < n
        · rw [rowV_get h, rowV_get (by omega)]
          unfold laterM
          rw [if_pos rfl, if_neg (by omega)]
        · rw [List.getElem?_eq_none (by rw [rowV_len]; omega), List.getElem?_eq_none (by rw [rowV_len]; omega)]
    rw [er]
    have s4 := (s2.trans s3).trans (same_new (o := .lst (rowV (n + 1) (laterM t τ 0))) hp)
    refine ⟨p, _, rfl, .inl ⟨SqL.of upd_same, fun c hc => ?_⟩⟩
    have s5 := s4.trans (same_new (o := .tup (rowV (n + 1) (laterM t τ 0))) hc)
    have ec : (upd (upd H3 p (.lst (rowV (n + 1) (laterM t τ 0)))) c (.tup (rowV (n + 1) (laterM t τ 0)))) c = some (.tup (rowV (n + 1) (laterM t τ 0))) := upd_same
    generalize upd (upd H3 p (.lst (rowV (n + 1) (laterM t τ 0)))) c (.tup (rowV (n + 1) (laterM t τ 0))) = H5 at s5 ec
    clear s4 s3 s2 s1 hD3 hp hc el qz hz hl hD er
    refine ⟨_, rfl, (by show 1 ≤ sizeLine; decide), fun w0 hw => ?_⟩
    have s6 := s5.trans (same_new (o := .tup [.ref c]) hw)
    have ew : (upd H5 w0 (.tup [.ref c])) w0 = some (.tup [.ref c]) := upd_same
    have ec := same_new (o := .tup [.ref c]) hw _ _ ec
    generalize upd H5 w0 (.tup [.ref c]) = H6 at s6 ew ec
    have qr6 := s6 _ _ q1
    obtain ⟨d1, d2⟩ := cut_tail (xs := rs) (by omega)
    refine ⟨_, rfl, _, rfl, a, rs, rfl, SqT.of qr6, d2, fun y hy => ?_⟩
    rw [d1]
    have s7 := s6.trans (same_new (o := .tup (rs.drop 1)) hy)
    have ey : (upd H6 y (.tup (rs.drop 1))) y = some (.tup (rs.drop 1)) := upd_same
    have ew := same_new (o := .tup (rs.drop 1)) hy _ _ ew
    have ec := same_new (o := .tup (rs.drop 1)) hy _ _ ec
    generalize upd H6 y (.tup (rs.drop 1)) = H7 at s7 ey ew ec
    have ld : (rs.drop 1).length = n := by rw [List.length_drop, l1]; omega
    obtain ⟨rk, qk, lk, rrk⟩ := id (mt.mono (Kp.of s7))
    have ek : rk = rs := by
      rw [s7 _ _ q1] at qk
      injection (Option.some.inj qk) with e
      exact e.symm
    subst ek
    refine ⟨y, rfl, ⟨_, SqT.of ey⟩, fun D2 hD2 => ?_⟩
    refine lc_keep (n := (rk.drop 1).length) (walk_tup (K := K) (a := y) (xs := rk.drop 1)) (fun i H y => RowAt H y (n + 1) (laterM t τ (i + 1))) (fun _ _ _ _ kp r => r.mono kp) hD2 (by omega) (fun H8 s8 => SqT.of (s8 _ _ ey)) ?_ ?_
    · rintro i x H8 H' kT hi s8 ⟨rfl, hx⟩ h
      rw [List.getElem?_drop, Nat.add_comm] at hx
      obtain ⟨b, rfl, qb⟩ := rrk (i + 1) x hx
      have qb := s8 _ _ qb
      refine ⟨rfl, _, rfl, b, _, _, _, rfl, rfl, SqT.of qb, rowV_at (j := 0) (Nat.succ_pos n), _, rfl, _, _, rfl, rfl, (by show 1 ≤ sizeLine; decide), fun u hu => ?_⟩
      have w1 := same_new (o := .tup [.int (t (i + 1) 0 + τ)]) hu
      have eu : (upd H' u (.tup [.int (t (i + 1) 0 + τ)])) u = some (.tup [.int (t (i + 1) 0 + τ)]) := upd_same
      generalize upd H' u (.tup [.int (t (i + 1) 0 + τ)]) = G1 at w1 eu
      obtain ⟨g1, g2⟩ := cut_tail (xs := rowV (n + 1) (t (i + 1))) (by rw [rowV_len]; omega)
      refine ⟨_, rfl, _, rfl, b, _, rfl, SqT.of (w1 _ _ qb), g2, fun v hv => ?_⟩
      rw [g1, rowV_tail]
      have w2 := same_new (o := .tup (rowV n fun k => t (i + 1) (k + 1))) hv
      refine cat_reads (xs := [.int (t (i + 1) 0 + τ)]) (ys := rowV n fun k => t (i + 1) (k + 1)) (w2 _ _ eu) upd_same (by rw [rowV_len]; show 1 + n ≤ 1000; omega) fun r G2 w3 hr3 => h _ G2 ((w1.trans w2).trans w3) ⟨r, rfl, ?_⟩
      rw [hr3]
      congr 2
      apply List.ext_getElem?
      intro j
      cases j with
      | zero => rw [rowV_get (by omega)]; rfl
      | succ j =>
        rw [List.getElem?_append_right (by simp)]
        simp only [List.length_cons, List.length_nil, Nat.zero_add, Nat.add_sub_cancel]
        by_cases h : j < n
        · rw [rowV_get h, rowV_get (by omega)]
          unfold laterM
          rw [if_neg (by omega), if_neg (by omega)]
        · rw [List.getElem?_eq_none (by rw [rowV_len]; omega), List.getElem?_eq_none (by rw [rowV_len]; omega)]
    · intro H8 ys s8 d8 l8 r8
      refine ⟨D2, ys, rfl, .inl ⟨SqL.of d8, fun e he => ?_⟩⟩
      have w1 := same_new (o := .tup ys) he
      refine cat_reads (xs := [.ref c]) (ys := ys) (w1 _ _ (s8 _ _ ew)) upd_same (by show 1 + ys.length ≤ 1000; omega) fun r G2 w3 hr3 => q r G2 ((s7.trans s8).trans (w1.trans w3)) ⟨_, hr3, by rw [List.length_append]; show 1 + ys.length = n + 1; omega, fun i x hx => ?_⟩
      cases i with
      | zero =>
        cases hx
        exact ⟨c, rfl, w3 _ _ (w1 _ _ (s8 _ _ ec))⟩
      | succ i => exact (r8 i x (by simpa using hx)).mono ((Kp.of w1).trans (Kp.of w3))
end
end Bd

set_option Elab.async false
set_option linter.all false
set_option maxRecDepth 100000
set_option maxHeartbeats 4000000
/-! ranges with a first number, as values -/
namespace Br
open PySem PySem.Spec PyProof.Rows L2
section
variable {X : Cx} {tg : Expr}
/-- for .. in r, r the range object from lo -/
def iRngL (lo : Nat) (tl : TE) : TI := fun σ H R => tl σ H fun x H1 => ∃ (a : Addr) (n : Nat), x = .ref a ∧ H1 a = some (.rng (lo : Int) ((lo + n : Nat) : Int)) ∧ lo + n ≤ 1000 ∧ R (Itr (lo : Int) n) H1
theorem pi_rngL {lo : Nat} {l : Expr} {tl : TE} (hl : PE X l tl) : PI X tg l (iRngL lo tl) := by
  refine ⟨fun pins s σ H R I h => ?_⟩
  refine thn (hl.run pins s σ H _ I h) fun v s1 ⟨x, H1, I1, r1, q1⟩ => ?_
  obtain ⟨a, n, e, ha, hn, q⟩ := q1
  subst e
  cases r1
  obtain ⟨t, u, w, ho⟩ := (show ObjOk X.prog X.w H1 s1.heap a (.rng (lo : Int) ((lo + n : Nat) : Int)) from I1.hok a _ ha)
  refine wpAny_pyIter_range (r := a) (a := (lo : Int)) (b := ((lo + n : Nat) : Int)) (c := 1) (t := t) (u := u) (v := w) ho (small_one (by omega) (by omega) (by omega) (by omega)) ?_
  refine ⟨s1.heap.objs.size, [s1.heap.objs.size], _, _, H1, rfl, I1.kept (t' := s1.toks) fun b o z => Heap.get?_push_of_some _ z, turn_range _ (lo : Int) n, ?_, fun b hb => ?_, q⟩
  · have c1 : (lo : Int) + ((0 : Nat) : Int) * 1 = (lo : Int) := by simp
    have c2 : (n : Int) - ((0 : Nat) : Int) = Builtin.Range.rangeSize (lo : Int) ((lo + n : Nat) : Int) 1 := by
      rw [rangeSize_one]
      split <;> omega
    show IsRangeIter _ _ ((lo : Int) + ((0 : Nat) : Int) * 1) ((n : Int) - ((0 : Nat) : Int)) 1
    rw [c1, c2]
    exact Heap.get?_push_size _ rfl
  · obtain rfl : b = s1.heap.objs.size := by simpa using hb
    exact I1.fpOk (Nat.le_refl _) (I1.hok.fresh (Nat.le_refl _))
end
end Br

set_option Elab.async false
set_option linter.all false
set_option maxRecDepth 100000
set_option maxHeartbeats 4000000
/-! risen rows -/
namespace Bd
open PySem PySem.Spec PyProof.Rows L2 Wd Br TO
def spRisR (K : PySem.W.Frag) : Sp := fun vs H Q _ => ∃ (a b : Addr) (n : Nat) (t : Mx) (ta : Nat → Int), vs = [.ref a, .ref b] ∧ MatT H a (n + 1) t ∧ H b = some (.tup (rowV n ta)) ∧ n ≤ 12 ∧ Closed (n + 1) t ∧
  (∀ a' H', Same H H' → (∀ j, j < n → 0 ≤ t 0 (j + 1) + ta j) → MatT H' a' (n + 1) (risenM t ta (n - 1)) → Q (.ref a') H') ∧ (∀ H' j, Same H H' → j < n → t 0 (j + 1) + ta j < 0 → Q .non H')
theorem at_one {xs : List V} {i : Nat} {v : V} (h : xs[i + 1]? = some v) : atI xs (1 + (i : Int)) = some v := by
  rw [show (1 + (i : Int)) = ((i + 1 : Nat) : Int) by omega]
  exact atI_nat h
theorem at_sub {xs : List V} {i : Nat} {v : V} (h : xs[i]? = some v) : atI xs (1 + (i : Int) - 1) = some v := by
  rw [show (1 + (i : Int) - 1) = ((i : Nat) : Int) by omega]
  exact atI_nat h
theorem MatT.at1 {H : Hp} {K : PySem.W.Frag} {a : Addr} {n : Nat} {m : Mx} (h : MatT H a n m) {i : Nat} (hi : i + 1 < n) : ∃ (rs : List V) (b : Addr), H a = some (.tup rs) ∧ rs.length = n ∧ atI rs (1 + (i : Int)) = some (.ref b) ∧ H b = some (.tup (rowV n (m (i + 1)))) := by
  obtain ⟨rs, b, q, l, e, qb⟩ := h.at_ (K := K) hi
  exact ⟨rs, b, q, l, by rw [show (1 + (i : Int)) = ((i + 1 : Nat) : Int) by omega]; exact e, qb⟩
section
variable {P : Program} {w : World} {K : PySem.W.Frag} {mg : Str → Option Value} {base : Heap} {fI : Addr}
abbrev nRisR : List Str := ["rows", "tops", "clocks", "highest", "i", "j"]
theorem scRisR : FnScope nRisR ["rows", "tops"] (defScope sRisenRows) := ⟨rfl, rfl, rfl, by decide +kernel, rfl, by decide +kernel, by decide +kernel⟩
theorem ok_risR {f : Addr} {fd : FuncData} (F : Fun K "risen_rows" "risen_rows" sRisenRows f fd) (X : BTxt mg fI) : FnOk P w K mg base CX0 1 f fd ["rows", "tops"] (spRisR K) := by
  refine F.ok scRisR (fun vs H Q E h => ?_) (fun cdv A outer s H vs Q E hr h => ?_)
  · obtain ⟨a, b, n, t, ta, rfl, _⟩ := h
    rfl
  · obtain ⟨a, b, n, t, ta, rfl, mt, hb, hn, cl, yes, no⟩ := h
    have nd := scRisR.nd
    refine ⟨_, pss_cons (ps_set (i := 2) nd rfl (Or.inr rfl) (pe_callTy cr_range2 (by rfl) X.range (by decide +kernel) (pa_cons pe_int (pa_cons (pe_callB call_len_seq (by rfl) X.len PySem.boot_len (pa_cons (pv 0) pa_nil)) pa_nil))))
      (pss_cons (ps_if (pt_val (pe_callB (cr_any rfl) (by rfl) X.any (by decide +kernel) (pa_cons (pe_lc (own := [("j", 5)]) (g := gName 5) (tt := tYes) rfl nd (pi_rngL (lo := 1) (pv 2)) (blkOk_by (N := nRisR) (sc := defScope sRisenRows) (by decide +kernel))
          (fun _ _ _ _ _ => pg_name (i := 5) nd rfl (Or.inl rfl)) (fun _ _ _ _ _ => pts_nil) (fun _ _ _ _ _ => pe_cmpR op_lt (pe_op op_add (pe_ix (r := rIxT K) ix_tup (pe_ix (r := rIxT K) ix_tup (pv 0) pe_int (fun _ _ => rfl)) (pv 5) (fun _ _ => rfl)) (pe_ix (r := rIxT K) ix_tup (pv 1) (pe_op op_sub (pv 5) pe_int) (fun _ _ => rfl))) pe_int (nomark _))) pa_nil))) (pss_one (ps_ret pe_non)) pss_nil)
      (pss_cons (ps_set (i := 3) nd rfl (Or.inr rfl) (pe_op op_cat (pe_lst (pa_cons pe_int pa_nil)) (pe_lc (own := [("i", 4)]) (g := gName 4) (tt := tYes) rfl nd (pi_rngL (lo := 1) (pv 2)) (blkOk_by (N := nRisR) (sc := defScope sRisenRows) (by decide +kernel))
          (fun _ _ _ _ _ => pg_name (i := 4) nd rfl (Or.inr rfl)) (fun _ _ _ _ _ => pts_nil) (fun _ _ _ _ _ => pe_callB (r := rMin K) (cr_min rfl) (by rfl) X.min (by decide +kernel) (pa_cons (pe_lc (own := [("j", 5)]) (g := gName 5) (tt := tYes) rfl nd (pi_rngL (lo := 1) (pv 2)) (blkOk_by (N := nRisR) (by rfl))
            (fun _ _ _ _ _ => pg_name (i := 5) nd rfl (Or.inl rfl)) (fun _ _ _ _ _ => pts_nil) (fun _ _ _ _ _ => pe_op op_add (pe_ix (r := rIxT K) ix_tup (pe_ix (r := rIxT K) ix_tup (pv 0) (pv 4) (fun _ _ => rfl)) (pv 5) (fun _ _ => rfl)) (pe_ix (r := rIxT K) ix_tup (pv 1) (pe_op op_sub (pv 5) pe_int) (fun _ _ => rfl)))) pa_nil)))))
      (pss_one (ps_ret (pe_callTy (r := rTupQ K) call_tuple_of (by rfl) X.tup (by decide +kernel) (pa_cons (pe_lc (own := [("i", 4)]) (g := gName 4) (tt := tYes) rfl nd (pi_range1 rfl X.range (pa_cons (pe_callB call_len_seq (by rfl) X.len PySem.boot_len (pa_cons (pv 0) pa_nil)) pa_nil)) (blkOk_by (N := nRisR) (sc := defScope sRisenRows) (by decide +kernel))
          (fun _ _ _ _ _ => pg_name (i := 4) nd rfl (Or.inr rfl)) (fun _ _ _ _ _ => pts_nil) (fun _ _ _ _ _ => pe_op (r := rCatE K) op_catE (pe_tup (pa_cons (pe_ix (r := rIxL K) ix_list (pv 3) (pv 4) (fun _ _ => rfl)) pa_nil)) (pe_callTy (r := rTupQ K) call_tuple_of (by rfl) X.tup (by decide +kernel) (pa_cons (pe_lc (own := [("j", 5)]) (g := gName 5) (tt := tYes) rfl nd (pi_rngL (lo := 1) (pv 2)) (blkOk_by (N := nRisR) (by rfl))
            (fun _ _ _ _ _ => pg_name (i := 5) nd rfl (Or.inl rfl)) (fun _ _ _ _ _ => pts_nil) (fun _ _ _ _ _ => pe_callB (call_min2 rfl) (by rfl) X.min (by decide +kernel) (pa_cons (pe_ix (r := rIxT K) ix_tup (pe_ix (r := rIxT K) ix_tup (pv 0) (pv 4) (fun _ _ => rfl)) (pv 5) (fun _ _ => rfl))
              (pa_cons (pe_op op_add (pe_ix (r := rIxL K) ix_list (pv 3) (pv 4) (fun _ _ => rfl)) (pe_ix (r := rIxT K) ix_tup (pe_ix (r := rIxT K) ix_tup (pv 0) pe_int (fun _ _ => rfl)) (pv 5) (fun _ _ => rfl))) pa_nil)))) pa_nil)))) pa_nil)))))), ?_⟩
    obtain ⟨rs, b0, q1, l1, at0, qb0⟩ := mt.at_ (K := K) (i := 0) (by omega)
    refine ⟨_, rfl, a, rs, rfl, .inr (SqT.of q1), _, _, rfl, fun g hg => ?_⟩
    rw [l1]
    have s1 := same_new (o := .rng 1 ((n + 1 : Nat) : Int)) hg
    have hrng : (upd H g (.rng 1 ((n + 1 : Nat) : Int))) g = some (.rng ((1 : Nat) : Int) ((1 + n : Nat) : Int)) := by
      rw [upd_same, Nat.add_comm n 1]
      rfl
    generalize upd H g (.rng 1 ((n + 1 : Nat) : Int)) = H1 at s1 hrng
    refine ⟨_, rfl, g, n, rfl, hrng, by omega, fun D hD => ?_⟩
    refine lc_bs (walk_range (lo := 1) (n := n)) (fun j => t 0 (j + 1) + ta j < 0) hD (by omega) (fun _ _ => trivial) ?_ ?_
    · rintro j x H2 H' kT hj s2 ⟨rfl, rfl⟩ h
      have s12 := s1.trans s2
      exact ⟨rfl, _, rfl, a, rs, _, _, rfl, rfl, SqT.of (s12 _ _ q1), at0, _, rfl, b0, _, _, _, rfl, rfl, SqT.of (s12 _ _ qb0), at_one (rowV_get (by omega)), _, rfl, _, rfl, _, _, rfl, rfl, b, _, _, _, rfl, rfl, SqT.of (s12 _ _ hb), at_sub (rowV_get hj), _, _, rfl, rfl, _, _, rfl, rfl, h _ _ (Same.refl _) decide_eq_true_iff⟩
    rintro H2 bs s2 hD2 - hany
    refine ⟨D, bs, rfl, SqL.of hD2, _, rfl, ?_⟩
    have s12 := s1.trans s2
    cases hbs : bs.any id with
    | true =>
      obtain ⟨j, hj, h⟩ := hany.mp hbs
      exact iteT (no _ j s12 hj h)
    | false =>
      have ok : ∀ j, j < n → 0 ≤ t 0 (j + 1) + ta j := fun j hj => Int.not_lt.mp fun z => by
        have := hany.mpr ⟨j, hj, z⟩
        rw [hbs] at this
        cases this
      refine iteF ?_
      have q2 := s12 _ _ q1
      refine ⟨(by show 1 ≤ sizeLine; decide), fun l hl => ?_⟩
      have s3 := s12.trans (same_new (o := .lst [.int 0]) hl)
      have el : (upd H2 l (.lst [.int 0])) l = some (.lst [.int 0]) := upd_same
      have hrng := same_new (o := .lst [.int 0]) hl _ _ (s2 _ _ hrng)
      generalize upd H2 l (.lst [.int 0]) = H3 at s3 el hrng
      refine ⟨_, rfl, g, n, rfl, hrng, by omega, fun D2 hDh => ?_⟩
      refine lc_ints (walk_range (lo := 1) (n := n)) (fun i => hiP t ta (n - 1) (i + 1)) hDh (by omega) (fun _ _ => trivial) ?_ ?_
      · rintro i x H4 H' kT hi s4 ⟨rfl, rfl⟩ h
        have s34 := s3.trans s4
        refine ⟨rfl, _, rfl, g, n, rfl, s4 _ _ hrng, by omega, fun D3 hD3 => ?_⟩
        refine lc_ints (walk_range (lo := 1) (n := n)) (fun j => t (i + 1) (j + 1) + ta j) hD3 (by omega) (fun _ _ => trivial) ?_ ?_
        · rintro j x H5 H' kT2 hj s5 ⟨rfl, rfl⟩ h2
          have s35 := s34.trans s5
          obtain ⟨rs', b', q3, l3, at3, qb'⟩ := (mt.mono (Kp.of s35)).at1 (K := K) (i := i) (by omega)
          exact ⟨rfl, _, rfl, _, rfl, a, rs', _, _, rfl, rfl, SqT.of q3, at3, _, rfl, b', _, _, _, rfl, rfl, SqT.of qb', at_one (rowV_get (by omega)), _, rfl, _, rfl, _, _, rfl, rfl, b, _, _, _, rfl, rfl, SqT.of (s35 _ _ hb), at_sub (rowV_get hj), _, _, rfl, rfl, h2 _ (Same.refl _)⟩
        · intro H5 s5 eD5
          have e : rowV n (fun j => t (i + 1) (j + 1) + ta j) = ((List.range n).map fun j => t (i + 1) (j + 1) + ta j).map V.int := by
            unfold rowV
            rw [List.map_map]
            rfl
          refine ⟨D3, (List.range n).map fun j => t (i + 1) (j + 1) + ta j, rfl, SqL.of (by rw [eD5, e]), by rw [List.length_map, List.length_range]; omega, fun z hz hle => ?_⟩
          obtain ⟨l', hl', e'⟩ := hiP_at (t := t) (a := ta) (n - 1) (i + 1)
          have z1 : z ≤ hiP t ta (n - 1) (i + 1) := by
            rw [e']
            exact hle _ (List.mem_map.mpr ⟨l', List.mem_range.mpr (by omega), rfl⟩)
          have z2 : hiP t ta (n - 1) (i + 1) ≤ z := by
            obtain ⟨j, hj, rfl⟩ := List.mem_map.mp hz
            exact hiP_le (by have := List.mem_range.mp hj; omega)
          obtain rfl := Int.le_antisymm z1 z2
          exact h _ s5
      intro H4 s4 eD4
      refine ⟨l, D2, [.int 0], _, rfl, rfl, s4 _ _ el, eD4, Nat.le_of_lt (small1000 (by rw [rowV_len]; show 1 + n ≤ 1000; omega)), fun p hp => ?_⟩
      have er : [V.int 0] ++ rowV n (fun i => hiP t ta (n - 1) (i + 1)) = rowV (n + 1) (hiT t ta (n - 1)) := by
        apply List.ext_getElem?
        intro i
        cases i with
        | zero => rw [rowV_get (by omega)]; rfl
        | succ i =>
          rw [List.getElem?_append_right (by simp)]
          simp only [List.length_cons, List.length_nil, Nat.zero_add, Nat.add_sub_cancel]
          by_cases h : i < n
          · rw [rowV_get h, rowV_get (by omega)]
            unfold hiT
            rw [if_neg (by omega)]
          · rw [List.getElem?_eq_none (by rw [rowV_len]; omega), List.getElem?_eq_none (by rw [rowV_len]; omega)]
      rw [er]
      have s5 := (s3.trans s4).trans (same_new (o := .lst (rowV (n + 1) (hiT t ta (n - 1)))) hp)
      have hrng := same_new (o := .lst (rowV (n + 1) (hiT t ta (n - 1)))) hp _ _ (s4 _ _ hrng)
      have ep : (upd H4 p (.lst (rowV (n + 1) (hiT t ta (n - 1))))) p = some (.lst (rowV (n + 1) (hiT t ta (n - 1)))) := upd_same
      generalize upd H4 p (.lst (rowV (n + 1) (hiT t ta (n - 1)))) = H5 at s5 hrng ep
      refine ⟨_, rfl, a, rs, rfl, .inr (SqT.of (s5 _ _ q1)), ?_⟩
      rw [l1]
      refine ⟨_, rfl, by omega, by omega, fun D4 hDf => ?_⟩
      rw [Int.toNat_natCast]
      refine lc_keep (walk_rng (n := n + 1)) (fun i H y => RowAt H y (n + 1) (risenM t ta (n - 1) i)) (fun _ _ _ _ kp r => r.mono kp) hDf (by omega) (fun _ _ => trivial) ?_ ?_
      · rintro i x H6 H' kT hi s6 ⟨rfl, rfl⟩ h
        refine ⟨rfl, _, rfl, _, rfl, p, _, _, _, rfl, rfl, SqL.of (s6 _ _ ep), rowV_at hi, (by show 1 ≤ sizeLine; decide), fun u hu => ?_⟩
        have w1 := s6.trans (same_new (o := .tup [.int (hiT t ta (n - 1) i)]) hu)
        have s6 := same_new (o := .tup [.int (hiT t ta (n - 1) i)]) hu
        have eu : (upd H' u (.tup [.int (hiT t ta (n - 1) i)])) u = some (.tup [.int (hiT t ta (n - 1) i)]) := upd_same
        generalize upd H' u (.tup [.int (hiT t ta (n - 1) i)]) = H7 at w1 eu s6
        refine ⟨_, rfl, g, n, rfl, w1 _ _ hrng, by omega, fun D5 hD5 => ?_⟩
        refine lc_ints (walk_range (lo := 1) (n := n)) (fun j => min (t i (j + 1)) (hiT t ta (n - 1) i + t 0 (j + 1))) hD5 (by omega) (fun _ _ => trivial) ?_ ?_
        · rintro j x H8 H' kT2 hj s8 ⟨rfl, rfl⟩ h2
          have s58 := s5.trans (w1.trans s8)
          obtain ⟨rs', b', q3, l3, at3, qb'⟩ := (mt.mono (Kp.of s58)).at_ (K := K) hi
          refine ⟨rfl, _, rfl, _, rfl, a, rs', _, _, rfl, rfl, SqT.of q3, at3, _, rfl, b', _, _, _, rfl, rfl, SqT.of qb', at_one (rowV_get (by omega)), ?_⟩
          refine ⟨_, rfl, _, rfl, p, _, _, _, rfl, rfl, SqL.of ((w1.trans s8) _ _ ep), rowV_at hi, _, rfl, a, rs, _, _, rfl, rfl, SqT.of (s58 _ _ q1), at0, _, rfl, b0, _, _, _, rfl, rfl, SqT.of (s58 _ _ qb0), at_one (rowV_get (by omega)), _, _, rfl, rfl, _, _, rfl, ?_⟩
          have z := h2 _ (Same.refl _)
          have e : min (t i (j + 1)) (hiT t ta (n - 1) i + t 0 (j + 1)) = if hiT t ta (n - 1) i + t 0 (j + 1) < t i (j + 1) then hiT t ta (n - 1) i + t 0 (j + 1) else t i (j + 1) := by
            split <;> omega
          rw [e] at z
          exact z
        · intro H8 s8 eD8
          refine ⟨D5, _, rfl, .inl ⟨SqL.of eD8, fun v hv => ?_⟩⟩
          have w2 := s8.trans (same_new (o := .tup (rowV n fun j => min (t i (j + 1)) (hiT t ta (n - 1) i + t 0 (j + 1)))) hv)
          refine cat_reads (xs := [.int (hiT t ta (n - 1) i)]) (ys := rowV n fun j => min (t i (j + 1)) (hiT t ta (n - 1) i + t 0 (j + 1))) (w2 _ _ eu) upd_same (by rw [rowV_len]; show 1 + n ≤ 1000; omega) fun r G2 w3 hr3 => h _ G2 ((s6.trans w2).trans w3) ⟨r, rfl, ?_⟩
          rw [hr3]
          congr 2
          apply List.ext_getElem?
          intro j
          cases j with
          | zero =>
            rw [rowV_get (by omega)]
            rfl
          | succ j =>
            rw [List.getElem?_append_right (by simp)]
            simp only [List.length_cons, List.length_nil, Nat.zero_add, Nat.add_sub_cancel]
            by_cases h : j < n
            · rw [rowV_get h, rowV_get (by omega)]
              unfold risenM
              rw [if_neg (by omega)]
            · rw [List.getElem?_eq_none (by rw [rowV_len]; omega), List.getElem?_eq_none (by rw [rowV_len]; omega)]
      · intro H6 ys s6 d6 l6 r6
        refine ⟨D4, ys, rfl, .inl ⟨SqL.of d6, fun c hc => ?_⟩⟩
        exact yes c _ (s5.trans (s6.trans (same_new hc))) ok (mat_new hc (by omega) r6)
end
end Bd

set_option Elab.async false
set_option linter.all false
set_option maxRecDepth 100000
set_option maxHeartbeats 4000000
/-! comprehensions of two loops over places; zip of tuples -/
namespace Bd
open PySem PySem.Spec PyProof.Rows L2 Wd Br RZ
theorem mul_bound {i n : Nat} (h : i < n) (j : Nat) (hj : j < n) : i * n + j < n * n := by
  have h1 : (i + 1) * n ≤ n * n := Nat.mul_le_mul_right n h
  rw [Nat.succ_mul] at h1
  omega
theorem all_app {bs : List Bool} {b : Bool} : (bs ++ [b]).all id = true ↔ bs.all id = true ∧ b = true := by
  rw [List.all_append, Bool.and_eq_true]
  simp
/-- truths for i in places for j in places -/
theorem lc2_rng {n a b c : Nat} {te : TE} {vs vs1 : List Nat} {σ : L2.St} {H1 : Hp} {p D : Addr} {Qd : Hp → Prop} (P : Nat → Nat → Prop) (hD : H1 D = none) (hp : H1 p = some (.rng 0 (n : Int))) (hn : n ≤ 13)
    (hw : ∀ v, wipe ((wipe σ vs).set a v) vs = wipe σ vs) (hc : ∀ v, ((wipe σ vs).set a v)[c]? = some (some (.ref p))) (hw1 : ∀ v u, wipe ((wipe ((wipe σ vs).set a v) vs1).set b u) vs1 = wipe ((wipe σ vs).set a v) vs1)
    (he : ∀ (i j : Nat) H (kT : VK), i < n → j < n → Same H1 H → (∀ z H4, Same H H4 → (z = true ↔ P i j) → kT (.bl z) H4) → te ((wipe ((wipe σ vs).set a (some (.int (i : Int)))) vs1).set b (some (.int (j : Int)))) H kT)
    (hd : ∀ H (bs : List Bool), Same H1 H → H D = some (.lst (bs.map V.bl)) → (bs.all id = true ↔ ∀ i j, i < n → j < n → P i j) → Qd H) :
    ∃ W : Nat → Nat → Hp → Prop, (∃ m, W 0 m (upd H1 D (.lst []))) ∧ ∀ i m H, W i m H →
      ((Itr 0 n).stop i H ∧ Qd H) ∨ ((Itr 0 n).go i H ∧ ∃ Nx : Hp → Prop, (∀ H', Nx H' → ∃ m', m' < m ∧ W (i + 1) m' H') ∧ ∀ x H', (Itr 0 n).yld i H x H' → gName a x (wipe σ vs) H' fun σ2 H2 => wipe σ2 vs = wipe σ vs ∧ tYes σ2 H2 fun b0 H3 =>
        if b0 = true then iRngN (tVar c) σ2 H3 fun J1 H4 => ∃ W1 : Nat → Nat → Hp → Prop, (∃ m, W1 0 m H4) ∧ ∀ j k H, W1 j k H →
          (J1.stop j H ∧ Nx H) ∨ (J1.go j H ∧ ∃ Nx1 : Hp → Prop, (∀ H', Nx1 H' → ∃ k', k' < k ∧ W1 (j + 1) k' H') ∧ ∀ x H', J1.yld j H x H' → gName b x (wipe σ2 vs1) H' fun σ3 H5 => wipe σ3 vs1 = wipe σ2 vs1 ∧ tYes σ3 H5 fun b1 H6 =>
            if b1 = true then te σ3 H6 fun y H7 => ∃ acc, H7 D = some (.lst acc) ∧ acc.length < sizeLine ∧ Nx1 (upd H7 D (.lst (acc ++ [y]))) else Nx1 H6)
        else Nx H3) := by
  have past : ∀ {H : Hp} {o : HO}, Same H1 H → Same H1 (upd H D o) := fun s b u e => by
    rw [upd_ne (ne_of_none e hD)]
    exact s _ _ e
  refine ⟨fun i m H => m = n - i ∧ i ≤ n ∧ Same H1 H ∧ ∃ bs : List Bool, H D = some (.lst (bs.map V.bl)) ∧ bs.length = i * n ∧ (bs.all id = true ↔ ∀ i' j', i' < i → j' < n → P i' j'),
    ⟨n, by omega, Nat.zero_le _, past (Same.refl _), [], upd_same, by simp, by simp⟩, ?_⟩
  rintro i m H ⟨rfl, hi, s, bs, d, l, al⟩
  by_cases hlt : i < n
  · refine .inr ⟨walk_rng.goes i H hlt trivial, fun H' => Same H1 H' ∧ ∃ bs : List Bool, H' D = some (.lst (bs.map V.bl)) ∧ bs.length = (i + 1) * n ∧ (bs.all id = true ↔ ∀ i' j', i' < i + 1 → j' < n → P i' j'),
      fun H' ⟨s', bs', d', l', al'⟩ => ⟨n - (i + 1), by omega, rfl, by omega, s', bs', d', l', al'⟩, fun x H' y => ?_⟩
    obtain ⟨rfl, rfl⟩ := walk_rng.yields i H x H' hlt trivial y
    refine ⟨hw _, ?_⟩
    unfold tYes
    dsimp only
    refine iteT ⟨_, hc _, p, n, rfl, s _ _ hp, by omega, ?_⟩
    refine ⟨fun j k H => k = n - j ∧ j ≤ n ∧ Same H1 H ∧ ∃ bs : List Bool, H D = some (.lst (bs.map V.bl)) ∧ bs.length = i * n + j ∧ (bs.all id = true ↔ (∀ i' j', i' < i → j' < n → P i' j') ∧ ∀ j', j' < j → P i j'),
      ⟨n, by omega, Nat.zero_le _, s, bs, d, by omega, al.trans ⟨fun h => ⟨h, fun j' h' => by omega⟩, fun h => h.1⟩⟩, ?_⟩
    rintro j k H ⟨rfl, hj, s, bs, d, l, al⟩
    by_cases hjl : j < n
    · refine .inr ⟨walk_rng.goes j H hjl trivial, fun H' => Same H1 H' ∧ ∃ bs : List Bool, H' D = some (.lst (bs.map V.bl)) ∧ bs.length = i * n + (j + 1) ∧ (bs.all id = true ↔ (∀ i' j', i' < i → j' < n → P i' j') ∧ ∀ j', j' < j + 1 → P i j'),
        fun H' ⟨s', bs', d', l', al'⟩ => ⟨n - (j + 1), by omega, rfl, by omega, s', bs', d', l', al'⟩, fun x H' y => ?_⟩
      obtain ⟨rfl, rfl⟩ := walk_rng.yields j H x H' hjl trivial y
      refine ⟨hw1 _ _, ?_⟩
      refine iteT (he i j _ _ hlt hjl s fun z H4 s4 hz => ⟨bs.map V.bl, s4 _ _ d, small1000 ?_, past (s.trans s4), bs ++ [z], ?_, ?_, ?_⟩)
      · rw [List.length_map, l]
        have h1 := mul_bound hlt j hjl
        have h2 : n * n ≤ 13 * 13 := Nat.mul_le_mul hn hn
        omega
      · rw [upd_same, List.map_append]
        rfl
      · rw [List.length_append, l]
        rfl
      · rw [all_app, al, hz]
        constructor
        · rintro ⟨⟨h1, h2⟩, h3⟩
          refine ⟨h1, fun j' h' => ?_⟩
          rcases Nat.lt_succ_iff_lt_or_eq.mp h' with h | rfl
          · exact h2 j' h
          · exact h3
        · rintro ⟨h1, h2⟩
          exact ⟨⟨h1, fun j' h' => h2 j' (by omega)⟩, h2 j (by omega)⟩
    · obtain rfl : j = n := by omega
      refine .inl ⟨walk_rng.stops H trivial, s, bs, d, by rw [l, Nat.succ_mul], al.trans ⟨fun ⟨h1, h2⟩ i' j' hi' hj' => ?_, fun h => ⟨fun i' j' h1 h2 => h i' j' (by omega) h2, fun j' h' => h i j' (by omega) h'⟩⟩⟩
      rcases Nat.lt_succ_iff_lt_or_eq.mp hi' with h | rfl
      · exact h1 i' j' h hj'
      · exact h2 j' hj'
  · obtain rfl : i = n := by omega
    exact .inl ⟨walk_rng.stops H trivial, hd H bs s d al⟩
/-- zip of two tuples -/
theorem walk_zipT {K : PySem.W.Frag} {a b : Addr} {xs ys : List V} {n : Nat} (hn : n = min xs.length ys.length) : Walk (ItzT K a b) n (fun H => SqT K H a xs ∧ SqT K H b ys) (YPair (fun i => xs[i]?) (fun i => ys[i]?)) := by
  subst hn
  refine ⟨fun i _ hi q => ?_, fun _ q => ⟨xs, ys, q.1, q.2, by omega⟩, fun i H v H' _ q y => ?_⟩
  · have h1 : i < xs.length := by omega
    have h2 : i < ys.length := by omega
    exact ⟨xs, ys, xs[i], ys[i], q.1, q.2, by simp [h1], by simp [h2]⟩
  · obtain ⟨T, x, z, h1, h2, h3, h4, h5⟩ := y
    exact ⟨T, x, z, h1, h2, h3, h4 xs q.1, h5 ys q.2⟩
end Bd

set_option Elab.async false
set_option linter.all false
set_option maxRecDepth 100000
set_option maxHeartbeats 4000000
/-! holds, within, cut of rows -/
namespace Bd
open PySem PySem.Spec PyProof.Rows L2 Wd Br TO
theorem rowV_full (n : Nat) (q : Nat → Int) : [V.int 0] ++ rowV n q = rowV (n + 1) (full q) := by
  apply List.ext_getElem?
  intro i
  cases i with
  | zero => rw [rowV_get (by omega)]; rfl
  | succ i =>
    rw [List.getElem?_append_right (by simp)]
    simp only [List.length_cons, List.length_nil, Nat.zero_add, Nat.add_sub_cancel]
    by_cases h : i < n
    · rw [rowV_get h, rowV_get (by omega)]
      rfl
    · rw [List.getElem?_eq_none (by rw [rowV_len]; omega), List.getElem?_eq_none (by rw [rowV_len]; omega)]
def spHolds (K : PySem.W.Frag) : Sp := fun vs H Q _ => ∃ (a b : Addr) (n : Nat) (m : Mx) (p : Nat → Int), vs = [.ref a, .ref b] ∧ MatT H a (n + 1) m ∧ H b = some (.tup (rowV n p)) ∧ n ≤ 12 ∧ ∀ c H', Same H H' → (c = true ↔ Has n m p) → Q (.bl c) H'
def spWithR (K : PySem.W.Frag) : Sp := fun vs H Q _ => ∃ (a b : Addr) (n : Nat) (m t : Mx), vs = [.ref a, .ref b] ∧ MatT H a n m ∧ MatT H b n t ∧ n ≤ 13 ∧ ∀ c H', Same H H' → (c = true ↔ ∀ i j, i < n → j < n → m i j ≤ t i j) → Q (.bl c) H'
def spCutR (K : PySem.W.Frag) : Sp := fun vs H Q _ => ∃ (a : Addr) (n i j : Nat) (most : Int) (t : Mx), vs = [.ref a, .int (i : Int), .int (j : Int), .int most] ∧ MatT H a (n + 1) t ∧ Closed (n + 1) t ∧ n ≤ 12 ∧ i < n + 1 ∧ j < n + 1 ∧
  (∀ a' u H', Same H H' → MatT H' a' (n + 1) u → OfR n (CutR n t i j most) u → (∀ x y, x < n + 1 → y < n + 1 → u x y ≤ t x y) → Q (.ref a') H') ∧ (∀ H', Same H H' → (¬ ∃ q, CutR n t i j most q) → Q .non H')
section
variable {P : Program} {w : World} {K : PySem.W.Frag} {mg : Str → Option Value} {base : Heap} {fI : Addr}
abbrev nHolds : List Str := ["rows", "point", "readings", "places", "i", "j"]
theorem scHolds : FnScope nHolds ["rows", "point"] (defScope sHolds) := ⟨rfl, rfl, rfl, by decide +kernel, rfl, by decide +kernel, by decide +kernel⟩
theorem ok_holds {f : Addr} {fd : FuncData} (F : Fun K "holds" "holds" sHolds f fd) (X : BTxt mg fI) : FnOk P w K mg base CX0 1 f fd ["rows", "point"] (spHolds K) := by
  refine F.ok scHolds (fun vs H Q E h => ?_) (fun cdv A outer s H vs Q E hr h => ?_)
  · obtain ⟨a, b, n, m, p, rfl, _⟩ := h
    rfl
  · obtain ⟨a, b, n, m, p, rfl, mt, hb, hn, q⟩ := h
    have nd := scHolds.nd
    refine ⟨_, pss_cons (ps_set (i := 2) nd rfl (Or.inr rfl) (pe_op (r := rCatE K) op_catE (pe_tup (pa_cons pe_int pa_nil)) (pv 1)))
      (pss_cons (ps_set (i := 3) nd rfl (Or.inr rfl) (pe_callTy cr_range1 (by rfl) X.range (by decide +kernel) (pa_cons (pe_callB call_len_seq (by rfl) X.len PySem.boot_len (pa_cons (pv 2) pa_nil)) pa_nil)))
      (pss_one (ps_ret (pe_callB (cr_all rfl) (by rfl) X.all (by decide +kernel) (pa_cons (pe_lc2 (own := [("i", 4), ("j", 5)]) (vs1 := [5]) (g := gName 4) (g1 := gName 5) (tt := tYes) (tt1 := tYes) rfl nd (pi_rngN (pv 3)) (blkOk_by (N := nHolds) (sc := defScope sHolds) (by decide +kernel)) (by decide)
          (fun _ _ _ _ _ => pg_name (i := 4) nd rfl (Or.inl rfl)) (fun _ _ _ _ _ => pts_nil) (fun _ _ _ _ _ => pi_rngN (pv 3)) (fun _ _ _ _ _ => pg_name (i := 5) nd rfl (Or.inl rfl)) (fun _ _ _ _ _ => pts_nil)
          (fun _ _ _ _ _ => pe_cmpR op_le (pe_op op_sub (pe_ix (r := rIxT K) ix_tup (pv 2) (pv 4) (fun _ _ => rfl)) (pe_ix (r := rIxT K) ix_tup (pv 2) (pv 5) (fun _ _ => rfl))) (pe_ix (r := rIxT K) ix_tup (pe_ix (r := rIxT K) ix_tup (pv 0) (pv 4) (fun _ _ => rfl)) (pv 5) (fun _ _ => rfl)) (nomark _))) pa_nil))))), ?_⟩
    refine ⟨(by show 1 ≤ sizeLine; decide), fun z hz => ⟨_, rfl, ?_⟩⟩
    have s1 := same_new (o := .tup [.int 0]) hz
    refine cat_reads (xs := [.int 0]) (ys := rowV n p) upd_same (s1 _ _ hb) (by rw [rowV_len]; show 1 + n ≤ 1000; omega) fun r H2 s2 hr2 => ?_
    rw [rowV_full] at hr2
    have s12 := s1.trans s2
    refine ⟨_, rfl, r, _, rfl, .inr (SqT.of hr2), _, rfl, fun g hg => ?_⟩
    rw [rowV_len]
    have s3 := same_new (o := .rng 0 ((n + 1 : Nat) : Int)) hg
    have hrng : (upd H2 g (.rng 0 ((n + 1 : Nat) : Int))) g = some (.rng 0 ((n + 1 : Nat) : Int)) := upd_same
    generalize upd H2 g (.rng 0 ((n + 1 : Nat) : Int)) = H3 at s3 hrng
    have mt3 := mt.mono (Kp.of (s12.trans s3))
    have hr3 := s3 _ _ hr2
    refine ⟨_, rfl, g, n + 1, rfl, hrng, by omega, fun D hD => ?_⟩
    refine lc2_rng (n := n + 1) (fun i j => full p i - full p j ≤ m i j) hD hrng (by omega) (fun _ => rfl) (fun _ => rfl) (fun _ _ => rfl) ?_ ?_
    · intro i j H4 kT hi hj s4 h
      obtain ⟨rs, b1, q1, l1, at1, qb⟩ := (mt3.mono (Kp.of s4)).at_ (K := K) hi
      refine ⟨_, rfl, _, rfl, r, _, _, _, rfl, rfl, SqT.of (s4 _ _ hr3), rowV_at hi, _, rfl, _, rfl, r, _, _, _, rfl, rfl, SqT.of (s4 _ _ hr3), rowV_at hj, _, _, rfl, rfl, ?_⟩
      exact ⟨_, rfl, _, rfl, a, rs, _, _, rfl, rfl, SqT.of q1, at1, _, rfl, b1, _, _, _, rfl, rfl, SqT.of qb, rowV_at hj, _, _, rfl, rfl, h _ _ (Same.refl _) decide_eq_true_iff⟩
    · intro H4 bs s4 hD4 hall
      exact ⟨D, bs, rfl, SqL.of hD4, q _ _ (s12.trans (s3.trans s4)) hall⟩
abbrev nWithR : List Str := ["rows", "others", "places", "i", "j"]
abbrev nCutR : List Str := ["rows", "i", "j", "most", "places", "k", "row"]
theorem scCutR : FnScope nCutR ["rows", "i", "j", "most"] (defScope sCutRows) := ⟨rfl, rfl, rfl, by decide +kernel, rfl, by decide +kernel, by decide +kernel⟩
theorem ok_cutR {f : Addr} {fd : FuncData} (F : Fun K "cut_rows" "cut_rows" sCutRows f fd) (X : BTxt mg fI) : FnOk P w K mg base CX0 1 f fd ["rows", "i", "j", "most"] (spCutR K) := by
  refine F.ok scCutR (fun vs H Q E h => ?_) (fun cdv A outer s H vs Q E hr h => ?_)
  · obtain ⟨a, n, i, j, most, t, rfl, _⟩ := h
    rfl
  · obtain ⟨a, n, i, j, most, t, rfl, mt, cl, hn, hi, hj, yes, no⟩ := h
    have nd := scCutR.nd
    refine ⟨_, pss_cons (ps_if (pt_cmpR op_le (pe_ix (r := rIxT K) ix_tup (pe_ix (r := rIxT K) ix_tup (pv 0) (pv 1) (fun _ _ => rfl)) (pv 2) (fun _ _ => rfl)) (pv 3) (nomark _)) (pss_one (ps_ret (pv 0))) pss_nil)
      (pss_cons (ps_if (pt_cmpR op_lt (pe_op op_add (pe_ix (r := rIxT K) ix_tup (pe_ix (r := rIxT K) ix_tup (pv 0) (pv 2) (fun _ _ => rfl)) (pv 1) (fun _ _ => rfl)) (pv 3)) pe_int (nomark _)) (pss_one (ps_ret pe_non)) pss_nil)
      (pss_cons (ps_set (i := 4) nd rfl (Or.inr rfl) (pe_callTy cr_range1 (by rfl) X.range (by decide +kernel) (pa_cons (pe_callB call_len_seq (by rfl) X.len PySem.boot_len (pa_cons (pv 0) pa_nil)) pa_nil)))
      (pss_one (ps_ret (pe_callTy (r := rTupQ K) call_tuple_of (by rfl) X.tup (by decide +kernel) (pa_cons (pe_lc (own := [("row", 6)]) (g := gName 6) (tt := tYes) rfl nd (pi_tup (pv 0)) (blkOk_by (N := nCutR) (sc := defScope sCutRows) (by decide +kernel))
          (fun _ _ _ _ _ => pg_name (i := 6) nd rfl (Or.inr rfl)) (fun _ _ _ _ _ => pts_nil) (fun _ _ _ _ _ => pe_callTy (r := rTupQ K) call_tuple_of (by rfl) X.tup (by decide +kernel) (pa_cons (pe_lc (own := [("k", 5)]) (g := gName 5) (tt := tYes) rfl nd (pi_rngN (pv 4)) (blkOk_by (N := nCutR) (by rfl))
            (fun _ _ _ _ _ => pg_name (i := 5) nd rfl (Or.inl rfl)) (fun _ _ _ _ _ => pts_nil) (fun _ _ _ _ _ => pe_callB (call_min2 rfl) (by rfl) X.min (by decide +kernel) (pa_cons (pe_ix (r := rIxT K) ix_tup (pv 6) (pv 5) (fun _ _ => rfl))
              (pa_cons (pe_op op_add (pe_op op_add (pe_ix (r := rIxT K) ix_tup (pv 6) (pv 1) (fun _ _ => rfl)) (pv 3)) (pe_ix (r := rIxT K) ix_tup (pe_ix (r := rIxT K) ix_tup (pv 0) (pv 2) (fun _ _ => rfl)) (pv 5) (fun _ _ => rfl))) pa_nil)))) pa_nil))) pa_nil)))))), ?_⟩
    obtain ⟨ra, ba, q1, l1, at1, qb1⟩ := mt.at_ (K := K) hi
    obtain ⟨rb, bb, q2, l2, at2, qb2⟩ := mt.at_ (K := K) hj
    refine ⟨_, rfl, _, rfl, a, ra, _, _, rfl, rfl, SqT.of q1, at1, _, rfl, ba, _, _, _, rfl, rfl, SqT.of qb1, rowV_at hj, _, rfl, _, _, rfl, rfl, _, rfl, ?_⟩
    refine ite2 (fun c => ?_) (fun c => ?_)
    · have c := of_decide_eq_true c
      exact ⟨_, rfl, yes a t H (Same.refl _) mt ⟨cl, fun q => cut_all hi hj c⟩ fun _ _ _ _ => Int.le_refl _⟩
    refine ⟨_, rfl, _, rfl, a, rb, _, _, rfl, rfl, SqT.of q2, at2, _, rfl, bb, _, _, _, rfl, rfl, SqT.of qb2, rowV_at hi, _, rfl, _, _, rfl, rfl, _, _, rfl, rfl, _, rfl, ?_⟩
    refine ite2 (fun c2 => ?_) (fun c2 => ?_)
    · exact no H (Same.refl _) (cut_none hi hj (of_decide_eq_true c2))
    have c2 : 0 ≤ t j i + most := Int.not_lt.mp fun z => c2 (decide_eq_true z)
    refine ⟨_, rfl, a, ra, rfl, .inr (SqT.of q1), _, rfl, fun g hg => ?_⟩
    rw [l1]
    have s3 := same_new (o := .rng 0 ((n + 1 : Nat) : Int)) hg
    have hrng : (upd H g (.rng 0 ((n + 1 : Nat) : Int))) g = some (.rng 0 ((n + 1 : Nat) : Int)) := upd_same
    generalize upd H g (.rng 0 ((n + 1 : Nat) : Int)) = H3 at s3 hrng
    have mt3 := mt.mono (Kp.of s3)
    obtain ⟨rk, qk, lk, rrk⟩ := id mt3
    refine ⟨_, rfl, a, rfl, ⟨_, SqT.of qk⟩, fun D5 hD5 => ?_⟩
    refine lc_keep (walk_tup (K := K) (a := a) (xs := rk)) (fun x H y => RowAt H y (n + 1) (cutM t i j most x)) (fun i H H' y k r => r.mono k) hD5 (by omega) (fun H6 s6 => SqT.of (s6 _ _ qk)) ?_ ?_
    · rintro x y H6 H' kT hx s6 ⟨rfl, hy⟩ h
      obtain ⟨b, rfl, qb⟩ := rrk x y hy
      refine ⟨rfl, _, rfl, g, n + 1, rfl, s6 _ _ hrng, by omega, fun D6 hD6 => ?_⟩
      refine lc_ints walk_rng (cutM t i j most x) hD6 (by omega) (fun _ _ => trivial) ?_ ?_
      · rintro k z H7 H' kT2 hk s7 ⟨rfl, rfl⟩ h2
        have qb7 := (s6.trans s7) _ _ qb
        obtain ⟨rs', b', q3, l3, at3, qb'⟩ := (mt3.mono (Kp.of (s6.trans s7))).at_ (K := K) hj
        refine ⟨rfl, _, rfl, _, rfl, b, _, _, _, rfl, rfl, SqT.of qb7, rowV_at hk, ?_⟩
        refine ⟨_, rfl, _, rfl, b, _, _, _, rfl, rfl, SqT.of qb7, rowV_at hi, _, rfl, _, _, rfl, rfl, ?_⟩
        refine ⟨_, rfl, _, rfl, a, rs', _, _, rfl, rfl, SqT.of q3, at3, _, rfl, b', _, _, _, rfl, rfl, SqT.of qb', rowV_at hk, ?_⟩
        refine ⟨_, _, rfl, rfl, _, _, rfl, ?_⟩
        have z := h2 _ (Same.refl _)
        have e : cutM t i j most x k = if t x i + most + t j k < t x k then t x i + most + t j k else t x k := by
          unfold cutM
          split <;> omega
        rw [e] at z
        exact z
      · intro H7 s7 hD7
        exact ⟨D6, _, rfl, .inl ⟨SqL.of hD7, fun l hl => h _ _ (s7.trans (same_new hl)) ⟨l, rfl, upd_same⟩⟩⟩
    · intro H6 ys6 s6 d6 l6 r6
      refine ⟨D5, ys6, rfl, .inl ⟨SqL.of d6, fun c6 hc6 => ?_⟩⟩
      exact yes c6 _ _ (s3.trans (s6.trans (same_new hc6))) (mat_new hc6 (by omega) r6) ⟨cut_closed cl hi hj c2, fun q => cut_has cl hi hj⟩ fun x y _ _ => by
        unfold cutM
        omega
end
end Bd

set_option Elab.async false
set_option linter.all false
set_option maxRecDepth 100000
set_option maxHeartbeats 4000000
/-! the methods with odd operands; in, cut, within -/
namespace Br
open PySem PySem.Spec PyProof.Rows L2
section
variable {X : Cx} {CX : CXT} {k : Nat} {C f : Addr} {fd : FuncData} {ps : List Str} {sp : Sp} {E : XK}
/-- v in o, o of an own class -/
theorem op_in_own (D : OO.Dun X.K C "__contains__" f) (F : FnOk X.prog X.w X.K X.mg X.base CX k f fd ps sp) (hr : Room k X.A) (hb : Binds X.K fd ps []) (hx : Passes CX X E) :
    OpR X (compareOp .In) (fun x y H Q => ∃ a dx fs, y = .ref a ∧ H a = some (.ins C dx fs) ∧ sp [.ref a, x] H (fun z H' => ∃ c, z = .bl c ∧ Q (.bl c) H') E) := by
  intro pins s σ H x y v u Q I rx ry ⟨a, dx, fs, ey, ha, h⟩
  subst ey
  cases ry
  obtain ⟨mA, J, _⟩ := ins_get I.hok ha
  obtain ⟨od, J, _⟩ := J.look
  obtain ⟨m, hF⟩ := I.fr
  refine PySem.W.in_K hF I.ok.mod.kin J D.at_ D.fn ?_
  refine wpAny_mono (OO.run_own (vs := [.ref a, x]) F hr hb hx I (.cons rfl (.cons rx .nil)) h) (fun v s' z => ?_) fun _ _ z => z
  obtain ⟨y, H', I', ry, c, ey, q⟩ := z
  subst ey
  cases ry
  exact wpAny_truthy_bool ⟨.bl c, H', I', rfl, q⟩
/-- one op other, the other of the class or of a built-in type -/
theorem op_any {op : Operator} {Ts : List String} (D : OO.Dun X.K C (PySem.dunder op.info.2) f) (hc : PySem.W.selfFirst X.K C = true) (B : ∀ T ∈ Ts, OO.BinT X.K C op T) (F : FnOk X.prog X.w X.K X.mg X.base CX k f fd ps sp) (hr : Room k X.A) (hb : Binds X.K fd ps []) (hx : Passes CX X E) :
    OpR X (binaryOp op) (fun x y H Q => ∃ a dx fs, x = .ref a ∧ H a = some (.ins C dx fs) ∧ ((∃ b dy gs, y = .ref b ∧ H b = some (.ins C dy gs)) ∨ ∃ T ∈ Ts, TyOf X.K H y (.type T)) ∧ sp [x, y] H Q E) := by
  intro pins s σ H x y v u Q I rx ry ⟨a, dx, fs, ex, ha, hy, h⟩
  rcases hy with ⟨b, dy, gs, ey, hb'⟩ | ⟨T, hT, ty⟩
  · exact OO.op_same D hc F hr hb hx pins s σ H x y v u Q I rx ry ⟨a, b, dx, dy, fs, gs, ex, ey, ha, hb', h⟩
  · exact OO.op_with D hc (B T hT) F hr hb hx pins s σ H x y v u Q I rx ry ⟨a, dx, fs, ex, ty, ha, h⟩
end
end Br
namespace Bd
open PySem PySem.Spec PyProof.Rows L2 Wd Br
/-- no bounds for n clocks -/
def Strange (K : PySem.W.Frag) (C : Addr) (H : Hp) (n : Nat) (y : V) : Prop := (∃ q k u, y = .ref q ∧ BdAt C H q (k + 1) u ∧ k ≤ 12 ∧ k ≠ n) ∨ ∃ ty, TyX K H y ty ∧ PySem.W.kitOne K ty (.ref C) = some false
def spCheckX (K : PySem.W.Frag) (C CIO : Addr) : Sp := fun vs H Q E => ∃ (p : Addr) (n : Nat) (t : Mx) (y : V), vs = [.ref p, y] ∧ BdAt C H p (n + 1) t ∧ n ≤ 12 ∧
  ((∃ q u, y = .ref q ∧ BdAt C H q (n + 1) u ∧ ∀ H', Same H H' → Q .non H') ∨ (Strange K C H n y ∧ ∀ H', Same H H' → E (.ref CIO) none H'))
def spAndX (K : PySem.W.Frag) (C CIO : Addr) : Sp := fun vs H Q E => ∃ (p : Addr) (n : Nat) (t : Mx) (y : V), vs = [.ref p, y] ∧ BdAt C H p (n + 1) t ∧ n ≤ 12 ∧ InB (n + 1) t ∧
  ((∃ q u, y = .ref q ∧ BdAt C H q (n + 1) u ∧ InB (n + 1) u ∧ (∀ z b H', Same H H' → Tight (n + 1) (mn2 t u) z → BdAt C H' b (n + 1) z → Q (.ref b) H') ∧ (∀ H', Same H H' → ¬ Feas (n + 1) (mn2 t u) → Q .non H')) ∨ (Strange K C H n y ∧ ∀ H', Same H H' → E (.ref CIO) none H'))
def spWithB (K : PySem.W.Frag) (C CIO : Addr) : Sp := fun vs H Q E => ∃ (p : Addr) (n : Nat) (t : Mx) (y : V), vs = [.ref p, y] ∧ BdAt C H p (n + 1) t ∧ n ≤ 12 ∧
  ((∃ q u, y = .ref q ∧ BdAt C H q (n + 1) u ∧ ∀ b H', Same H H' → (b = true ↔ ∀ i j, i < n + 1 → j < n + 1 → t i j ≤ u i j) → Q (.bl b) H') ∨ (Strange K C H n y ∧ ∀ H', Same H H' → E (.ref CIO) none H'))
def InP (H : Hp) (n : Nat) (t : Mx) (v : V) : Prop := ∃ (b : Addr) (q : Nat → Int), v = .ref b ∧ H b = some (.tup (rowV n q)) ∧ (∀ k, k < n → -ten60 < q k ∧ q k < ten60) ∧ Has n t q
def spConB (C : Addr) : Sp := fun vs H Q _ => ∃ (p : Addr) (n : Nat) (t : Mx) (v : V) (m k : Nat), vs = [.ref p, v] ∧ BdAt C H p (n + 1) t ∧ n ≤ 12 ∧ m ≤ 1000 ∧ Dat noT [] H m k v ∧ ∀ b H', Same H H' → (b = true ↔ InP H n t v) → Q (.bl b) H'
theorem are_row {H : Hp} {v : V} {n : Nat} (h : AreI H v (n : Int)) : ∃ (b : Addr) (q : Nat → Int), v = .ref b ∧ H b = some (.tup (rowV n q)) ∧ ∀ k, k < n → -ten60 < q k ∧ q k < ten60 := by
  obtain ⟨a, xs, rfl, qa, l, r⟩ := h
  have lx : xs.length = n := by omega
  refine ⟨a, fun j => match xs[j]? with | some (.int z) => z | _ => 0, rfl, ?_, fun j hj => ?_⟩
  · rw [qa]
    congr 2
    refine rowV_of lx fun i y e => ?_
    obtain ⟨z, rfl, _⟩ := r y (List.mem_of_getElem? e)
    show V.int z = V.int (match xs[i]? with | some (.int z) => z | _ => 0)
    rw [e]
  · have e := List.getElem?_eq_getElem (l := xs) (i := j) (by omega)
    obtain ⟨z, ez, b1, b2⟩ := r _ (List.getElem_mem (by omega : j < xs.length))
    rw [ez] at e
    show -ten60 < (match xs[j]? with | some (.int z) => z | _ => 0) ∧ (match xs[j]? with | some (.int z) => z | _ => 0) < ten60
    rw [e]
    exact ⟨b1, b2⟩
section
variable {P : Program} {w : World} {K : PySem.W.Frag} {mg : Str → Option Value} {base : Heap} {fI fR fT fB fL fC fZ fA fH C CIB CIO CIN CUI f1 f2 : Addr}
theorem ok_checkX {f : Addr} {fd fdL : FuncData} (F : Fun K "check_clocks" "check_clocks" sCheckClocks f fd) (Y : CTxt K mg C f1 f2) (T : ErrT K mg "InvalidOperation" CIO) (isin : mg "isinstance" = none) (ml : mg "len" = none) (D : OO.Dun K C "__len__" fL) (GL : FnOk P w K mg base CX0 1 fL fdL ["self"] (spLenB C)) (bL : Binds K fdL ["self"] []) :
    FnOk P w K mg base (L2.CX P w) 3 f fd ["bounds", "other"] (spCheckX K C CIO) := by
  refine F.okX scCheck (fun vs H Q E h => ?_) (fun cdv A outer s H vs Q E hr h => ?_)
  · obtain ⟨p, n, t, y, rfl, _⟩ := h
    rfl
  · obtain ⟨p, n, t, y, rfl, bp, hn, k⟩ := h
    obtain ⟨dx, a, ha, mt⟩ := id bp
    refine ⟨_, pss_one (ps_if (PW.pt (pw_or (pt_not (pt_val (pe_callB call_isi (by rfl) isin (by decide +kernel) (pa_cons (pv 1) (pa_cons (pe_gcon rfl ⟨_, Y.mgC, (show RelV (.ref C) (.ref C) from rfl)⟩) pa_nil))))) (pw_or1 (pt_cmpR op_ne (pe_callB (OO.len_own D GL hr bL pass0) (by rfl) ml PySem.boot_len (pa_cons (pv 0) pa_nil)) (pe_callB (OO.len_own D GL hr bL pass0) (by rfl) ml PySem.boot_len (pa_cons (pv 1) pa_nil)) (nomark _)))))
      (pss_one (ps_raise rfl (takes_of rfl rfl rfl rfl) (pmk_own PySem.F.excBase_ValueError T.x T.g T.k (raises_own T.b T.t) rfl))) pss_nil), ?_⟩
    have two : ∀ {q : Addr} {k : Nat} {u : Mx} {Z : Bool → Hp → Prop}, BdAt C H q (k + 1) u → k ≤ 12 → (∀ H', Same H H' → Z (!decide ((n : Int) = (k : Int))) H') → ∃ dy fs, H q = some (.ins C dy fs) ∧ True := fun {q k u Z} b _ _ => by
      obtain ⟨dy, b', hb, _⟩ := b
      exact ⟨dy, _, hb, trivial⟩
    rcases k with ⟨q, u, rfl, bq, k⟩ | ⟨⟨q, k2, u, rfl, bq, hk2, ne⟩ | ⟨ty, hty, kf⟩, k⟩
    · obtain ⟨dy, b, hb, mu⟩ := id bq
      refine ⟨_, rfl, .ref q, .ref C, .ref C, .ref C, true, rfl, .own C, Y.ty hb, Y.kC, _, rfl, iteF ?_⟩
      refine ⟨_, rfl, p, dx, _, rfl, ha, p, n, t, rfl, bp, hn, fun H1 s1 => ⟨n, rfl, by omega, ?_⟩⟩
      refine ⟨_, rfl, q, dy, _, rfl, s1 _ _ hb, q, n, u, rfl, bq.mono (Kp.of s1), hn, fun H2 s2 => ⟨n, rfl, by omega, rfl, _, rfl, ?_⟩⟩
      refine ite2 (fun c => ?_) (fun _ => k _ (s1.trans s2))
      simp at c
    · obtain ⟨dy, b, hb, mu⟩ := id bq
      refine ⟨_, rfl, .ref q, .ref C, .ref C, .ref C, true, rfl, .own C, Y.ty hb, Y.kC, _, rfl, iteF ?_⟩
      refine ⟨_, rfl, p, dx, _, rfl, ha, p, n, t, rfl, bp, hn, fun H1 s1 => ⟨n, rfl, by omega, ?_⟩⟩
      refine ⟨_, rfl, q, dy, _, rfl, s1 _ _ hb, q, k2, u, rfl, bq.mono (Kp.of s1), hk2, fun H2 s2 => ⟨k2, rfl, by omega, rfl, _, rfl, ?_⟩⟩
      refine ite2 (fun _ => k _ (s1.trans s2)) (fun c => ?_)
      refine (c ?_).elim
      simp
      omega
    · exact ⟨_, rfl, y, .ref C, ty, .ref C, false, rfl, .own C, hty, kf, _, rfl, iteT (k H (Same.refl _))⟩
theorem ok_andX {f : Addr} {fd fdC fdB fdI : FuncData} (F : Fun K "__and__" "Bounds.__and__" cBounds_and f fd) (Y : CTxt K mg C f1 f2) (GC : At_ P w K mg base (L2.CX P w) 3 "check_clocks" fC fdC ["bounds", "other"] (spCheckX K C CIO)) (GB : At_ P w K mg base CX0 2 "both_rows" fB fdB ["rows", "others"] (spBoth K))
    (GI : FnOk P w K mg base (L2.CX P w) 4 f1 fdI ["self", "rows"] (spInitB K C CIB)) (bI : Binds K fdI ["self", "rows"] []) : FnOk P w K mg base (L2.CX P w) 6 f fd ["self", "other"] (spAndX K C CIO) := by
  refine F.okX scAnd (fun vs H Q E h => ?_) (fun cdv A outer s H vs Q E hr h => ?_)
  · obtain ⟨p, n, t, y, rfl, _⟩ := h
    rfl
  · obtain ⟨p, n, t, y, rfl, bp, hn, ib, k⟩ := h
    obtain ⟨dx, a, ha, mt⟩ := id bp
    refine ⟨_, pss_cons (ps_expr (pe_call GC.g (hr.mono (by decide)) rfl GC.m GC.kp GC.b .nil (passes_call (takes_of rfl rfl rfl rfl) (fun _ _ _ _ h => h)) (pa_cons (pv 0) (pa_cons (pv 1) pa_nil))))
      (pss_cons (ps_set (i := 2) scAnd.nd rfl (Or.inl rfl) (pe_call GB.g (hr.mono (by decide)) rfl GB.m GB.kp GB.b .nil pass0 (pa_cons (pe_fld (pv 0) rfl) (pa_cons (pe_fld (pv 1) rfl) pa_nil))))
      (pss_one (ps_ret (pe_ifExp (pt_cmp (pc_isN (pv 2)) rfl) pe_non (pe_make Y.mak GI hr rfl Y.mgC bI .nil (passes_call (takes_of rfl rfl rfl rfl) (fun _ _ _ _ h => h)) (pa_cons (pv 2) pa_nil)))))), ?_⟩
    rcases k with ⟨q, u, rfl, bq, iu, yes, no⟩ | ⟨st, k⟩
    · obtain ⟨dy, b, hb, mu⟩ := id bq
      refine ⟨_, rfl, _, rfl, p, n, t, .ref q, rfl, bp, hn, .inl ⟨q, u, rfl, bq, fun H1 s1 => ?_⟩⟩
      refine ⟨_, rfl, p, C, dx, _, _, rfl, s1 _ _ ha, Y.cl, Y.nR, bf_rows a, _, rfl, q, C, dy, _, _, rfl, s1 _ _ hb, Y.cl, Y.nR, bf_rows b, ?_⟩
      refine ⟨a, b, n + 1, t, u, rfl, mt.mono (Kp.of s1), mu.mono (Kp.of s1), by omega, by omega, fun z a' H2 s2 tz mz => ?_, fun H2 s2 nf => ?_⟩
      · refine ⟨_, rfl, _, rfl, iteF ⟨_, rfl, fun x dz hx hd ne => ?_⟩⟩
        refine newB_reads hx hd ne (by decide) (mz.dat (by omega)) (fun a2 k M t2 b2 H3 e m2 k1 k2 ib2 tt s3 bd3 => ?_) fun H3 s3 nf => ?_
        · cases e
          obtain ⟨rfl, eq⟩ := mz.uniq m2
          have tz2 : EqM (n + 1) t2 z := tt.uniq ⟨tz.cl, fun p => (pot_eq eq)⟩
          exact yes z b2 H3 (s1.trans (s2.trans s3)) tz (let ⟨d3, a3, h3, m3⟩ := bd3; ⟨d3, a3, h3, m3.ext tz2⟩)
        · exact (nf ⟨a', n + 1, z, rfl, mz, by omega, by omega, (ib.mn2 iu).tight tz, closed_feas tz.cl (by omega)⟩).elim
      · exact ⟨_, rfl, _, rfl, iteT (no H2 (s1.trans s2) nf)⟩
    · exact ⟨_, rfl, _, rfl, p, n, t, y, rfl, bp, hn, .inr ⟨st, k⟩⟩
theorem scConB : FnScope ["self", "value"] ["self", "value"] (defScope cBounds_contains) := ⟨rfl, rfl, rfl, by decide +kernel, rfl, by decide +kernel, by decide +kernel⟩
theorem ok_conB {f : Addr} {fd fdA fdH fdL : FuncData} (F : Fun K "__contains__" "Bounds.__contains__" cBounds_contains f fd) (Y : CTxt K mg C f1 f2) (ml : mg "len" = none) (D : OO.Dun K C "__len__" fL) (GL : FnOk P w K mg base CX0 1 fL fdL ["self"] (spLenB C)) (bL : Binds K fdL ["self"] [])
    (GA : At_ P w K mg base CX0 2 "are_integers" fA fdA ["value", "many"] (spAre K)) (GH : At_ P w K mg base CX0 1 "holds" fH fdH ["rows", "point"] (spHolds K)) : FnOk P w K mg base CX0 3 f fd ["self", "value"] (spConB C) := by
  refine F.ok scConB (fun vs H Q E h => ?_) (fun cdv A outer s H vs Q E hr h => ?_)
  · obtain ⟨p, n, t, v, m, k, rfl, _⟩ := h
    rfl
  · obtain ⟨p, n, t, v, m, k, rfl, bp, hn, hm, d, q⟩ := h
    obtain ⟨dx, a, ha, mt⟩ := id bp
    refine ⟨_, pss_one (ps_ret (pe_and (pe_call GA.g hr rfl GA.m GA.kp GA.b .nil pass0 (pa_cons (pv 1) (pa_cons (pe_callB (OO.len_own D GL hr bL pass0) (by rfl) ml PySem.boot_len (pa_cons (pv 0) pa_nil)) pa_nil)))
      (pe_one (pe_call GH.g (hr.mono (by decide)) rfl GH.m GH.kp GH.b .nil pass0 (pa_cons (pe_fld (pv 0) rfl) (pa_cons (pv 1) pa_nil)))))), ?_⟩
    refine ⟨_, rfl, _, rfl, p, dx, _, rfl, ha, p, n, t, rfl, bp, hn, fun H1 s1 => ⟨n, rfl, by omega, v, n, H, m, k, rfl, s1, hm, d, fun H2 b s2 hb => ⟨b, rfl, ?_⟩⟩⟩
    have s12 := s1.trans s2
    cases b with
    | false => exact iteF (q _ _ s12 (nay fun ⟨b, p, e, h1, h2, _⟩ => Bool.noConfusion (hb.mpr ⟨b, _, e, h1, by rw [rowV_len], fun x hx => by
        obtain ⟨j, hj, rfl⟩ := rowV_mem hx
        exact ⟨_, rfl, h2 j hj⟩⟩)))
    | true =>
      obtain ⟨b, r, rfl, h1, h2⟩ := are_row (hb.mp rfl)
      refine iteT ⟨_, rfl, p, C, dx, _, _, rfl, s12 _ _ ha, Y.cl, Y.nR, bf_rows a, _, rfl, a, b, n, t, r, rfl, mt.mono (Kp.of s12), s12 _ _ h1, hn, fun c H3 s3 hc => q c H3 (s12.trans s3) (hc.trans ⟨fun h => ⟨b, r, rfl, h1, h2, h⟩, fun ⟨b', r', e, h1', _, h⟩ => ?_⟩)⟩
      cases e
      rw [h1] at h1'
      have e : rowV n r = rowV n r' := by injection (Option.some.inj h1')
      exact has_congr (fun k hk => (rowV_inj e hk).symm) h
end
end Bd

set_option Elab.async false
set_option linter.all false
set_option maxRecDepth 100000
set_option maxHeartbeats 4000000
/-! cut -/
namespace Bd
open PySem PySem.Spec PyProof.Rows L2 Wd Br
theorem Told.mono {E : XK} {H H1 : Hp} {C : Addr} {f : Str} {y : V} (h : Told E H C f y) (s : Same H H1) : Told E H1 C f y := fun d H' hd s' e => by
  refine h d H' ?_ (s.trans s') e
  cases q : H d with
  | none => rfl
  | some o => rw [s _ _ q] at hd; cases hd
abbrev ErrI (P : Program) (w : World) (K : PySem.W.Frag) (mg : Str → Option Value) (base : Heap) (C : Addr) : Prop := ∃ BN BI initId newId, ∃ bN bmB, ErrE P w K mg base "UnknownIndex" "index" C BN BI initId newId bN bmB ["self", "index"]
theorem cut_inb {n i j : Nat} {most : Int} {t u : Mx} (ib : InB (n + 1) t) (cl : Closed (n + 1) u) (le : ∀ x y, x < n + 1 → y < n + 1 → u x y ≤ t x y) : InB (n + 1) u := fun x y hx hy => by
  have h1 := le x y hx hy
  have h2 := le y x hy hx
  have h3 := (ib x y hx hy).2
  have h4 := (ib y x hy hx).2
  have h5 := cl.tr x x y hx hx hy
  have h6 := cl.dg x hx
  exact ⟨by omega, by omega⟩
def spCutB (K : PySem.W.Frag) (C CUI CIN : Addr) : Sp := fun vs H Q E => ∃ (p : Addr) (n : Nat) (t : Mx) (iv jv mv : V), vs = [.ref p, iv, jv, mv] ∧ BdAt C H p (n + 1) t ∧ n ≤ 12 ∧ Closed (n + 1) t ∧ InB (n + 1) t ∧ (∀ H', Same H H' → IntV K H' iv ∧ IntV K H' jv ∧ IntV K H' mv) ∧
  (¬ Btw iv 0 n → Told E H CUI "index" iv) ∧ (Btw iv 0 n → ¬ Btw jv 0 n → Told E H CUI "index" jv) ∧ (Btw iv 0 n → Btw jv 0 n → ¬ IsInt mv → Told E H CIN "value" mv) ∧
  (∀ (i j : Nat) (most : Int), iv = .int (i : Int) → jv = .int (j : Int) → mv = .int most → i ≤ n → j ≤ n → IsInt mv → (∀ b u H', Same H H' → BdAt C H' b (n + 1) u → OfR n (CutR n t i j most) u → Q (.ref b) H') ∧ (∀ H', Same H H' → (¬ ∃ q, CutR n t i j most q) → Q .non H'))
section
variable {P : Program} {w : World} {K : PySem.W.Frag} {mg : Str → Option Value} {base : Heap} {fI fT fB fL fR C CIB CIN CUI f1 f2 : Addr}
abbrev nCutB : List Str := ["self", "i", "j", "most", "index", "rows"]
theorem scCutB : FnScope nCutB ["self", "i", "j", "most"] (defScope cBounds_cut) := ⟨rfl, rfl, rfl, by decide +kernel, rfl, by decide +kernel, by decide +kernel⟩
theorem ok_cutB {f : Addr} {fd fdB fdI fdN fdR fdL : FuncData} (F : Fun K "cut" "Bounds.cut" cBounds_cut f fd) (Y : CTxt K mg C f1 f2) (EN : ErrN P w K mg base CIN) (EI : ErrI P w K mg base CUI) (ml : mg "len" = none) (D : OO.Dun K C "__len__" fL) (GL : FnOk P w K mg base CX0 1 fL fdL ["self"] (spLenB C)) (bL : Binds K fdL ["self"] [])
    (GB : At_ P w K mg base CX0 2 "is_between" fB fdB ["value", "least", "most"] (spBet K)) (GN : At_ P w K mg base CX0 1 "is_integer" fI fdN ["value"] (spInt K)) (GR : At_ P w K mg base CX0 1 "cut_rows" fR fdR ["rows", "i", "j", "most"] (spCutR K))
    (GI : FnOk P w K mg base (L2.CX P w) 4 f1 fdI ["self", "rows"] (spInitB K C CIB)) (bI : Binds K fdI ["self", "rows"] []) : FnOk P w K mg base (L2.CX P w) 6 f fd ["self", "i", "j", "most"] (spCutB K C CUI CIN) := by
  obtain ⟨BN, BI, initId, newId, bN, bmB, EN⟩ := EN
  obtain ⟨fJ, fdJ, iC, tI, GJ, bJ⟩ := EN.i
  obtain ⟨BN', BI', initId', newId', bN', bmB', EI⟩ := EI
  obtain ⟨fJ', fdJ', iC', tI', GJ', bJ'⟩ := EI.i
  refine F.okX scCutB (fun vs H Q E h => ?_) (fun cdv A outer s H vs Q E hr h => ?_)
  · obtain ⟨p, n, t, iv, jv, mv, rfl, _⟩ := h
    rfl
  · obtain ⟨p, n, t, iv, jv, mv, rfl, bp, hn, cl, ib, vi, e1, e2, e3, good⟩ := h
    obtain ⟨dx, a, ha, mt⟩ := id bp
    have nd := scCutB.nd
    have hr1 : Room 1 _ := hr.mono (by decide)
    have hr2 : Room 2 _ := hr.mono (by decide)
    refine ⟨_, pss_cons (ps_for (passes_of rfl) rfl (pi_tup (pe_tup (pa_cons (pv 1) (pa_cons (pv 2) pa_nil)))) (pg_name (i := 4) nd rfl (Or.inl rfl))
        (pss_one (ps_if (pt_not (pt_val (pe_call GB.g hr2 rfl GB.m GB.kp GB.b .nil pass0 (pa_cons (pv 4) (pa_cons pe_int (pa_cons (pe_callB (OO.len_own D GL hr2 bL pass0) (by rfl) ml PySem.boot_len (pa_cons (pv 0) pa_nil)) pa_nil))))))
          (pss_one (ps_raise rfl (takes_of rfl rfl rfl rfl) (Ek.pmk_raise EI.FN EI.U EI.T (raises_own EI.b EI.t) iC' tI' GJ' hr2 bJ' rfl EI.g (pv 4)))) pss_nil)))
      (pss_cons (ps_if (pt_not (pt_val (pe_call GN.g hr1 rfl GN.m GN.kp GN.b .nil pass0 (pa_cons (pv 3) pa_nil)))) (pss_one (ps_raise rfl (takes_of rfl rfl rfl rfl) (Ek.pmk_raise EN.FN EN.U EN.T (raises_own EN.b EN.t) iC tI GJ hr2 bJ rfl EN.g (pv 3)))) pss_nil)
      (pss_cons (ps_set (i := 5) nd rfl (Or.inl rfl) (pe_call GR.g hr1 rfl GR.m GR.kp GR.b .nil pass0 (pa_cons (pe_fld (pv 0) rfl) (pa_cons (pv 1) (pa_cons (pv 2) (pa_cons (pv 3) pa_nil))))))
      (pss_one (ps_ret (pe_ifExp (pt_cmp (pc_isN (pv 5)) rfl) pe_non (pe_make Y.mak GI hr rfl Y.mgC bI .nil (passes_call (takes_of rfl rfl rfl rfl) (fun _ _ _ _ h => h)) (pa_cons (pv 5) pa_nil))))))), ?_⟩
    refine ⟨_, rfl, _, rfl, (by show 2 ≤ sizeLine; decide), fun z hz => ?_⟩
    have s1 := same_new (o := .tup [iv, jv]) hz
    have qz : (upd H z (.tup [iv, jv])) z = some (.tup [iv, jv]) := upd_same
    generalize upd H z (.tup [iv, jv]) = H1 at s1 qz
    refine ⟨z, rfl, ⟨_, SqT.of qz⟩, ?_⟩
    refine for_it (walk_tup (K := K) (a := z) (xs := [iv, jv])) (fun k σ H' => ∃ xv : Option V, σ = [some (.ref p), some iv, some jv, some mv, xv, none] ∧ Same H1 H' ∧ (0 < k → Btw iv 0 n) ∧ (1 < k → Btw jv 0 n)) ⟨none, rfl, Same.refl _, fun h => by omega, fun h => by omega⟩ (fun _ _ _ _ ⟨_, _, s, _⟩ => SqT.of (s _ _ qz)) ?_ ?_
    · rintro k x σ H2 H' hk ⟨xv, rfl, s2, b1, b2⟩ ⟨rfl, hx⟩
      have s12 := s1.trans s2
      have vx : ∀ H4, Same H' H4 → IntV K H4 x := fun H4 s4 => by
        match k, hx with
        | 0, hx => cases hx; exact (vi H4 (s12.trans s4)).1
        | 1, hx => cases hx; exact (vi H4 (s12.trans s4)).2.1
      refine ⟨_, rfl, _, rfl, p, dx, _, rfl, s12 _ _ ha, p, n, t, rfl, bp.mono (Kp.of s12), hn, fun H3 s3 => ⟨n, rfl, by omega, x, 0, n, rfl, vx H3 s3, fun b hb => ⟨b, rfl, ?_⟩⟩⟩
      have s13 := s12.trans s3
      cases b with
      | false =>
        have nb : ¬ Btw x 0 n := fun h => Bool.noConfusion (hb.mpr h)
        refine iteT ⟨_, rfl, ?_⟩
        match k, hx with
        | 0, hx => cases hx; exact (e1 nb).mono s13
        | 1, hx => cases hx; exact (e2 (b1 (by decide)) nb).mono s13
      | true =>
        have yb : Btw x 0 n := hb.mp rfl
        refine iteF ⟨_, rfl, s2.trans s3, ?_, ?_⟩
        · intro _
          match k, hx with
          | 0, hx => cases hx; exact yb
          | 1, hx => exact b1 (by decide)
        · intro h
          match k, hx with
          | 0, hx => omega
          | 1, hx => cases hx; exact yb
    · rintro σ H2 ⟨xv, rfl, s2, b1, b2⟩
      replace b1 := b1 (by show 0 < 2; decide)
      replace b2 := b2 (by show 1 < 2; decide)
      have s12 := s1.trans s2
      refine ⟨_, rfl, mv, rfl, (vi H2 s12).2.2, fun b hb => ⟨b, rfl, ?_⟩⟩
      cases b with
      | false => exact iteT ⟨_, rfl, (e3 b1 b2 fun h => Bool.noConfusion (hb.mpr h)).mono s12⟩
      | true =>
        have im := hb.mp rfl
        obtain ⟨i, rfl, _, _, i0, i1⟩ := b1
        obtain ⟨j, rfl, _, _, j0, j1⟩ := b2
        obtain ⟨most, rfl, m1, m2⟩ := id im
        obtain ⟨i, rfl⟩ := Int.eq_ofNat_of_zero_le i0
        obtain ⟨j, rfl⟩ := Int.eq_ofNat_of_zero_le j0
        have hi : i ≤ n := by omega
        have hj : j ≤ n := by omega
        obtain ⟨yes, no⟩ := good i j most rfl rfl rfl hi hj im
        refine iteF ⟨_, rfl, p, C, dx, _, _, rfl, s12 _ _ ha, Y.cl, Y.nR, bf_rows a, _, rfl, _, rfl, _, rfl, ?_⟩
        refine ⟨a, n, i, j, most, t, rfl, mt.mono (Kp.of s12), cl, hn, by omega, by omega, fun a' u H3 s3 mu ou le => ?_, fun H3 s3 no' => ⟨_, rfl, _, rfl, iteT (no _ (s12.trans s3) no')⟩⟩
        have iu : InB (n + 1) u := cut_inb (i := i) (j := j) (most := most) ib ou.1 le
        refine ⟨_, rfl, _, rfl, iteF ⟨_, rfl, fun x dz hx hd ne => ?_⟩⟩
        rw [List.append_nil]
        refine newB_R hx hd ne (by decide) (mu.dat (by omega)) (fun a2 k2 M2 t2 H4 e m2 _ _ _ tt s4 bg4 => ⟨rfl, ?_⟩) fun H4 s4 nf => ?_
        · cases e
          obtain ⟨rfl, eq⟩ := mu.uniq m2
          have t2u : EqM (n + 1) t2 u := tt.uniq ⟨ou.1, fun p => pot_eq eq⟩
          obtain ⟨d4, a4, h4, m4⟩ := bg4
          exact yes x u H4 (s12.trans (s3.trans s4)) ⟨d4, a4, h4, m4.ext t2u⟩ ou
        · exact (nf ⟨a', n + 1, u, rfl, mu, by omega, by omega, iu, closed_feas ou.1 (by omega)⟩).elim
end
end Bd

set_option Elab.async false
set_option linter.all false
set_option maxRecDepth 100000
set_option maxHeartbeats 4000000
/-! sorted(d) of a dict whose keys are tuples of so many ints: a new list of just its keys -/
namespace SrD
open PySem PySem.Spec PyProof.Rows L2 SrtO
/-- the order of tuples -/
def lexL : List Int → List Int → Bool
  | [], r => !r.isEmpty
  | _ :: _, [] => false
  | p :: l, q :: r => if p = q then lexL l r else decide (p < q)
theorem lexL_nil (l : List Int) : lexL l [] = false := by cases l <;> rfl
theorem lexL_cons {p q : Int} {l r : List Int} : lexL (p :: l) (q :: r) = true ↔ p < q ∨ (p = q ∧ lexL l r = true) := by
  show (if p = q then lexL l r else decide (p < q)) = true ↔ _
  by_cases e : p = q
  · rw [if_pos e]
    exact ⟨fun h => .inr ⟨e, h⟩, fun h => h.elim (fun z => by omega) (·.2)⟩
  · rw [if_neg e, decide_eq_true_iff]
    exact ⟨.inl, fun h => h.elim id fun z => (e z.1).elim⟩
theorem not_true {b : Bool} : b = false ↔ ¬ b = true := by cases b <;> simp
theorem lexL_asym : ∀ l r : List Int, lexL l r = true → lexL r l = false
  | [], r, _ => lexL_nil r
  | p :: l, [], h => nomatch h
  | p :: l, q :: r, h => by
    refine not_true.mpr fun z => ?_
    rcases lexL_cons.mp h with a | ⟨a, a'⟩ <;> rcases lexL_cons.mp z with b | ⟨b, b'⟩
    · omega
    · omega
    · omega
    · rw [lexL_asym l r a'] at b'
      cases b'
theorem lexL_tr : ∀ x y z : List Int, lexL y x = false → lexL z y = false → lexL z x = false
  | [], _, z, _, _ => lexL_nil z
  | p :: x, [], _, h, _ => nomatch h
  | p :: x, q :: y, [], _, h => nomatch h
  | p :: x, q :: y, c :: z, h1, h2 => by
    have a := not_true.mp h1
    have b := not_true.mp h2
    rw [lexL_cons] at a b
    refine not_true.mpr fun h => ?_
    rcases lexL_cons.mp h with e | ⟨e, e'⟩
    · omega
    · have e1 : q = p := by omega
      have e2 : c = q := by omega
      have t := lexL_tr x y z (not_true.mpr fun g => a (.inr ⟨e1, g⟩)) (not_true.mpr fun g => b (.inr ⟨e2, g⟩))
      rw [t] at e'
      cases e'
theorem swo_key (key : Value → List Int) : Swo fun v u => lexL (key v) (key u) := ⟨fun _ _ h => lexL_asym _ _ h, fun _ _ _ h1 h2 => lexL_tr _ _ _ h1 h2⟩
/-- a tuple of n ints, its ints told by key -/
def Row (h : Heap) (n : Nat) (key : Value → List Int) (v : Value) : Prop := TS.TupInts h v (key v) ∧ (key v).length = n
section
variable {prog : Program} {w : World} {A : Around} {E : Value → Shared → Prop} {s : Shared}
theorem lex_walk {c : Bool} {R : Bool → Shared → Prop} : ∀ {us ws : List Value} {l r : List Int} (i : Nat), IntsAre us l → IntsAre ws r → l.length = r.length → R (lexL l r) s → PySem.W.KatLex prog w A c false R (us.zip ws) i s := by
  intro us ws l r i hu
  induction hu generalizing ws r i with
  | nil =>
    intro hw hl k
    cases hw with
    | nil => exact PySem.W.kat_nil k
    | cons _ _ _ => cases hl
  | @cons p t us l hu ih =>
    intro hw hl k
    cases hw with
    | nil => cases hl
    | @cons q t' ws r hw =>
      refine PySem.W.kat_cons (wpAny_eqBool_int (PySem.W.kat_go (fun e => ?_) fun e => ?_))
      · obtain rfl : p = q := by simpa using e
        refine PySem.W.kat_yes (ih _ hw (Nat.succ.inj hl) ?_)
        rw [show lexL (p :: l) (p :: r) = lexL l r from if_pos rfl] at k
        exact k
      · have ne : ¬ p = q := by simpa using e
        refine PySem.W.kat_no (TS.oneLt_ints _ ?_)
        rw [show lexL (p :: l) (q :: r) = decide (p < q) from if_neg ne] at k
        exact k
theorem cmp_rows {us : List Value} {key : Value → List Int} {n : Nat} (hp : ∀ v ∈ us, Row s.heap n key v) : Cmp prog w A s (tuples' true) (fun p => p.1 ∈ us) (lt2 fun v u => lexL (key v) (key u)) := by
  intro x y mx my
  obtain ⟨⟨b, xs, ex, ⟨o, g1, g2, c1, g3⟩, ix⟩, lx⟩ := hp _ mx
  obtain ⟨⟨b', ys, ey, ⟨o', k1, k2, c2, k3⟩, iy⟩, ly⟩ := hp _ my
  have two : lt2 (fun v u => lexL (key v) (key u)) x y = lexL (key x.1) (key y.1) := rfl
  rw [two]
  generalize key x.1 = l at ix lx
  generalize key y.1 = r at iy ly
  rw [ex, ey]
  refine PySem.W.kat_lt g1 g3 k1 k3 ?_
  have e1 := ix.length
  have e2 := iy.length
  rw [Array.length_toList] at e1 e2
  rw [show decide (xs.size < ys.size) = false from decide_eq_false (by omega)]
  exact lex_walk 0 ix iy (by omega) ⟨rfl, rfl⟩
theorem heads {h : Heap} {n : Nat} {key : Value → List Int} (n1 : 1 ≤ n) : ∀ us : List Value, (∀ u ∈ us, Row h n key u) → ∃ ts, PySem.W.KatTups h us ts ∧ ts.length = us.length ∧ ∀ t ∈ ts, ∃ z k, t = Value.int z k := by
  intro us
  induction us with
  | nil => exact fun _ => ⟨[], .nil, rfl, fun _ e => (List.not_mem_nil e).elim⟩
  | cons u us ih =>
    intro all
    obtain ⟨ts, r1, r2, r3⟩ := ih fun x hx => all x (.tail _ hx)
    obtain ⟨⟨b, ws, eu, ⟨ob, e1, e2, c, e3⟩, ia⟩, ld⟩ := all u (.head _)
    have sz := ia.length
    rw [Array.length_toList] at sz
    have e0 : ws[0]? = some (ws[0]'(by omega)) := Array.getElem?_eq_getElem (by omega)
    obtain ⟨z, k, ez⟩ := ia.all (ws[0]'(by omega)) (Array.mem_toList_iff.mpr (Array.getElem_mem _))
    rw [eu]
    refine ⟨_ :: ts, .cons e1 e2 e3 e0 r1, congrArg (· + 1) r2, fun t ht => ?_⟩
    cases ht with
    | head => exact ⟨z, k, ez⟩
    | tail _ ht => exact r3 t ht
theorem row_keeps {h h' : Heap} {n : Nat} {key : Value → List Int} {v : Value} (r : Row h n key v) (k : ∀ b o, h.get? b = some o → o.cls = .type "tuple" → h'.get? b = some o) : Row h' n key v := ⟨r.1.keeps k, r.2⟩
theorem rows_sortable {a : Addr} {us : List Value} {key : Value → List Int} {n : Nat} (n1 : 1 ≤ n) (h0 : 0 < us.length) (hp : ∀ v ∈ us, Row s.heap n key v) (ha : ∀ o, s.heap.get? a = some o → o.cls ≠ .type "tuple") : SortableO prog w A s a us fun v u => lexL (key v) (key u) := by
  intro h' keep
  have hp' : ∀ v ∈ us, Row h' n key v := fun v m => row_keeps (hp v m) fun b o e c => keep b o (fun z => ha o (by rw [← z]; exact e) c) e
  obtain ⟨ts, t1, t2, t3⟩ := heads n1 us hp'
  refine ⟨tuples' true, fun R E' k => ?_, cmp_rows (s := { s with heap := h' }) hp'⟩
  refine PySem.W.kat_kind (T := .type "int") t1 (by omega) (fun t ht => ?_) (by rfl) ?_
  · obtain ⟨z, c, rfl⟩ := t3 t ht
    exact PySem.W.Looks.of_pure rfl
  · rw [show (Value.type "int" != Value.type "tuple") = true by decide +kernel]
    exact k
/-- what is walked, gathered into a list -/
theorem collect_src {T : String} {r d : Addr} {n : Nat} {P : Nat → Value → Prop} {OK : Heap → Prop} {R : List Value → Shared → Prop} (K : PySem.W.KdlSrc prog w T r d n P OK) (hh : A.handled = none) (ok : OK s.heap) (hn : n ≤ sizeLine)
    (k : ∀ h' tk acc, (∀ b o, s.heap.get? b = some o → h'.get? b = some o) → s.heap.objs.size < h'.objs.size → ItemsOf P acc n → R acc.toList { s with heap := h', toks := tk }) : wpAny (model prog w) A (collect (.ref r)) R E s := by
  unfold collect
  refine wpAny_bind (wpAny_runValue (codeAny_builtin PySem.F.entry_proto_collect (by
    rw [Around.under_plainId PySem.F.plain_proto_collect _]
    refine (show wpAny _ A.in1 (newList [] >>= fun l => again (.builtin "list.__iadd__" ⟨[l, .ref r], []⟩)) _ _ s from wpAny_bind (wpAny_newObj_type (wpAny_pure ⟨plainId_quiet PySem.F.plain_list_iadd _, codeAny_builtin PySem.F.entry_list_iadd ?_⟩)))
    rw [Around.under_plainId PySem.F.plain_list_iadd _]
    have th := K.there _ ok
    have hS : (s.heap.push { cls := .type "list", data := .seq ([] : List Value).toArray }).get? s.heap.objs.size = some { cls := .type "list", data := .seq #[] 0 } := Heap.get?_push_size _ rfl
    refine wpAny_mono (PySem.W.kdl_extend (A := A) (s := { s with heap := s.heap.push { cls := .type "list", data := .seq ([] : List Value).toArray } }) K hh (K.keep _ _ ok fun b _ o e => Heap.get?_push_of_some _ e) s.heap.objs.size (Nat.ne_of_gt th.1) (Nat.ne_of_gt th.2) (.ref s.heap.objs.size) 0 hS
      (R := fun q s' => q = .ok (.ret (.ref s.heap.objs.size)) ∧ ∃ h' tk acc c, s' = { s with heap := h', toks := tk } ∧ (∀ b o, s.heap.get? b = some o → h'.get? b = some o) ∧ h'.get? s.heap.objs.size = some { cls := .type "list", dict := none, data := .seq acc c, slots := #[] } ∧ ItemsOf P acc n)
      (fun h' tk acc c kp e it => ⟨rfl, h', tk, acc, c, rfl, fun b o g => kp b o (Nat.ne_of_lt (Heap.lt_size g)) (Heap.get?_push_of_some _ g), e, it⟩) hn) (fun fin s' g => ?_) fun e s' g => (nomatch g.1)
    cases fin with
    | done f =>
      obtain ⟨e, h', tk, acc, c, rfl, kp, e2, it⟩ := g
      cases e
      exact (show wpAny _ A (load s.heap.objs.size >>= _) _ _ _ from wpAny_bind (wpAny_load e2 (wpAny_pure (k h' tk acc kp (Heap.lt_size e2) it))))
    | again c' =>
      refine ⟨g.1, codeAny_mono g.2 fun q s' ⟨e, h', tk, acc, c, es, kp, e2, it⟩ => ?_⟩
      subst e es
      exact (show wpAny _ A (load s.heap.objs.size >>= _) _ _ _ from wpAny_bind (wpAny_load e2 (wpAny_pure (k h' tk acc kp (Heap.lt_size e2) it)))))))
end
/-- sorted(d), d a dict with tuples of n ints as keys -/
def rSortD : List V → Hp → VK → Prop := fun vs H Q => ∃ (d : Addr) (kvs : List (List Key × V)) (n : Nat), vs = [.ref d] ∧ H d = some (.dT kvs) ∧ (∀ e ∈ kvs, ∃ ns : List Int, e.1 = ns.map Sum.inl ∧ ns.length = n) ∧
  ∀ p (ys : List V), H p = none → (kvs.map (·.1)).Nodup → ys.length = kvs.length → (∀ y ∈ ys, ∃ e ∈ kvs, ∃ b, y = .ref b ∧ H b = some (.tup (e.1.map kV))) → (∀ e ∈ kvs, ∃ b, V.ref b ∈ ys ∧ H b = some (.tup (e.1.map kV))) → Q (.ref p) (upd H p (.lst ys))
theorem paired_mem {α β : Type} {R : α → β → Prop} {xs : List α} {ys : List β} (p : Paired R xs ys) : (∀ y ∈ ys, ∃ x ∈ xs, R x y) ∧ ∀ x ∈ xs, ∃ y ∈ ys, R x y := by
  induction p with
  | nil => exact ⟨fun _ h => (List.not_mem_nil h).elim, fun _ h => (List.not_mem_nil h).elim⟩
  | @cons x y _ _ r _ ih =>
    refine ⟨fun c hc => ?_, fun c hc => ?_⟩
    · cases hc with
      | head => exact ⟨x, .head _, r⟩
      | tail _ hc =>
        obtain ⟨a, m, q⟩ := ih.1 c hc
        exact ⟨a, .tail _ m, q⟩
    · cases hc with
      | head => exact ⟨y, .head _, r⟩
      | tail _ hc =>
        obtain ⟨a, m, q⟩ := ih.2 c hc
        exact ⟨a, .tail _ m, q⟩
theorem paired_fst {α β γ : Type} {R : α → β → Prop} {f : α → γ} {g : β → γ} {xs : List α} {ys : List β} (p : Paired R xs ys) (h : ∀ x y, R x y → f x = g y) : xs.map f = ys.map g := by
  induction p with
  | nil => rfl
  | cons r _ ih => rw [List.map_cons, List.map_cons, h _ _ r, ih]
theorem keys_list {prog : Program} {w : World} {es : Array DictEntry} {ks : List (List Key × Addr × Value)} (he : es.toList = ks.map (entryOfKey (tupleKind (mixKind prog w)))) {acc : Array Value} (it : ItemsOf (fun i v => ∃ en : DictEntry, es[i]? = some en ∧ v = en.key) acc es.size) :
    acc.toList = ks.map fun x => Value.ref x.2.1 := by
  have la : acc.toList.length = ks.length := by rw [Array.length_toList, it.1, size_of_entries he]
  apply List.ext_getElem?
  intro j
  rw [List.getElem?_map]
  by_cases hj : j < ks.length
  · obtain ⟨en, g, hv⟩ := it.2 j (acc.toList[j]'(by omega)) (by rw [← Array.getElem?_toList]; exact List.getElem?_eq_getElem (by omega))
    rw [entry_at he j, List.getElem?_eq_getElem hj] at g
    cases g
    rw [List.getElem?_eq_getElem (by omega), hv, List.getElem?_eq_getElem hj]
    rfl
  · rw [List.getElem?_eq_none (by omega), List.getElem?_eq_none (by omega)]
    rfl
theorem cr_sortD {X : Cx} (hc : X.calm = true) : CallR X (.builtin "sorted") rSortD := by
  intro pins s σ H vs us Q I r h
  obtain ⟨d, kvs, n, rfl, hd, hk, q⟩ := h
  rw [Vals.ref1 r]
  obtain ⟨z, hs, ks, pr, o, es, ep, ho, hx, hdt, he, hn⟩ := (show ObjOk X.prog X.w H s.heap d (.dT kvs) from I.hok d _ hd)
  have l2 : kvs.length = ks.length := Paired.length pr
  obtain ⟨m1, m2⟩ := paired_mem pr
  have row : ∀ x ∈ ks, Row s.heap n (TS.intsOf s.heap) (.ref x.2.1) ∧ ∃ ns : List Int, x.1 = ns.map Sum.inl ∧ ns.length = n := fun x hx => by
    obtain ⟨e, he, e1, e2, _⟩ := m1 x hx
    obtain ⟨ns, en, ln⟩ := hk e he
    obtain ⟨_, its, rv, hT⟩ := (show ObjOk X.prog X.w H s.heap x.2.1 (.tup (e.1.map kV)) from I.hok _ _ e2)
    rw [en, List.map_map] at rv
    have ia : IntsAre its.toArray.toList ns := Vals.ints (show Vals (ns.map V.int) its from rv)
    have ti : TS.TupInts s.heap (.ref x.2.1) ns := ⟨_, _, rfl, hT, ia⟩
    refine ⟨⟨?_, ?_⟩, ns, by rw [← e1]; exact en, ln⟩
    · rw [ti.ints]
      exact ti
    · rw [ti.ints]
      exact ln
  refine Calls.call_function_entry kind_sorted plain_sorted entry_sorted (args_sorted1 _) ?_
  unfold Builtin.«sorted»
  refine wpAny_bind (m := checkCount "sorted" 1 1 _) (wpAny_pure (wpAny_bind (collect_src (A := X.A.in1) (kdl_raw hs hx hdt) (I.ok.hd hc) ho (by rw [size_of_entries he]; omega) fun h' tk acc kp lt it => ?_)))
  rw [keys_list he it]
  have rowV : ∀ u ∈ ks.map (fun x => Value.ref x.2.1), Row s.heap n (TS.intsOf s.heap) u := fun u hu => by
    obtain ⟨x, mx, rfl⟩ := List.mem_map.mp hu
    exact (row x mx).1
  have lv : (ks.map fun x => Value.ref x.2.1).length = kvs.length := by rw [List.length_map, l2]
  have n1 : 2 ≤ (ks.map fun x => Value.ref x.2.1).length → 1 ≤ n := fun h2 => by
    rw [List.length_map] at h2
    match ks, h2, hn, row with
    | x :: y :: t, _, hn, row =>
      obtain ⟨_, ns, ex, lx⟩ := row x (.head _)
      obtain ⟨_, ms, ey, ly⟩ := row y (.tail _ (.head _))
      have ne : x.1 ≠ y.1 := (List.nodup_cons.mp hn).1 ∘ fun e => by
        rw [show (fun x : List Key × Addr × Value => x.1) x = y.1 from e]
        exact .head _
      refine Nat.pos_of_ne_zero fun e => ne ?_
      rw [ex, ey, List.eq_nil_of_length_eq_zero (lx.trans e), List.eq_nil_of_length_eq_zero (ly.trans e)]
  generalize hvs : ks.map (fun x => Value.ref x.2.1) = vs at rowV lv n1
  have hz : vs.length ≤ sizeLine := by omega
  refine wpAny_bind (wpAny_newList ?_ hz)
  have hoL : (h'.push (seqObj "list" vs.toArray 0)).get? h'.objs.size = some (seqObj "list" vs.toArray 0) := Heap.get?_push_size _ rfl
  have old : ∀ b u, s.heap.get? b = some u → (h'.push (seqObj "list" vs.toArray 0)).get? b = some u := fun b u e => Heap.get?_push_of_some _ (kp b u e)
  refine wpAny_bind (wpAny_holding (wpAny_call_entry slot_list_sort ⟨_, hoL, rfl⟩ entry_list_sort (list_sort_ord (s := { s with heap := h'.push (seqObj "list" vs.toArray 0), toks := tk }) (swo_key (TS.intsOf s.heap)) hoL hz
    (fun h2 => rows_sortable (s := { s with heap := h'.push (seqObj "list" vs.toArray 0), toks := tk }) (n1 h2) (by omega) (fun v hv => row_keeps (rowV v hv) fun b u e _ => old b u e) fun o e => ?_) fun out h1 h2 => ⟨_, rfl, wpAny_pure ⟨_, rfl, ?_⟩⟩) (args_list_sort _)))
  · have e' : some o = some (seqObj "list" vs.toArray 0) := e.symm.trans hoL
    cases e'
    exact fun c => absurd (Value.type.inj c) (by decide)
  · obtain ⟨c, hc2⟩ := sortedHeap_at (vs := vs) (out := out.toArray) hoL
    have pm := h2.perm
    have refs : ∀ u ∈ out, ∃ x ∈ ks, u = Value.ref x.2.1 := fun u hu => by
      have := pm.mem_iff.mp hu
      rw [← hvs] at this
      obtain ⟨x, mx, e⟩ := List.mem_map.mp this
      exact ⟨x, mx, e.symm⟩
    have nd : (kvs.map (·.1)).Nodup := by
      rw [paired_fst pr fun _ _ h => h.1]
      exact hn
    have fr : H h'.objs.size = none := I.hok.fresh (Nat.le_of_lt lt)
    have ly : (out.map bkV).length = kvs.length := by rw [List.length_map, pm.length_eq, lv]
    refine ⟨.ref h'.objs.size, upd H h'.objs.size (.lst (out.map bkV)), I.laid (t' := tk) (fun b u e => ?_) (Nat.le_of_lt lt) ⟨by omega, out, c, bkV_vals fun u hu => let ⟨x, _, e⟩ := refs u hu; ⟨_, e⟩, hc2⟩, rfl, q _ _ fr nd ly (fun y hy => ?_) fun e he => ?_⟩
    · have l := Heap.lt_size e
      refine (show (sortedHeap (h'.push (seqObj "list" vs.toArray 0)) h'.objs.size vs out.toArray).get? b = some u from ?_)
      rw [sortedHeap_old (Nat.ne_of_lt (Nat.lt_trans l lt)) (by rw [size_push']; exact Nat.lt_succ_of_lt (Nat.lt_trans l lt))]
      exact old b u e
    · obtain ⟨u, hu, rfl⟩ := List.mem_map.mp hy
      obtain ⟨x, mx, rfl⟩ := refs u hu
      obtain ⟨e, he, _, e2, _⟩ := m1 x mx
      exact ⟨e, he, _, rfl, e2⟩
    · obtain ⟨x, mx, _, e2, _⟩ := m2 e he
      refine ⟨x.2.1, List.mem_map.mpr ⟨.ref x.2.1, pm.mem_iff.mpr ?_, rfl⟩, e2⟩
      rw [← hvs]
      exact List.mem_map.mpr ⟨x, mx, rfl⟩
end SrD

set_option Elab.async false
set_option linter.all false
set_option maxRecDepth 100000
set_option maxHeartbeats 4000000
/-! keys that are distinct and in a box are few -/
namespace Bd
open PySem PySem.Spec PyProof.Rows L2
theorem nodup_le {α : Type} [DecidableEq α] : ∀ (l U : List α), l.Nodup → (∀ x ∈ l, x ∈ U) → l.length ≤ U.length
  | [], _, _, _ => Nat.zero_le _
  | x :: l, U, nd, h => by
    obtain ⟨nx, nd⟩ := List.nodup_cons.mp nd
    have hx := h x (.head _)
    have := nodup_le l (U.erase x) nd fun y hy => (List.mem_erase_of_ne fun e => nx (by rw [← e]; exact hy)).mpr (h y (.tail _ hy))
    rw [List.length_erase_of_mem hx] at this
    have pos := List.length_pos_of_mem hx
    rw [List.length_cons]
    omega
/-- the keys whose n readings are from 0 to 4 -/
def boxU : Nat → List (List Key)
  | 0 => [[]]
  | n + 1 => (boxU n).flatMap fun l => (List.range 5).map fun v : Nat => l ++ [Sum.inl (v : Int)]
theorem boxU_len : ∀ n, (boxU n).length = 5 ^ n
  | 0 => rfl
  | n + 1 => by
    have ih := boxU_len n
    have : ∀ L : List (List Key), (L.flatMap fun l => (List.range 5).map fun v : Nat => l ++ [(Sum.inl (v : Int) : Key)]).length = 5 * L.length := by
      intro L
      induction L with
      | nil => rfl
      | cons l L ih =>
        rw [List.flatMap_cons, List.length_append, ih, List.length_map, List.length_range, List.length_cons]
        omega
    show ((boxU n).flatMap _).length = _
    rw [this, ih, Nat.pow_succ, Nat.mul_comm]
end Bd

set_option Elab.async false
set_option linter.all false
set_option maxRecDepth 100000
set_option maxHeartbeats 4000000
/-! >> -/
namespace Bd
open PySem PySem.Spec PyProof.Rows L2 Wd Br TO
/-- what >> does: refused where the time is none, or where a reading would be too great -/
def spShrB (K : PySem.W.Frag) (C CIN : Addr) : Sp := fun vs H Q E => ∃ (p : Addr) (n : Nat) (t : Mx) (v : V), vs = [.ref p, v] ∧ BdAt C H p (n + 1) t ∧ n ≤ 12 ∧ Closed (n + 1) t ∧ (∀ H', Same H H' → IntV K H' v) ∧
  ((¬ ∃ τ : Int, v = .int τ ∧ IsInt v ∧ 0 ≤ τ) → Told E H CIN "value" v) ∧ (∀ τ : Int, v = .int τ → ¬ InB (n + 1) (laterM t τ) → Told E H CIN "value" v) ∧
  (∀ (τ : Int) b H', v = .int τ → 0 ≤ τ → InB (n + 1) (laterM t τ) → Same H H' → BdAt C H' b (n + 1) (laterM t τ) → Q (.ref b) H')
theorem isRows_inb {H : Hp} {a : Addr} {n : Nat} {m : Mx} (mt : MatT H a n m) (h : IsRows H (.ref a)) : InB n m := by
  obtain ⟨a', n', m', e, mt', _, _, ib⟩ := isRows_mat h
  cases e
  obtain ⟨rfl, eq⟩ := mt.uniq mt'
  intro i j hi hj
  rw [eq i j hi hj]
  exact ib i j hi hj
section
variable {P : Program} {w : World} {K : PySem.W.Frag} {mg : Str → Option Value} {base : Heap} {fN fL fR C CIB CIN f1 f2 : Addr}
abbrev nShrB : List Str := ["self", "time", "rows"]
theorem scShrB : FnScope nShrB ["self", "time"] (defScope cBounds_rshift) := ⟨rfl, rfl, rfl, by decide +kernel, rfl, by decide +kernel, by decide +kernel⟩
theorem ok_shrB {f : Addr} {fd fdN fdL fdR fdI : FuncData} (F : Fun K "__rshift__" "Bounds.__rshift__" cBounds_rshift f fd) (Y : CTxt K mg C f1 f2) (EN : ErrN P w K mg base CIN) (GN : At_ P w K mg base CX0 1 "is_integer" fN fdN ["value"] (spInt K)) (GL : At_ P w K mg base CX0 1 "later_rows" fL fdL ["rows", "time"] (spLatR K))
    (GR : At_ P w K mg base CX0 3 "is_rows" fR fdR ["value"] (spIsRows K)) (GI : FnOk P w K mg base (L2.CX P w) 4 f1 fdI ["self", "rows"] (spInitB K C CIB)) (bI : Binds K fdI ["self", "rows"] []) : FnOk P w K mg base (L2.CX P w) 6 f fd ["self", "time"] (spShrB K C CIN) := by
  obtain ⟨BN, BI, initId, newId, bN, bmB, EN⟩ := EN
  obtain ⟨fJ, fdJ, iC, tI, GJ, bJ⟩ := EN.i
  refine F.okX scShrB (fun vs H Q E h => ?_) (fun cdv A outer s H vs Q E hr h => ?_)
  · obtain ⟨p, n, t, v, rfl, _⟩ := h
    rfl
  · obtain ⟨p, n, t, v, rfl, bp, hn, cl, iv, no1, no2, yes⟩ := h
    obtain ⟨dx, a, ha, mt⟩ := id bp
    have nd := scShrB.nd
    have hr1 : Room 1 _ := hr.mono (by decide)
    have hr2 : Room 2 _ := hr.mono (by decide)
    have hr3 : Room 3 _ := hr.mono (by decide)
    refine ⟨_, pss_cons (ps_if (PW.pt (pw_or (pt_not (pt_val (pe_call GN.g hr1 rfl GN.m GN.kp GN.b .nil pass0 (pa_cons (pv 1) pa_nil)))) (pw_or1 (pt_cmpR op_lt (pv 1) pe_int (nomark _))))) (pss_one (ps_raise rfl (takes_of rfl rfl rfl rfl) (Ek.pmk_raise EN.FN EN.U EN.T (raises_own EN.b EN.t) iC tI GJ hr2 bJ rfl EN.g (pv 1)))) pss_nil)
      (pss_cons (ps_set (i := 2) nd rfl (Or.inl rfl) (pe_call GL.g hr1 rfl GL.m GL.kp GL.b .nil pass0 (pa_cons (pe_fld (pv 0) rfl) (pa_cons (pv 1) pa_nil))))
      (pss_cons (ps_if (pt_not (pt_val (pe_call GR.g hr3 rfl GR.m GR.kp GR.b .nil pass0 (pa_cons (pv 2) pa_nil)))) (pss_one (ps_raise rfl (takes_of rfl rfl rfl rfl) (Ek.pmk_raise EN.FN EN.U EN.T (raises_own EN.b EN.t) iC tI GJ hr2 bJ rfl EN.g (pv 1)))) pss_nil)
      (pss_one (ps_ret (pe_make Y.mak GI hr rfl Y.mgC bI .nil (passes_call (takes_of rfl rfl rfl rfl) (fun _ _ _ _ h => h)) (pa_cons (pv 2) pa_nil)))))), ?_⟩
    refine ⟨_, rfl, v, rfl, iv H (Same.refl _), fun b hb => ⟨b, rfl, ?_⟩⟩
    cases b with
    | false => exact iteT (iteT ⟨_, rfl, no1 fun ⟨τ, e, im, _⟩ => Bool.noConfusion (hb.mpr im)⟩)
    | true =>
      have im := hb.mp rfl
      obtain ⟨τ, rfl, _⟩ := id im
      refine iteF ⟨_, rfl, _, _, rfl, rfl, _, rfl, ?_⟩
      refine ite2 (fun c => ?_) (fun c => ?_)
      · have c := of_decide_eq_true c
        exact ⟨_, rfl, no1 fun ⟨τ', e, _, h⟩ => by
          injection e with e
          omega⟩
      have c : 0 ≤ τ := Int.not_lt.mp fun z => c (decide_eq_true z)
      refine ⟨_, rfl, p, C, dx, _, _, rfl, ha, Y.cl, Y.nR, bf_rows a, _, rfl, ?_⟩
      refine ⟨a, n, t, τ, rfl, mt, hn, fun a' H1 s1 ml => ?_⟩
      refine ⟨_, rfl, .ref a', 20, 3, rfl, by decide, ml.dat (by omega), fun H2 b s2 hb2 => ⟨b, rfl, ?_⟩⟩
      cases b with
      | false => exact iteT ⟨_, rfl, (no2 τ rfl fun ib => Bool.noConfusion (hb2.mpr (isRows_of ml (by omega) (by omega) ib))).mono (s1.trans s2)⟩
      | true =>
        have ib := isRows_inb ml (hb2.mp rfl)
        have ml := ml.mono (Kp.of s2)
        refine iteF ⟨_, rfl, fun x dz hx hd ne => ?_⟩
        rw [List.append_nil]
        refine newB_R hx hd ne (by decide) (ml.dat (by omega)) (fun a2 k2 M2 t2 H4 e m2 _ _ _ tt s4 bg4 => ⟨rfl, ?_⟩) fun H4 s4 nf => ?_
        · cases e
          obtain ⟨rfl, eq⟩ := ml.uniq m2
          have t2u : EqM (n + 1) t2 (laterM t τ) := tt.uniq ⟨later_closed cl, fun p => pot_eq eq⟩
          obtain ⟨d4, a4, h4, m4⟩ := bg4
          exact yes τ x H4 rfl c ib ((s1.trans s2).trans s4) ⟨d4, a4, h4, m4.ext t2u⟩
        · exact (nf ⟨a', n + 1, laterM t τ, rfl, ml, by omega, by omega, ib, closed_feas (later_closed cl) (by omega)⟩).elim
end
end Bd

set_option Elab.async false
set_option linter.all false
set_option maxRecDepth 100000
set_option maxHeartbeats 4000000
/-! risen -/
namespace Bd
open PySem PySem.Spec PyProof.Rows L2 Wd Br TO
theorem risen_of {n : Nat} {t : Mx} {ta : Nat → Int} (c : Closed (n + 1) t) (ok : ∀ j, j < n → 0 ≤ t 0 (j + 1) + ta j) : OfR n (RisR n t ta) (risenM t ta (n - 1)) := by
  cases n with
  | zero =>
    have m0 : risenM t ta 0 0 0 = 0 := rfl
    have t0 := c.dg 0 (by omega)
    refine ⟨⟨fun i hi => ?_, fun i j k hi hj hk => ?_⟩, fun q => ⟨fun _ i j hi hj => ?_, fun _ => ⟨q, 0, fun i j hi hj => ?_, by omega, fun i hi => by omega⟩⟩⟩
    · obtain rfl : i = 0 := by omega
      exact m0
    · obtain rfl : i = 0 := by omega
      obtain rfl : j = 0 := by omega
      obtain rfl : k = 0 := by omega
      show risenM t ta 0 0 0 ≤ risenM t ta 0 0 0 + risenM t ta 0 0 0
      omega
    · obtain rfl : i = 0 := by omega
      obtain rfl : j = 0 := by omega
      show full q 0 - full q 0 ≤ risenM t ta 0 0 0
      omega
    · obtain rfl : i = 0 := by omega
      obtain rfl : j = 0 := by omega
      omega
  | succ k => exact ⟨risen_closed c ok, fun q => risen_has c⟩
theorem risen_inb {n : Nat} {t : Mx} {ta : Nat → Int} (ib : InB (n + 1) t) (tb : ∀ k, k < n → -ten60 < ta k ∧ ta k < ten60) (c0 : Closed (n + 1) t) (c : Closed (n + 1) (risenM t ta (n - 1))) : InB (n + 1) (risenM t ta (n - 1)) := by
  have up : ∀ i j, i < n + 1 → j < n + 1 → risenM t ta (n - 1) i j < ten60 := fun i j hi hj => by
    unfold risenM hiT
    by_cases hj0 : j = 0
    · rw [if_pos hj0]
      by_cases hi0 : i = 0
      · rw [if_pos hi0]
        decide +kernel
      · rw [if_neg hi0]
        have h1 := hiP_le (t := t) (a := ta) (k := n - 1) (i := i) (show i - 1 ≤ n - 1 by omega)
        have h2 := (tb (i - 1) (by omega)).2
        have d := c0.dg i hi
        rw [show i - 1 + 1 = i by omega] at h1
        omega
    · rw [if_neg hj0]
      have := (ib i j hi hj).2
      omega
  intro i j hi hj
  have h1 := up i j hi hj
  have h2 := up j i hj hi
  have h3 := c.tr i i j hi hi hj
  have h4 := c.dg i hi
  exact ⟨by omega, h1⟩
def spRisB (K : PySem.W.Frag) (C CIB : Addr) : Sp := fun vs H Q E => ∃ (p : Addr) (n : Nat) (t : Mx) (v : V) (m k : Nat), vs = [.ref p, v] ∧ BdAt C H p (n + 1) t ∧ n ≤ 12 ∧ Closed (n + 1) t ∧ InB (n + 1) t ∧ m ≤ 1000 ∧ Dat noT [] H m k v ∧
  (¬ AreI H v (n : Int) → ∀ H', Same H H' → E (.ref CIB) none H') ∧
  (∀ (b : Addr) (ta : Nat → Int), v = .ref b → H b = some (.tup (rowV n ta)) → (∀ k, k < n → -ten60 < ta k ∧ ta k < ten60) → ∀ w H', Same H H' → ((w = .non ∧ ¬ ∃ r, RisR n t ta r) ∨ ∃ c u, w = .ref c ∧ BdAt C H' c (n + 1) u ∧ OfR n (RisR n t ta) u) → Q w H')
section
variable {P : Program} {w : World} {K : PySem.W.Frag} {mg : Str → Option Value} {base : Heap} {fA fL fR C CIB f1 f2 : Addr}
abbrev nRisB : List Str := ["self", "tops", "rows"]
theorem scRisB : FnScope nRisB ["self", "tops"] (defScope cBounds_risen) := ⟨rfl, rfl, rfl, by decide +kernel, rfl, by decide +kernel, by decide +kernel⟩
theorem ok_risB {f : Addr} {fd fdA fdL fdR fdI : FuncData} (F : Fun K "risen" "Bounds.risen" cBounds_risen f fd) (Y : CTxt K mg C f1 f2) (T : ErrT K mg "InvalidBounds" CIB) (ml : mg "len" = none) (D : OO.Dun K C "__len__" fL) (GL : FnOk P w K mg base CX0 1 fL fdL ["self"] (spLenB C)) (bL : Binds K fdL ["self"] [])
    (GA : At_ P w K mg base CX0 2 "are_integers" fA fdA ["value", "many"] (spAre K)) (GR : At_ P w K mg base CX0 1 "risen_rows" fR fdR ["rows", "tops"] (spRisR K)) (GI : FnOk P w K mg base (L2.CX P w) 4 f1 fdI ["self", "rows"] (spInitB K C CIB)) (bI : Binds K fdI ["self", "rows"] []) :
    FnOk P w K mg base (L2.CX P w) 6 f fd ["self", "tops"] (spRisB K C CIB) := by
  refine F.okX scRisB (fun vs H Q E h => ?_) (fun cdv A outer s H vs Q E hr h => ?_)
  · obtain ⟨p, n, t, v, m, k, rfl, _⟩ := h
    rfl
  · obtain ⟨p, n, t, v, m, k, rfl, bp, hn, cl, ib, hm, d, no, yes⟩ := h
    obtain ⟨dx, a, ha, mt⟩ := id bp
    have nd := scRisB.nd
    have hr1 : Room 1 _ := hr.mono (by decide)
    have hr2 : Room 2 _ := hr.mono (by decide)
    refine ⟨_, pss_cons (ps_if (pt_not (pt_val (pe_call GA.g hr2 rfl GA.m GA.kp GA.b .nil pass0 (pa_cons (pv 1) (pa_cons (pe_callB (OO.len_own D GL hr2 bL pass0) (by rfl) ml PySem.boot_len (pa_cons (pv 0) pa_nil)) pa_nil))))) (pss_one (ps_raise rfl (takes_of rfl rfl rfl rfl) (pmk_own PySem.F.excBase_ValueError T.x T.g T.k (raises_own T.b T.t) rfl))) pss_nil)
      (pss_cons (ps_set (i := 2) nd rfl (Or.inl rfl) (pe_call GR.g hr1 rfl GR.m GR.kp GR.b .nil pass0 (pa_cons (pe_fld (pv 0) rfl) (pa_cons (pv 1) pa_nil))))
      (pss_one (ps_ret (pe_ifExp (pt_cmp (pc_isN (pv 2)) rfl) pe_non (pe_make Y.mak GI hr rfl Y.mgC bI .nil (passes_call (takes_of rfl rfl rfl rfl) (fun _ _ _ _ h => h)) (pa_cons (pv 2) pa_nil)))))), ?_⟩
    refine ⟨_, rfl, _, rfl, p, dx, _, rfl, ha, p, n, t, rfl, bp, hn, fun H1 s1 => ⟨n, rfl, by omega, v, n, H, m, k, rfl, s1, hm, d, fun H2 b s2 hb => ⟨b, rfl, ?_⟩⟩⟩
    have s12 := s1.trans s2
    cases b with
    | false => exact iteT (no (fun h => Bool.noConfusion (hb.mpr h)) _ s12)
    | true =>
      obtain ⟨b, ta, rfl, qb, tb⟩ := are_row (hb.mp rfl)
      have yes := yes b ta rfl qb tb
      refine iteF ⟨_, rfl, p, C, dx, _, _, rfl, s12 _ _ ha, Y.cl, Y.nR, bf_rows a, _, rfl, ?_⟩
      refine ⟨a, b, n, t, ta, rfl, mt.mono (Kp.of s12), s12 _ _ qb, hn, cl, fun a' H3 s3 ok mr => ?_, fun H3 j s3 hj h => ⟨_, rfl, _, rfl, iteT (yes _ H3 (s12.trans s3) (.inl ⟨rfl, risen_none hj h⟩))⟩⟩
      have of := risen_of cl ok
      have iu := risen_inb ib tb cl of.1
      refine ⟨_, rfl, _, rfl, iteF ⟨_, rfl, fun x dz hx hd ne => ?_⟩⟩
      rw [List.append_nil]
      refine newB_R hx hd ne (by decide) (mr.dat (by omega)) (fun a2 k2 M2 t2 H4 e m2 _ _ _ tt s4 bg4 => ⟨rfl, ?_⟩) fun H4 s4 nf => ?_
      · cases e
        obtain ⟨rfl, eq⟩ := mr.uniq m2
        have t2u : EqM (n + 1) t2 (risenM t ta (n - 1)) := tt.uniq ⟨of.1, fun p => pot_eq eq⟩
        obtain ⟨d4, a4, h4, m4⟩ := bg4
        exact yes _ H4 (s12.trans (s3.trans s4)) (.inr ⟨x, _, rfl, ⟨d4, a4, h4, m4.ext t2u⟩, of⟩)
      · exact (nf ⟨a', n + 1, _, rfl, mr, by omega, by omega, iu, closed_feas of.1 (by omega)⟩).elim
end
end Bd

set_option Elab.async false
set_option linter.all false
set_option maxRecDepth 100000
set_option maxHeartbeats 4000000
/-! len(set(l)) of integers, some perhaps twice: as many as l has exactly where none is twice (for a rule like RZ.pe_lenSetI without its premise that none is twice) -/
namespace Br
open PySem PySem.Spec PyProof.Rows L2 RZ
theorem met_len {ns : List Int} : ∀ i, i ≤ ns.length → (firstMet (fun i => ns.getD i 0) i).length = i → (ns.take i).Nodup
  | 0, _, _ => by simp
  | i + 1, hi, h => by
    have hlt : i < ns.length := hi
    have e1 : ns.getD i 0 = ns[i] := by
      rw [List.getD_eq_getElem?_getD, List.getElem?_eq_getElem hlt] <;> rfl
    have le := firstMet_length_le (fun i => ns.getD i 0) i
    rw [firstMet_succ] at h
    unfold step_dedup at h
    have an := firstMet_any (fun i => ns.getD i 0) i (ns.getD i 0)
    cases hb : (firstMet (fun i => ns.getD i 0) i).any (· == ns.getD i 0) with
    | true =>
      rw [hb] at h
      simp only [if_true] at h
      omega
    | false =>
      have ih := met_len i (Nat.le_of_lt hlt) (by
        rw [hb, if_neg (by decide), List.length_append] at h
        have h : (firstMet (fun i => ns.getD i 0) i).length + 1 = i + 1 := h
        omega)
      rw [hb] at an
      rw [List.take_add_one, List.getElem?_eq_getElem hlt]
      show (ns.take i ++ [ns[i]]).Nodup
      rw [List.nodup_append]
      refine ⟨ih, by simp, fun a ha b hb' => ?_⟩
      rw [List.mem_singleton.mp hb']
      rintro rfl
      obtain ⟨j, hj⟩ := List.getElem?_of_mem ha
      have lj := (List.getElem?_eq_some_iff.mp hj).1
      rw [List.length_take] at lj
      rw [List.getElem?_take_of_lt (by omega)] at hj
      have : ((List.range i).map fun i => ns.getD i 0).any (· == ns.getD i 0) = true := by
        rw [List.any_eq_true]
        refine ⟨ns.getD j 0, List.mem_map.mpr ⟨j, List.mem_range.mpr (by omega), rfl⟩, ?_⟩
        rw [List.getD_eq_getElem?_getD, hj, e1]
        simp
      rw [this] at an
      cases an
end Br

set_option Elab.async false
set_option linter.all false
set_option maxRecDepth 100000
set_option maxHeartbeats 4000000
/-! are_places, moved -/
namespace Br
open PySem PySem.Spec PyProof.Rows L2 RZ
/-- len(set(l)) of integers: as many as l has exactly where none is there twice -/
def tLenSetA (K : PySem.W.Frag) (ta : TE) : TE := fun σ H Q => ta σ H fun x H1 => ∃ (l : Addr) (ns : List Int), x = .ref l ∧ SqL K H1 l (ns.map V.int) ∧ ns.length ≤ 4000 ∧ ∀ m : Nat, (m = ns.length ↔ ns.Nodup) → Q (.int (m : Int)) H1
theorem pe_lenSetA {X : Cx} {a : Expr} {ta : TE} {p p2 q pos : Pos} (g1 : Gl X "len") (m1 : X.mg "len" = none) (g2 : Gl X "set") (m2 : X.mg "set" = none) (ha : PE X a ta) (hc : X.calm = true := by rfl)
    (na : starEach [a] X.env = (false, eval a X.env) :: starEach [] X.env := by rfl) : PE X (.Call (.Name "len" p) [.Call (.Name "set" p2) [a] [] q] [] pos) (tLenSetA X.K ta) := by
  refine ⟨fun pins s σ H Q I h => Call_ (ld_blt I g1 m1 boot_len (PyProof.Rows.callWith_builtin1 (PyProof.Rows.args_cons (Call_ (ld_blt I g2 m2 boot_set (PyProof.Rows.callWith_type1 (PyProof.Rows.args_cons (thn (ha.run pins s σ H _ I h) fun v s1 ⟨x, H1, I1, r1, q1⟩ => PyProof.Rows.args_nil ?_) na) na rfl))) rfl) rfl rfl))⟩
  obtain ⟨l, ns, rfl, hq, hl, q1⟩ := q1
  cases r1
  obtain ⟨us, r, pl, _⟩ := I1.list hq
  have lu : us.toArray.size = ns.length := by rw [List.size_toArray, ← r.length, List.length_map]
  refine call_set_list (I1.ok.hd hc) pl.isList (by simpa using intsAre_vals r) (by rw [lu]; unfold scanBound; omega) fun h' tk hS hk => PyProof.Rows.args_nil ?_
  rw [lu] at hS
  obtain ⟨o, es, ep, t, ho, hex, hd, _, _, _, hf, hn⟩ := hS
  have le := firstMet_length_le (fun i => ns.getD i 0) ns.length
  refine call_len_set ho hex hd hf (by rw [hn] <;> omega) ⟨.int (firstMet (fun i => ns.getD i 0) ns.length).length, H1, (I1.kept fun b o e => hk b o (Heap.lt_size e) e).tok _, ⟨_, by rw [hn]⟩, q1 _ ⟨fun e => ?_, fun nd => ?_⟩⟩
  · have := met_len ns.length (Nat.le_refl _) e
    rwa [List.take_length] at this
  · rw [firstMet_nodup nd ns.length (Nat.le_refl _), List.take_length]
end Br
namespace Bd
open PySem PySem.Spec PyProof.Rows L2 Wd Br TO
def nzs (k : Nat) (ps : Nat → Int) : List Int := ((List.range k).map ps).filter fun z => decide (0 < z)
theorem nzs_succ (k : Nat) (ps : Nat → Int) : nzs (k + 1) ps = nzs k ps ++ if 0 < ps k then [ps k] else [] := by
  unfold nzs
  rw [List.range_succ, List.map_append, List.filter_append]
  congr 1
  by_cases h : 0 < ps k
  · rw [if_pos h]
    simp [h]
  · rw [if_neg h]
    simp [h]
theorem nzs_mem {k : Nat} {ps : Nat → Int} {z : Int} : z ∈ nzs k ps ↔ 0 < z ∧ ∃ s, s < k ∧ ps s = z := by
  unfold nzs
  rw [List.mem_filter, List.mem_map]
  constructor
  · rintro ⟨⟨s, hs, e⟩, h⟩
    exact ⟨of_decide_eq_true h, s, List.mem_range.mp hs, e⟩
  · rintro ⟨h, s, hs, e⟩
    exact ⟨⟨s, List.mem_range.mpr hs, e⟩, decide_eq_true h⟩
theorem nzs_len (k : Nat) (ps : Nat → Int) : (nzs k ps).length ≤ k := by
  refine Nat.le_trans (List.length_filter_le _ _) ?_
  rw [List.length_map, List.length_range]
  exact Nat.le_refl _
def Dst (k : Nat) (ps : Nat → Int) : Prop := ∀ s t, s < t → t < k → 0 < ps s → ps s ≠ ps t
theorem nzs_nodup : ∀ {k : Nat} {ps : Nat → Int}, (nzs k ps).Nodup ↔ Dst k ps
  | 0, ps => ⟨fun _ s t _ h => by omega, fun _ => List.nodup_nil⟩
  | k + 1, ps => by
    have ih := nzs_nodup (k := k) (ps := ps)
    rw [nzs_succ, List.nodup_append]
    constructor
    · rintro ⟨h1, _, h3⟩ s t hst ht hs
      by_cases e : t = k
      · subst e
        intro e
        have pos : 0 < ps t := by omega
        rw [if_pos pos] at h3
        exact h3 (ps s) (nzs_mem.mpr ⟨hs, s, hst, rfl⟩) (ps t) (List.mem_singleton.mpr rfl) e
      · exact ih.mp h1 s t hst (by omega) hs
    · intro h
      refine ⟨ih.mpr fun s t hst ht hs => h s t hst (by omega) hs, ?_, fun x hx y hy e => ?_⟩
      · split <;> simp
      · obtain ⟨px, s, hs, e1⟩ := nzs_mem.mp hx
        by_cases pos : 0 < ps k
        · rw [if_pos pos] at hy
          have := List.mem_singleton.mp hy
          exact h s k hs (by omega) (by omega) (by omega)
        · rw [if_neg pos] at hy
          exact List.not_mem_nil hy
/-- places among n clocks -/
def Plc (H : Hp) (v : V) (n : Nat) : Prop := ∃ (a : Addr) (k : Nat) (ps : Nat → Int), v = .ref a ∧ H a = some (.tup (rowV k ps)) ∧ k ≤ 12 ∧ (∀ s, s < k → 0 ≤ ps s ∧ ps s ≤ n) ∧ Dst k ps
def spPla (K : PySem.W.Frag) : Sp := fun vs H Q _ => ∃ (v : V) (n m j : Nat), vs = [v, .int (n : Int)] ∧ n ≤ 12 ∧ m ≤ 1000 ∧ Dat noT [] H m j v ∧ ∀ H' b, Same H H' → (b = true ↔ Plc H v n) → Q (.bl b) H'
def spMovB (K : PySem.W.Frag) (C CIB : Addr) : Sp := fun vs H Q E => ∃ (p : Addr) (n : Nat) (t : Mx) (v : V) (m j : Nat), vs = [.ref p, v] ∧ BdAt C H p (n + 1) t ∧ n ≤ 12 ∧ Closed (n + 1) t ∧ InB (n + 1) t ∧ m ≤ 1000 ∧ Dat noT [] H m j v ∧
  (¬ Plc H v n → ∀ H', Same H H' → E (.ref CIB) none H') ∧
  (∀ (b : Addr) (k : Nat) (ps : Nat → Int), v = .ref b → H b = some (.tup (rowV k ps)) → k ≤ 12 → (∀ s, s < k → 0 ≤ ps s ∧ ps s ≤ n) → Dst k ps → ∀ c H', Same H H' → BdAt C H' c (k + 1) (movedM t (kap ps)) → Q (.ref c) H')
theorem btw_nat {x : V} {n : Nat} (h : Btw x 0 n) : ∃ z : Int, x = .int z ∧ 0 ≤ z ∧ z ≤ n := let ⟨z, e, _, _, a, b⟩ := h; ⟨z, e, a, b⟩
section
variable {P : Program} {w : World} {K : PySem.W.Frag} {mg : Str → Option Value} {base : Heap} {fI fA fB fL fR C CIB f1 f2 : Addr}
abbrev nPla : List Str := ["value", "many", "old", "place"]
theorem scPla : FnScope nPla ["value", "many"] (defScope sArePlaces) := ⟨rfl, rfl, rfl, by decide +kernel, rfl, by decide +kernel, by decide +kernel⟩
theorem ok_pla {f : Addr} {fd fdB : FuncData} (F : Fun K "are_places" "are_places" sArePlaces f fd) (X : BTxt mg fI) (ms : mg "set" = none) (GB : At_ P w K mg base CX0 2 "is_between" fB fdB ["value", "least", "most"] (spBet K)) : FnOk P w K mg base CX0 3 f fd ["value", "many"] (spPla K) := by
  refine F.ok scPla (fun vs H Q E h => ?_) (fun cdv A outer s H vs Q E hr h => ?_)
  · obtain ⟨v, n, m, j, rfl, _⟩ := h
    rfl
  · obtain ⟨v, n, m, j, rfl, hn, hm, d, k⟩ := h
    have nd := scPla.nd
    refine ⟨_, pss_cons (ps_if (PW.pt (pw_or (pt_not (pt_val (pe_isi (N := "tuple") (pv 0) X.isin X.tup))) (pw_or1 (pt_cmpR op_gt (pe_callB call_len_seq (by rfl) X.len PySem.boot_len (pa_cons (pv 0) pa_nil)) (pe_gcon rfl X.mc) (nomark _))))) (pss_one (ps_ret pe_bl)) pss_nil)
      (pss_cons (ps_if (pt_not (pt_val (pe_callB (cr_all rfl) (by rfl) X.all (by decide +kernel) (pa_cons (pe_lc (own := [("place", 3)]) (g := gName 3) (tt := tYes) rfl nd (pi_tup (pv 0)) (blkOk_by (N := nPla) (sc := defScope sArePlaces) (by decide +kernel))
          (fun _ _ _ _ _ => pg_name (i := 3) nd rfl (Or.inl rfl)) (fun _ _ _ _ _ => pts_nil) (fun _ _ _ _ _ => pe_call GB.g hr rfl GB.m GB.kp GB.b .nil pass0 (pa_cons (pv 3) (pa_cons pe_int (pa_cons (pv 1) pa_nil))))) pa_nil)))) (pss_one (ps_ret pe_bl)) pss_nil)
      (pss_cons (ps_setLc (i := 2) (own := [("place", 3)]) (g := gName 3) rfl nd rfl rfl (sw_true rfl rfl rfl (by decide +kernel)) (pi_tup (pv 0)) (blkOk_by (N := nPla) (sc := defScope sArePlaces) (by decide +kernel))
          (fun _ _ _ _ _ => pg_name (i := 3) nd rfl (Or.inl rfl)) (fun _ _ _ _ _ => pts_one (pt_cmpR op_gt (pv 3) pe_int (nomark _))) (fun _ _ _ _ _ => pv 3))
      (pss_one (ps_ret (pe_cmpR op_eq (pe_callB call_len_seq (by rfl) X.len PySem.boot_len (pa_cons (pv 2) pa_nil)) (pe_lenSetA (by rfl) X.len (by rfl) ms (pv 2)) (nomark _)))))), ?_⟩
    rcases d.isTup (K := K) own_no (Ob.of (Same.refl _)) with ⟨a, xs, j', rfl, _, e0, e, lx, px, i1⟩ | ⟨no, i1⟩
    · have un : ∀ {k ps}, H a = some (.tup (rowV k ps)) → xs = rowV k ps := fun h => by
        rw [e0] at h
        injection (Option.some.inj h)
      refine ⟨_, rfl, _, i1, _, rfl, iteF ⟨_, rfl, a, xs, rfl, .inr (SqT.of e), _, _, rfl, rfl, _, rfl, ?_⟩⟩
      refine ite2 (fun c => ?_) (fun c => ?_)
      · have c := of_decide_eq_true c
        refine k _ _ (Same.refl _) (nay fun ⟨a', q, ps, ea, e', h, _⟩ => ?_)
        cases ea
        rw [un e', rowV_len] at c
        omega
      have c12 : xs.length ≤ 12 := by
        have : ¬ ((xs.length : Int) > 12) := fun z => c (decide_eq_true z)
        omega
      refine ⟨_, rfl, a, rfl, ⟨_, SqT.of e⟩, fun D hD => ?_⟩
      refine lc_bs (walk_tup (K := K) (a := a) (xs := xs)) (fun i => ∃ x, xs[i]? = some x ∧ Btw x 0 n) hD (by omega) (fun H1 s1 => SqT.of (s1 _ _ e)) ?_ ?_
      · rintro i x H1 H' kT hi s1 ⟨rfl, hx⟩ h
        refine ⟨rfl, _, rfl, _, rfl, x, 0, _, rfl, intV_of s1 (px x (List.mem_of_getElem? hx)), fun b hb => h b _ (Same.refl _) (hb.trans ⟨fun q => ⟨x, hx, q⟩, fun ⟨y, hy, q⟩ => ?_⟩)⟩
        rw [hx] at hy
        cases hy
        exact q
      rintro H1 bs s1 hD1 hall -
      refine ⟨D, bs, rfl, SqL.of hD1, _, rfl, ?_⟩
      cases hb : bs.all id with
      | false =>
        refine iteT (k _ _ s1 (nay fun ⟨a', q, ps, ea, e', _, h, _⟩ => ?_))
        cases ea
        have ex := un e'
        have : bs.all id = true := hall.mpr fun i hi => by
          rw [ex, rowV_len] at hi
          have := h i hi
          exact ⟨.int (ps i), by rw [ex]; exact rowV_get hi, _, rfl, Int.lt_of_lt_of_le (by decide +kernel : -ten60 < 0) this.1, Int.lt_of_le_of_lt (by omega : ps i ≤ 12) (by decide +kernel), this.1, this.2⟩
        rw [hb] at this
        cases this
      | true =>
        have al := hall.mp hb
        obtain ⟨ps, ex, pb⟩ : ∃ ps : Nat → Int, xs = rowV xs.length ps ∧ ∀ s, s < xs.length → 0 ≤ ps s ∧ ps s ≤ n := by
          refine ⟨fun i => match xs[i]? with | some (.int z) => z | _ => 0, rowV_of rfl fun i y hy => ?_, fun s hs => ?_⟩
          · obtain ⟨x, hx, q⟩ := al i (List.getElem?_eq_some_iff.mp hy).1
            rw [hy] at hx
            cases hx
            obtain ⟨z, rfl, _⟩ := btw_nat q
            show V.int z = V.int (match xs[i]? with | some (.int z) => z | _ => 0)
            rw [hy]
          · obtain ⟨x, hx, q⟩ := al s hs
            obtain ⟨z, rfl, h1, h2⟩ := btw_nat q
            show 0 ≤ (match xs[s]? with | some (.int z) => z | _ => 0) ∧ (match xs[s]? with | some (.int z) => z | _ => 0) ≤ (n : Int)
            rw [hx]
            exact ⟨h1, h2⟩
        clear c
        generalize xs.length = l at ex c12 pb
        subst ex
        refine iteF ⟨_, rfl, a, rfl, ⟨_, SqT.of (s1 _ _ e)⟩, fun D2 hD2 => ?_⟩
        refine lc_it (walk_tup (K := K) (a := a) (xs := rowV l ps)) (fun i H' => Same H1 H' ∧ H' D2 = some (.lst ((nzs i ps).map V.int))) ⟨same_new hD2, upd_same⟩ (fun i H' _ ⟨s2, _⟩ => SqT.of (s2 _ _ (s1 _ _ e))) ?_ ?_
        · rintro i x H2 H' hi ⟨s2, eD⟩ ⟨rfl, hx⟩
          rw [rowV_len] at hi
          rw [rowV_get hi] at hx
          cases hx
          refine ⟨rfl, _, rfl, _, _, rfl, rfl, _, rfl, ?_⟩
          refine ite2 (fun z => ?_) (fun z => ?_)
          · have z := of_decide_eq_true z
            refine ⟨_, rfl, _, eD, small1000 (by rw [List.length_map]; have := nzs_len i ps; omega), fun b o g => by rw [upd_ne (ne_of_none g hD2)]; exact s2 _ _ g, ?_⟩
            rw [upd_same, nzs_succ, if_pos z, List.map_append]
            rfl
          · have z : ¬ 0 < ps i := fun h => z (decide_eq_true h)
            refine ⟨s2, ?_⟩
            rw [nzs_succ, if_neg z, List.append_nil]
            exact eD
        · rintro H2 ⟨s2, eD⟩
          rw [rowV_len] at eD
          have ln := nzs_len l ps
          refine ⟨_, rfl, D2, _, rfl, .inl (SqL.of eD), _, rfl, D2, nzs l ps, rfl, SqL.of eD, by omega, fun q hq => ⟨rfl, k _ _ (s1.trans s2) ?_⟩⟩
          rw [List.length_map, decide_eq_true_iff]
          constructor
          · intro h
            have h : (((nzs l ps).length : Nat) : Int) = (q : Int) := by injection h
            exact ⟨a, l, ps, rfl, e0, c12, pb, nzs_nodup.mp (hq.mp (by omega))⟩
          · rintro ⟨a', l', ps', ea, e', _, _, ds⟩
            cases ea
            have eq := un e'
            have ll : l = l' := by
              have := congrArg List.length eq
              rwa [rowV_len, rowV_len] at this
            subst ll
            have := hq.mpr (nzs_nodup.mpr fun s t h1 h2 h3 => by
              rw [rowV_inj eq (by omega : s < l)] at h3 ⊢
              rw [rowV_inj eq h2]
              exact ds s t h1 h2 h3)
            rw [this]
    · exact ⟨_, rfl, _, i1, _, rfl, iteT (k _ _ (Same.refl _) (nay fun ⟨a', q, ps, ea, e', _⟩ => no _ _ ea e'))⟩
theorem scMovB : FnScope ["self", "places"] ["self", "places"] (defScope cBounds_moved) := ⟨rfl, rfl, rfl, by decide +kernel, rfl, by decide +kernel, by decide +kernel⟩
theorem moved_inb {n k : Nat} {t : Mx} {κ : Nat → Nat} (ib : InB (n + 1) t) (hk : ∀ s, s < k + 1 → κ s < n + 1) : InB (k + 1) (movedM t κ) := fun i j hi hj => ib _ _ (hk i hi) (hk j hj)
theorem kap_lt {n k : Nat} {ps : Nat → Int} (pb : ∀ s, s < k → 0 ≤ ps s ∧ ps s ≤ n) : ∀ s, s < k + 1 → kap ps s < n + 1 := fun s hs => by
  cases s with
  | zero => exact Nat.succ_pos _
  | succ s =>
    have := pb s (by omega)
    show (ps s).toNat < n + 1
    omega
theorem ok_movB {f : Addr} {fd fdA fdL fdR fdI : FuncData} (F : Fun K "moved" "Bounds.moved" cBounds_moved f fd) (Y : CTxt K mg C f1 f2) (T : ErrT K mg "InvalidBounds" CIB) (ml : mg "len" = none) (D : OO.Dun K C "__len__" fL) (GL : FnOk P w K mg base CX0 1 fL fdL ["self"] (spLenB C)) (bL : Binds K fdL ["self"] [])
    (GA : At_ P w K mg base CX0 3 "are_places" fA fdA ["value", "many"] (spPla K)) (GR : At_ P w K mg base CX0 1 "moved_rows" fR fdR ["rows", "places"] (spMovR K)) (GI : FnOk P w K mg base (L2.CX P w) 4 f1 fdI ["self", "rows"] (spInitB K C CIB)) (bI : Binds K fdI ["self", "rows"] []) :
    FnOk P w K mg base (L2.CX P w) 6 f fd ["self", "places"] (spMovB K C CIB) := by
  refine F.okX scMovB (fun vs H Q E h => ?_) (fun cdv A outer s H vs Q E hr h => ?_)
  · obtain ⟨p, n, t, v, m, j, rfl, _⟩ := h
    rfl
  · obtain ⟨p, n, t, v, m, j, rfl, bp, hn, cl, ib, hm, d, no, yes⟩ := h
    obtain ⟨dx, a, ha, mt⟩ := id bp
    have nd := scMovB.nd
    have hr1 : Room 1 _ := hr.mono (by decide)
    have hr2 : Room 2 _ := hr.mono (by decide)
    have hr3 : Room 3 _ := hr.mono (by decide)
    refine ⟨_, pss_cons (ps_if (pt_not (pt_val (pe_call GA.g hr3 rfl GA.m GA.kp GA.b .nil pass0 (pa_cons (pv 1) (pa_cons (pe_callB (OO.len_own D GL hr2 bL pass0) (by rfl) ml PySem.boot_len (pa_cons (pv 0) pa_nil)) pa_nil))))) (pss_one (ps_raise rfl (takes_of rfl rfl rfl rfl) (pmk_own PySem.F.excBase_ValueError T.x T.g T.k (raises_own T.b T.t) rfl))) pss_nil)
      (pss_one (ps_ret (pe_make Y.mak GI hr rfl Y.mgC bI .nil (passes_call (takes_of rfl rfl rfl rfl) (fun _ _ _ _ h => h)) (pa_cons (pe_call GR.g hr1 rfl GR.m GR.kp GR.b .nil pass0 (pa_cons (pe_fld (pv 0) rfl) (pa_cons (pv 1) pa_nil))) pa_nil)))), ?_⟩
    refine ⟨_, rfl, _, rfl, p, dx, _, rfl, ha, p, n, t, rfl, bp, hn, fun H1 s1 => ?_⟩
    refine ⟨n, rfl, by omega, v, n, m, j, rfl, hn, hm, d.mono (K := K) own_no (Ob.of s1), fun H2 b s2 hb => ⟨b, rfl, ?_⟩⟩
    have s12 := s1.trans s2
    have back : Plc H1 v n ↔ Plc H v n := by
      constructor
      · rintro ⟨c, k, ps, e, h, r⟩
        refine ⟨c, k, ps, e, ?_, r⟩
        subst e
        cases d with
        | own t => exact t.elim
        | tup nn e0 l0 p0 =>
          rw [s1 _ _ e0] at h
          rw [e0]
          exact h
        | lst nn e0 l0 p0 =>
          rw [s1 _ _ e0] at h
          cases h
        | dic nn e0 l0 _ _ p0 =>
          rw [s1 _ _ e0] at h
          cases h
      · rintro ⟨c, k, ps, e, h, r⟩
        exact ⟨c, k, ps, e, s1 _ _ h, r⟩
    cases b with
    | false => exact iteT (no (fun h => Bool.noConfusion (hb.mpr (back.mpr h))) _ s12)
    | true =>
      obtain ⟨b, k, ps, rfl, qb, hk, pb, ds⟩ := back.mp (hb.mp rfl)
      have yes := yes b k ps rfl qb hk pb ds
      have cm : Closed (k + 1) (movedM t (kap ps)) := moved_closed cl (kap_lt pb)
      have iu := moved_inb ib (kap_lt pb)
      refine iteF ⟨_, rfl, p, C, dx, _, _, rfl, s12 _ _ ha, Y.cl, Y.nR, bf_rows a, _, rfl, ?_⟩
      refine ⟨a, b, n, k, t, ps, rfl, mt.mono (Kp.of s12), s12 _ _ qb, hn, hk, pb, fun a' H3 s3 mr => fun x dz hx hd ne => ?_⟩
      rw [List.append_nil]
      refine newB_R hx hd ne (by decide) (mr.dat (by omega)) (fun a2 k2 M2 t2 H4 e m2 _ _ _ tt s4 bg4 => ⟨rfl, ?_⟩) fun H4 s4 nf => ?_
      · cases e
        obtain ⟨rfl, eq⟩ := mr.uniq m2
        have t2u : EqM (k + 1) t2 (movedM t (kap ps)) := tt.uniq ⟨cm, fun p => pot_eq eq⟩
        obtain ⟨d4, a4, h4, m4⟩ := bg4
        exact yes _ H4 (s12.trans (s3.trans s4)) ⟨d4, a4, h4, m4.ext t2u⟩
      · exact (nf ⟨a', k + 1, _, rfl, mr, by omega, by omega, iu, closed_feas cm (by omega)⟩).elim
end
end Bd

set_option Elab.async false
set_option linter.all false
set_option maxRecDepth 100000
set_option maxHeartbeats 4000000
/-! calls within a try that leave the slots as they are when they raise -/
namespace Br
open PySem PySem.Spec PyProof.Rows L2
def PassAt (CX : CXT) (X : Cx) (σ : L2.St) (E : XK) : Prop := ∀ (pins : List (Addr × Obj)) (H : Hp) (s : Shared) (e : Value) (s' : Shared), L2.Inv X pins σ H s → CX X.stack H s E e s' → X.xe e s'
theorem passAt {X : Cx} {W : WX} (tk : Takes X W) {σ : L2.St} : PassAt (L2.CX X.prog X.w) X σ (fun cls d H => W cls d σ H) := fun pins H s e s' I c => tk e s' (XE.of_call I (fun _ _ _ h => h) c)
section
variable {X : Cx} {CX : CXT} {k : Nat} {C f : Addr} {fd : FuncData} {ps : List Str} {sp : Sp} {E : XK} {pins : List (Addr × Obj)} {σ : L2.St} {H : Hp} {s : Shared} {Q : VK}
theorem run_at {us : List Value} {vs : List V} (F : FnOk X.prog X.w X.K X.mg X.base CX k f fd ps sp) (hr : Room k X.A) (hb : Binds X.K fd ps []) (hx : PassAt CX X σ E) (I : L2.Inv X pins σ H s) (r : Vals vs us) (h : sp vs H Q E) :
    wpAny (model X.prog X.w) X.A (call (.ref f) us) (EP X pins σ Q) X.xe s := by
  have hl : (us ++ []).length = ps.length := by
    rw [List.append_nil, ← r.length]
    exact F.len _ _ _ _ h
  have bd := hb s us I.kIn hl
  rw [List.append_nil] at bd
  refine wpAny_call (codeAny_mono (F.run X.A X.stack s H ⟨us, []⟩ us vs Q E hr I.env0 bd r h) fun r s' hq => ?_)
  cases r with
  | error e => exact hx pins H s e s' I hq
  | ok fl =>
    cases fl with
    | ret u => exact I.after hq
    | next => exact False.elim hq
    | brk => exact False.elim hq
    | cont => exact False.elim hq
theorem type_looks {T : String} {y : V} {u : Value} (I : L2.Inv X pins σ H s) (ry : RelV y u) (ty : TyOf X.K H y (.type T)) : PySem.W.Looks (model X.prog X.w) s.heap (typeOf u) (.type T) := by
  generalize eT : Value.type T = tv at ty
  cases ty with
  | non => cases (show u = Value.none from ry); cases eT; exact PySem.W.Looks.of_pure rfl
  | bl y => cases (show u = Value.bool y from ry); cases eT; exact PySem.W.Looks.of_pure rfl
  | int y => obtain ⟨t, rfl⟩ := (show ∃ t, u = Value.int y t from ry); cases eT; exact PySem.W.Looks.of_pure rfl
  | str y => obtain ⟨t, rfl⟩ := (show ∃ t, u = Value.str y t from ry); cases eT; exact PySem.W.Looks.of_pure rfl
  | flt y => obtain ⟨t, rfl⟩ := (show ∃ t, u = Value.float y t from ry); cases eT; exact PySem.W.Looks.of_pure rfl
  | @lst a xs ea =>
    cases (show u = Value.ref a from ry); cases eT
    obtain ⟨_, _, n, _, h1⟩ := (show ObjOk X.prog X.w H s.heap a (.lst xs) from I.hok a _ ea)
    exact fun A Q E s k q => wpAny_typeOf_ref (k _ _ h1) q
  | @frz a ob xs ea =>
    cases (show u = Value.ref a from ry); cases eT
    obtain ⟨_, _, _, n, _, h1⟩ := (show ObjOk X.prog X.w H s.heap a (.frz ob (.lst xs)) from I.hok a _ ea)
    exact fun A Q E s k q => wpAny_typeOf_ref (k _ _ h1) q
  | @tup a xs ea =>
    cases (show u = Value.ref a from ry); cases eT
    obtain ⟨_, _, _, o, h1, h2, _⟩ := (show ObjOk X.prog X.w H s.heap a (.tup xs) from I.hok a _ ea)
    exact fun A Q E s k q => wpAny_typeOf_ref (k _ _ h1) (by rw [h2]; exact q)
  | @dK a kvs ea =>
    cases (show u = Value.ref a from ry); cases eT
    obtain ⟨_, _, vs, _, o, es, ep, h1, h2, _⟩ := (show ObjOk X.prog X.w H s.heap a (.dK kvs) from I.hok a _ ea)
    exact fun A Q E s k q => wpAny_typeOf_ref (k _ _ h1) (by rw [h2.1]; exact q)
  | @dT a kvs ea =>
    cases (show u = Value.ref a from ry); cases eT
    obtain ⟨_, _, xs, _, o, es, ep, h1, h2, _⟩ := (show ObjOk X.prog X.w H s.heap a (.dT kvs) from I.hok a _ ea)
    exact fun A Q E s k q => wpAny_typeOf_ref (k _ _ h1) (by rw [h2.1]; exact q)
  | ins => cases eT
/-- a op b of an own class within a try -/
def tOpS (C : Addr) (Ts : List String) (K : PySem.W.Frag) (sp : Sp) (W : WX) (ta tb : TE) : TE := fun σ H Q => ta σ H fun x H1 => tb σ H1 fun y H2 => ∃ a dx fs, x = .ref a ∧ H2 a = some (.ins C dx fs) ∧ ((∃ b dy gs, y = .ref b ∧ H2 b = some (.ins C dy gs)) ∨ ∃ T ∈ Ts, TyOf K H2 y (.type T)) ∧ sp [x, y] H2 Q fun cls d H => W cls d σ H
theorem pe_opS {W : WX} {op : Operator} {Ts : List String} {a b : Expr} {pos : Pos} {ta tb : TE} (tk : Takes X W) (D : OO.Dun X.K C (PySem.dunder op.info.2) f) (hc : PySem.W.selfFirst X.K C = true) (B : ∀ T ∈ Ts, OO.BinT X.K C op T)
    (F : FnOk X.prog X.w X.K X.mg X.base (L2.CX X.prog X.w) k f fd ps sp) (hr : Room k X.A) (hb : Binds X.K fd ps []) (ea : PE X a ta) (eb : PE X b tb) : PE X (.BinOp a op b pos) (tOpS C Ts X.K sp W ta tb) := by
  refine ⟨fun pins s σ H Q I h => ?_⟩
  refine wpAny_BinOp (binT ea eb I h fun v u s2 x y H2 I2 rx ry q => ?_)
  obtain ⟨a, dx, fs, ex, ha, hy, q⟩ := q
  subst ex
  cases rx
  rcases hy with ⟨b, dy, gs, ey, hb'⟩ | ⟨T, hT, ty⟩
  · subst ey
    cases ry
    obtain ⟨mA, J, _⟩ := ins_get I2.hok ha
    obtain ⟨mB, J', _⟩ := ins_get I2.hok hb'
    obtain ⟨od, J, _⟩ := J.look
    obtain ⟨od', J', _⟩ := J'.look
    obtain ⟨m, hF⟩ := I2.fr
    refine PySem.W.binop_K hF I2.ok.mod.kin J J'.type hc D.at_ D.fn ?_
    exact wpAny_mono (run_at (vs := [.ref a, .ref b]) F hr hb (passAt tk) I2 (.cons rfl (.cons rfl .nil)) q) (fun _ _ z => OO.back_of z) fun _ _ z => z
  · exact OO.bin_there I2 ha (type_looks I2 ry ty) D hc (B T hT) (wpAny_mono (run_at (vs := [.ref a, y]) F hr hb (passAt tk) I2 (.cons rfl (.cons ry .nil)) q) (fun _ _ z => OO.back_of z) fun _ _ z => z)
theorem pe_opK {W : WX} {K : PySem.W.Frag} {op : Operator} {Ts : List String} {a b : Expr} {pos : Pos} {ta tb : TE} (hK : X.K = K) (tk : Takes X W) (D : OO.Dun K C (PySem.dunder op.info.2) f) (hc : PySem.W.selfFirst K C = true) (B : ∀ T ∈ Ts, OO.BinT K C op T)
    (F : FnOk X.prog X.w K X.mg X.base (L2.CX X.prog X.w) k f fd ps sp) (hr : Room k X.A) (hb : Binds K fd ps []) (ea : PE X a ta) (eb : PE X b tb) : PE X (.BinOp a op b pos) (tOpS C Ts K sp W ta tb) := by
  subst hK
  exact pe_opS tk D hc B F hr hb ea eb
/-- o.m(..) within a try -/
def tMethS (C : Addr) (m : Str) (sp : Sp) (W : WX) (ta : TE) (t : TA) : TE := fun σ H Q => ta σ H fun x H1 => ∃ a dx fs, x = .ref a ∧ H1 a = some (.ins C dx fs) ∧ fs.lookup m = none ∧ t σ H1 fun vs H2 => sp (x :: vs) H2 Q fun cls d H => W cls d σ H
theorem pe_methS {W : WX} {o e : Expr} {es : List Expr} {m : Str} {pos apos : Pos} {ta : TE} {t : TA} {pl : Sem Bool} (tk : Takes X W) (he : PE X o ta) (c : Cls X.K C) (hm : Meth X.K C m f) (F : FnOk X.prog X.w X.K X.mg X.base (L2.CX X.prog X.w) k f fd ps sp) (hr : Room k X.A) (hb : Binds X.K fd ps []) (ha : PA X (e :: es) t)
    (hst : starEach (e :: es) X.env = (false, eval e X.env) :: starEach es X.env := by rfl) (hpl : (backTo pos (starEach es X.env)).any (·.1) = false := by rfl)
    (ht : eval (.Call (.Attribute o m apos) (e :: es) [] pos) X.env = (do
      let ov ← eval o X.env
      standAt apos.atName
      let (f, first) ← holding [ov] (getMethod ov m pl)
      callWith pos f first (backTo pos (starEach (e :: es) X.env)) (backToKw pos (keywordEach [] X.env))) := by rfl) :
    PE X (.Call (.Attribute o m apos) (e :: es) [] pos) (tMethS C m sp W ta t) := by
  refine ⟨fun pins s σ H Q I h => ?_⟩
  refine PySem.W.methodCall_KW (pl := pl) (thn (he.run pins s σ H _ I h) fun u s1 ⟨x, H1, I1, rx, a, dx, fs, ex, ea, l, q⟩ => ?_) ht
  subst ex
  obtain rfl : u = Value.ref a := rx
  refine getmeth_ok I1 ea c hm l ?_
  refine PySem.W.callWith_K (first := [.ref a]) (h₀ := X.base) I.ok.mod.kin hm.kp (thn (ha.run pos pins s1 σ H1 _ I1 q) fun us s2 ⟨vs, H2, I2, r, q2⟩ => ⟨I2.kIn, ?_⟩) hst hpl
  exact run_at (us := .ref a :: us) (vs := .ref a :: vs) F hr hb (passAt tk) I2 (.cons rfl r) q2
end
end Br

set_option Elab.async false
set_option linter.all false
set_option maxRecDepth 100000
set_option maxHeartbeats 4000000
/-! the law's points: the grid, what rows hold -/
namespace Bd
open PySem PySem.Spec PyProof.Rows L2 Wd Br TO RZ
theorem small4000 {n : Nat} (h : n ≤ 4000) : n < sizeLine := Nat.lt_of_le_of_lt h (by decide)
/-- a comprehension that keeps what stands, of up to 4000 -/
theorem lc_keepW {J : It} {n : Nat} {G : Hp → Prop} {Y : Nat → Hp → V → Hp → Prop} (w : Walk J n G Y) (R : Nat → Hp → V → Prop) (hR : ∀ i H H' y, Kp H H' → R i H y → R i H' y) {g : TG} {te : TE} {vs : List Nat} {σ : L2.St} {H1 : Hp} {D : Addr} {Qd : Hp → Prop}
    (hD : H1 D = none) (hn : n ≤ 4000) (hG : ∀ H, Same H1 H → G H)
    (hs : ∀ i x H H' (kT : VK), i < n → Same H1 H → Y i H x H' → (∀ y H4, Same H H4 → R i H4 y → kT y H4) → g x (wipe σ vs) H' fun σ2 H2 => wipe σ2 vs = wipe σ vs ∧ te σ2 H2 kT)
    (hd : ∀ H ys, Same H1 H → H D = some (.lst ys) → ys.length = n → (∀ (i : Nat) y, ys[i]? = some y → R i H y) → Qd H) :
    ∃ W : Nat → Nat → Hp → Prop, (∃ m, W 0 m (upd H1 D (.lst []))) ∧ ∀ i m H, W i m H →
      (J.stop i H ∧ Qd H) ∨ (J.go i H ∧ ∃ Nx : Hp → Prop, (∀ H', Nx H' → ∃ m', m' < m ∧ W (i + 1) m' H') ∧ ∀ x H', J.yld i H x H' → g x (wipe σ vs) H' fun σ2 H2 => wipe σ2 vs = wipe σ vs ∧ tYes σ2 H2 fun b H3 =>
        if b = true then te σ2 H3 fun y H4 => ∃ acc, H4 D = some (.lst acc) ∧ acc.length < sizeLine ∧ Nx (upd H4 D (.lst (acc ++ [y]))) else Nx H3) := by
  have past : ∀ {H : Hp} {o : HO}, Same H1 H → Same H1 (upd H D o) := fun s b u e => by
    rw [upd_ne (ne_of_none e hD)]
    exact s _ _ e
  refine lc_it w (fun i H => Same H1 H ∧ ∃ ys, H D = some (.lst ys) ∧ ys.length = i ∧ ∀ (j : Nat) y, ys[j]? = some y → R j H y) ⟨past (Same.refl _), [], upd_same, rfl, fun j y e => by simp at e⟩ (fun i H _ ⟨s, _⟩ => hG H s) ?_
    (fun H ⟨s, ys, d, l, p⟩ => hd H ys s d l p)
  rintro i x H H' hi ⟨s, ys, d, l, p⟩ y
  refine hs i x H H' _ hi s y fun z H4 s4 r => ⟨ys, s4 _ _ d, small4000 (by omega), past (s.trans s4), ys ++ [z], upd_same, by simp; omega, fun j u e => ?_⟩
  have kp : Kp H4 (upd H4 D (.lst (ys ++ [z]))) := kp_lst (s4 _ _ d)
  by_cases hj : j < ys.length
  · rw [List.getElem?_append_left hj] at e
    exact hR j _ _ u ((Kp.of s4).trans kp) (p j u e)
  · rw [List.getElem?_append_right (by omega)] at e
    have hj0 : j - ys.length = 0 := by
      have := (List.getElem?_eq_some_iff.mp e).1
      simp at this
      omega
    rw [hj0] at e
    simp at e
    subst e
    obtain rfl : j = i := by omega
    exact hR j _ _ z kp r
/-- .. of integers -/
theorem lc_intsW {J : It} {n : Nat} {G : Hp → Prop} {Y : Nat → Hp → V → Hp → Prop} (w : Walk J n G Y) (f : Nat → Int) {g : TG} {te : TE} {vs : List Nat} {σ : L2.St} {H1 : Hp} {D : Addr} {Qd : Hp → Prop}
    (hD : H1 D = none) (hn : n ≤ 4000) (hG : ∀ H, Same H1 H → G H)
    (hs : ∀ i x H H' (kT : VK), i < n → Same H1 H → Y i H x H' → (∀ H4, Same H H4 → kT (.int (f i)) H4) → g x (wipe σ vs) H' fun σ2 H2 => wipe σ2 vs = wipe σ vs ∧ te σ2 H2 kT)
    (hd : ∀ H, Same H1 H → H D = some (.lst (rowV n f)) → Qd H) :
    ∃ W : Nat → Nat → Hp → Prop, (∃ m, W 0 m (upd H1 D (.lst []))) ∧ ∀ i m H, W i m H →
      (J.stop i H ∧ Qd H) ∨ (J.go i H ∧ ∃ Nx : Hp → Prop, (∀ H', Nx H' → ∃ m', m' < m ∧ W (i + 1) m' H') ∧ ∀ x H', J.yld i H x H' → g x (wipe σ vs) H' fun σ2 H2 => wipe σ2 vs = wipe σ vs ∧ tYes σ2 H2 fun b H3 =>
        if b = true then te σ2 H3 fun y H4 => ∃ acc, H4 D = some (.lst acc) ∧ acc.length < sizeLine ∧ Nx (upd H4 D (.lst (acc ++ [y]))) else Nx H3) :=
  lc_keepW w (fun i _ y => y = .int (f i)) (fun _ _ _ _ _ h => h) hD hn hG (fun i x H H' kT hi s y h => hs i x H H' kT hi s y fun H4 s4 => h _ H4 s4 rfl)
    fun H ys s d l r => hd H s (by rw [d, rowV_of l r])
/-- a list of just the points of a set -/
def PtsL (H : Hp) (L : Addr) (n : Nat) (R : (Nat → Int) → Prop) : Prop := ∃ xs : List V, H L = some (.lst xs) ∧ xs.length ≤ 2000 ∧ (∀ x ∈ xs, ∃ q, RowAt H x n q ∧ R q) ∧ ∀ q, R q → ∃ x ∈ xs, RowAt H x n q
theorem PtsL.kp {H H' : Hp} {L : Addr} {n : Nat} {R : (Nat → Int) → Prop} (h : PtsL H L n R) (k : Kp H H') (e : ∀ xs, H L = some (.lst xs) → H' L = some (.lst xs)) : PtsL H' L n R := by
  obtain ⟨xs, h1, h2, h3, h4⟩ := h
  refine ⟨xs, e _ h1, h2, fun x hx => ?_, fun q hq => ?_⟩
  · obtain ⟨q, r, hq⟩ := h3 x hx
    exact ⟨q, r.mono k, hq⟩
  · obtain ⟨x, hx, r⟩ := h4 q hq
    exact ⟨x, hx, r.mono k⟩
theorem PtsL.same {H H' : Hp} {L : Addr} {n : Nat} {R : (Nat → Int) → Prop} (h : PtsL H L n R) (s : Same H H') : PtsL H' L n R := h.kp (Kp.of s) fun _ e => s _ _ e
theorem PtsL.iff {H : Hp} {L : Addr} {n : Nat} {R S : (Nat → Int) → Prop} (h : PtsL H L n R) (e : ∀ q, S q ↔ R q) : PtsL H L n S := by
  obtain ⟨xs, h1, h2, h3, h4⟩ := h
  exact ⟨xs, h1, h2, fun x hx => let ⟨q, r, hq⟩ := h3 x hx; ⟨q, r, (e q).mpr hq⟩, fun q hq => h4 q ((e q).mp hq)⟩
def Box (n : Nat) (q : Nat → Int) : Prop := ∀ k, k < n → -2 ≤ q k ∧ q k ≤ 3
def snoc (q : Nat → Int) (k : Nat) (v : Int) : Nat → Int := fun j => if j = k then v else q j
theorem rowV_snoc (k : Nat) (q : Nat → Int) (v : Int) : rowV k q ++ [V.int v] = rowV (k + 1) (snoc q k v) := by
  apply List.ext_getElem?
  intro i
  by_cases h : i < k
  · rw [List.getElem?_append_left (by rw [rowV_len]; exact h), rowV_get h, rowV_get (by omega)]
    unfold snoc
    rw [if_neg (by omega)]
  · by_cases e : i = k
    · subst e
      rw [List.getElem?_append_right (by rw [rowV_len]; omega), rowV_get (by omega), rowV_len, Nat.sub_self]
      unfold snoc
      rw [if_pos rfl]
      rfl
    · rw [List.getElem?_eq_none (by rw [List.length_append, rowV_len]; show k + 1 ≤ i; omega), List.getElem?_eq_none (by rw [rowV_len]; omega)]
theorem box_snoc {k : Nat} {q : Nat → Int} {v : Int} (b : Box k q) (h : -2 ≤ v ∧ v ≤ 3) : Box (k + 1) (snoc q k v) := fun j hj => by
  unfold snoc
  split
  · exact h
  · exact b j (by omega)
/-- the grid so far: all of k readings -/
def GridL (H : Hp) (L : Addr) (k : Nat) : Prop := ∃ xs : List V, H L = some (.lst xs) ∧ xs.length ≤ 6 ^ k ∧ (∀ x ∈ xs, ∃ q, RowAt H x k q ∧ Box k q) ∧ ∀ q, Box k q → ∃ x ∈ xs, RowAt H x k q
theorem RowAt.agree {H : Hp} {x : V} {n : Nat} {q r : Nat → Int} (a : RowAt H x n q) (b : RowAt H x n r) {k : Nat} (hk : k < n) : q k = r k := by
  obtain ⟨c, rfl, h1⟩ := a
  obtain ⟨d, e, h2⟩ := b
  cases e
  rw [h1] at h2
  have e : rowV n q = rowV n r := by injection (Option.some.inj h2)
  exact rowV_inj e hk
/-- a list of at most 216 -/
def Few (H : Hp) (L : Addr) : Prop := ∃ xs : List V, H L = some (.lst xs) ∧ xs.length ≤ 216
def spGrid : Sp := fun vs H Q _ => ∃ n : Nat, vs = [.int (n : Int), .int (-2), .int 4] ∧ n ≤ 3 ∧ ∀ L H', Same H H' → H L = none → PtsL H' L n (Box n) → Few H' L → Q (.ref L) H'
structure PTxt (mg : Str → Option Value) : Prop where
  len : mg "len" = none
  isin : mg "isinstance" = none
  all : mg "all" = none
  max : mg "max" = none
  tup : mg "tuple" = none
  range : mg "range" = none
  zip : mg "zip" = none
section
variable {P : Program} {w : World} {K : PySem.W.Frag} {mg : Str → Option Value} {base : Heap}
abbrev nGrid : List Str := ["many", "low", "high", "found", "turn", "longer", "point", "x"]
end
end Bd

set_option Elab.async false
set_option linter.all false
set_option maxRecDepth 100000
set_option maxHeartbeats 4000000
/-! whether rows hold a point; the greatest differences -/
namespace Bd
open PySem PySem.Spec PyProof.Rows L2 Wd Br TO RZ
def spGreat : Sp := fun vs H Q _ => ∃ (L : Addr) (n : Nat) (R : (Nat → Int) → Prop) (t : Mx), vs = [.ref L] ∧ n ≤ 12 ∧ PtsL H L n R ∧ OfR n R t ∧ ∀ a H', Same H H' → MatT H' a (n + 1) t → Q (.ref a) H'
section
variable {P : Program} {w : World} {K : PySem.W.Frag} {mg : Str → Option Value} {base : Heap}
abbrev nHeld : List Str := ["rows", "point", "full", "one", "row", "other", "most"]
abbrev nGreat : List Str := ["points", "fulls", "point", "rows", "i", "j", "full"]
theorem scGreat : FnScope nGreat ["points"] (defScope sGreatest) := ⟨rfl, rfl, rfl, by decide +kernel, rfl, by decide +kernel, by decide +kernel⟩
theorem ok_great {f : Addr} {fd : FuncData} (F : Fun K "_law_greatest" "_law_greatest" sGreatest f fd) (X : PTxt mg) : FnOk P w K mg base CX0 1 f fd ["points"] spGreat := by
  refine F.ok scGreat (fun vs H Q E h => ?_) (fun cdv A outer s H vs Q E hr h => ?_)
  · obtain ⟨L, n, R, t, rfl, _⟩ := h
    rfl
  · obtain ⟨L, n, R, t, rfl, hn, ⟨xs, eL, lx, rx, cx⟩, ⟨cl, rt⟩, q⟩ := h
    have nd := scGreat.nd
    refine ⟨_, pss_cons (ps_set (i := 1) nd rfl (Or.inr rfl) (pe_lc (own := [("point", 2)]) (g := gName 2) (tt := tYes) rfl nd (pi_list (pv 0)) (blkOk_by (N := nGreat) (sc := defScope sGreatest) (by decide +kernel))
          (fun _ _ _ _ _ => pg_name (i := 2) nd rfl (Or.inl rfl)) (fun _ _ _ _ _ => pts_nil) (fun _ _ _ _ _ => pe_op (r := rCatE K) op_catE (pe_tup (pa_cons pe_int pa_nil)) (pv 2))))
      (pss_cons (ps_set (i := 3) nd rfl (Or.inl rfl) (pe_lst pa_nil))
      (pss_cons (ps_for PassesOwn.never rfl (pi_range1 rfl X.range (pa_cons (pe_callB call_len_seq (by rfl) X.len PySem.boot_len (pa_cons (pe_ix (r := rIxL K) ix_list (pv 1) pe_int (fun _ _ => rfl)) pa_nil)) pa_nil)) (pg_name (i := 4) nd rfl (Or.inr rfl))
        (pss_one (ps_expr (pe_bm PySem.F.plainAttrs_list PySem.F.slot_list_append PySem.F.type_list_append mt_append (pv 3) (pa_cons (pe_callTy (r := rTupQ K) call_tuple_of (by rfl) X.tup (by decide +kernel) (pa_cons (pe_lc (own := [("j", 5)]) (g := gName 5) (tt := tYes) rfl nd (pi_range1 rfl X.range (pa_cons (pe_callB call_len_seq (by rfl) X.len PySem.boot_len (pa_cons (pe_ix (r := rIxL K) ix_list (pv 1) pe_int (fun _ _ => rfl)) pa_nil)) pa_nil)) (blkOk_by (N := nGreat) (sc := defScope sGreatest) (by decide +kernel))
          (fun _ _ _ _ _ => pg_name (i := 5) nd rfl (Or.inr rfl)) (fun _ _ _ _ _ => pts_nil) (fun _ _ _ _ _ => pe_callB (r := rMax K) (cr_max rfl) (by rfl) X.max (by decide +kernel) (pa_cons (pe_lc (own := [("full", 6)]) (g := gName 6) (tt := tYes) rfl nd (pi_listK (K := K) rfl (pv 1)) (blkOk_by (N := nGreat) (by rfl))
            (fun _ _ _ _ _ => pg_name (i := 6) nd rfl (Or.inl rfl)) (fun _ _ _ _ _ => pts_nil) (fun _ _ _ _ _ => pe_op op_sub (pe_ix (r := rIxT K) ix_tup (pv 6) (pv 4) (fun _ _ => rfl)) (pe_ix (r := rIxT K) ix_tup (pv 6) (pv 5) (fun _ _ => rfl)))) pa_nil))) pa_nil)) pa_nil)))))
      (pss_one (ps_ret (pe_callTy (r := rTupQ K) call_tuple_of (by rfl) X.tup (by decide +kernel) (pa_cons (pv 3) pa_nil)))))), ?_⟩
    -- the points one by one
    obtain ⟨qs, hqs⟩ : ∃ qs : Nat → (Nat → Int), ∀ (i : Nat) x, xs[i]? = some x → RowAt H x n (qs i) ∧ R (qs i) := by
      refine ⟨fun i => if hi : i < xs.length then Classical.choose (rx _ (List.getElem_mem hi)) else fun _ => 0, fun i x e => ?_⟩
      obtain ⟨hi, rfl⟩ := List.getElem?_eq_some_iff.mp e
      simp only [hi, dif_pos]
      exact Classical.choose_spec (rx _ (List.getElem_mem hi))
    have comp : ∀ q, R q → ∃ i, i < xs.length ∧ ∀ k, k < n → qs i k = q k := fun q hq => by
      obtain ⟨x, hx, r⟩ := cx q hq
      obtain ⟨i, hi⟩ := List.getElem?_of_mem hx
      exact ⟨i, (List.getElem?_eq_some_iff.mp hi).1, fun k hk => (hqs i x hi).1.agree r hk⟩
    have pos : 0 < xs.length := by
      obtain ⟨q, hq⟩ := OfR.ex ⟨cl, rt⟩
      obtain ⟨i, hi, _⟩ := comp q hq
      omega
    refine ⟨_, rfl, L, rfl, ⟨_, SqL.of eL⟩, fun D hD => ?_⟩
    refine lc_keepW (walk_list (K := K) (a := L) (xs := xs)) (fun i H y => RowAt H y (n + 1) (full (qs i))) (fun _ _ _ _ k r => r.mono k) hD (by omega) (fun H2 s2 => SqL.of (s2 _ _ eL)) ?_ ?_
    · rintro i x H2 H' kT hi s2 ⟨rfl, hx⟩ h
      obtain ⟨⟨b, rfl, qb⟩, _⟩ := hqs i x hx
      refine ⟨rfl, (by show 1 ≤ sizeLine; decide), fun z hz => ⟨_, rfl, ?_⟩⟩
      have s3 := same_new (o := .tup [.int 0]) hz
      refine cat_reads (xs := [.int 0]) (ys := rowV n (qs i)) upd_same (s3 _ _ (s2 _ _ qb)) (by rw [rowV_len]; show 1 + n ≤ 1000; omega) fun r H4 s4 hr4 => h _ H4 (s3.trans s4) ⟨r, rfl, ?_⟩
      rw [hr4, rowV_full]
    · intro H2 fs s2 eD lf rf
      refine ⟨(by show 0 ≤ sizeLine; decide), fun Lr hLr => ?_⟩
      have s3 := s2.trans (same_new (o := .lst []) hLr)
      have nr : H Lr = none := by
        cases e : H Lr with
        | none => rfl
        | some o => rw [s2 _ _ e] at hLr; cases hLr
      have nDr : D ≠ Lr := fun e => by rw [e, hLr] at eD; cases eD
      have eD3 : (upd H2 Lr (.lst [])) D = some (.lst fs) := same_new hLr _ _ eD
      have eR3 : (upd H2 Lr (.lst [])) Lr = some (.lst []) := upd_same
      have rf3 : ∀ (i : Nat) y, fs[i]? = some y → RowAt (upd H2 Lr (.lst [])) y (n + 1) (full (qs i)) := fun i y e => (rf i y e).mono (Kp.of (same_new hLr))
      generalize upd H2 Lr (.lst []) = H3 at s3 eD3 eR3 rf3
      have e0 := List.getElem?_eq_getElem (l := fs) (i := 0) (by omega)
      obtain ⟨b0, eb0, qb0⟩ := rf3 0 _ e0
      rw [eb0] at e0
      refine ⟨_, rfl, D, fs, _, _, rfl, rfl, SqL.of eD3, atI_nat (j := 0) e0, b0, _, rfl, .inr (SqT.of qb0), ?_⟩
      rw [rowV_len]
      refine ⟨_, rfl, by omega, by omega, ?_⟩
      rw [Int.toNat_natCast]
      refine for_it (walk_rng (n := n + 1)) (fun i σ H' => ∃ iv : Option V, σ = [some (.ref L), some (.ref D), none, some (.ref Lr), iv, none, none] ∧ Same H H' ∧ Kp H3 H' ∧ H' D = some (.lst fs) ∧ ∃ ys, H' Lr = some (.lst ys) ∧ ys.length = i ∧ ∀ (j : Nat) y, ys[j]? = some y → RowAt H' y (n + 1) (t j))
        ⟨none, rfl, s3, Kp.refl _, eD3, [], eR3, rfl, fun j y e => by simp at e⟩ (fun _ _ _ _ _ => trivial) ?_ ?_
      · rintro i x σ H4 H' hi ⟨iv, rfl, s4, k4, eD4, ys, eR4, ly, ry⟩ ⟨rfl, rfl⟩
        have qb4 := k4.1 _ _ qb0
        refine ⟨_, rfl, .inl ⟨rfl, _, SqL.of eR4⟩, _, rfl, D, fs, _, _, rfl, rfl, SqL.of eD4, atI_nat (j := 0) e0, b0, _, rfl, .inr (SqT.of qb4), ?_⟩
        rw [rowV_len]
        refine ⟨_, rfl, by omega, by omega, fun D2 hD2 => ?_⟩
        rw [Int.toNat_natCast]
        have nD2r : D2 ≠ Lr := fun e => by rw [e, eR4] at hD2; cases hD2
        refine lc_ints (walk_rng (n := n + 1)) (t i) hD2 (by omega) (fun _ _ => trivial) ?_ ?_
        · rintro j x H5 H' kT hj s5 ⟨rfl, rfl⟩ h
          have eD5 := s5 _ _ eD4
          have rf5 : ∀ (i : Nat) y, fs[i]? = some y → RowAt H' y (n + 1) (full (qs i)) := fun i y e => (rf3 i y e).mono (k4.trans (Kp.of s5))
          refine ⟨rfl, _, rfl, D, rfl, ⟨_, SqL.of eD5⟩, fun D3 hD3 => ?_⟩
          refine lc_intsW (n := fs.length) (walk_list (K := K) (a := D) (xs := fs)) (fun k => full (qs k) i - full (qs k) j) hD3 (by omega) (fun H6 s6 => SqL.of (s6 _ _ eD5)) ?_ ?_
          · rintro k y H6 H' kT2 hk s6 ⟨rfl, hy⟩ h2
            obtain ⟨c, rfl, qc⟩ := rf5 k y hy
            have qc := s6 _ _ qc
            exact ⟨rfl, _, rfl, _, rfl, c, _, _, _, rfl, rfl, SqT.of qc, rowV_at hi, _, rfl, _, rfl, c, _, _, _, rfl, rfl, SqT.of qc, rowV_at hj, _, _, rfl, rfl, h2 _ (Same.refl _)⟩
          · intro H6 s6 eD6
            have e : rowV fs.length (fun k => full (qs k) i - full (qs k) j) = ((List.range fs.length).map fun k => full (qs k) i - full (qs k) j).map V.int := by
              unfold rowV
              rw [List.map_map]
              rfl
            refine ⟨D3, (List.range fs.length).map fun k => full (qs k) i - full (qs k) j, rfl, SqL.of (by rw [eD6, e]), by rw [List.length_map, List.length_range]; omega, fun z hz hle => ?_⟩
            obtain ⟨up, q0, hq0, eq0⟩ := closed_top cl hi hj
            have z1 : z ≤ t i j := by
              obtain ⟨k, hk, rfl⟩ := List.mem_map.mp hz
              have hk := List.mem_range.mp hk
              have ex := List.getElem?_eq_getElem (l := xs) (i := k) (by omega)
              exact up (qs k) ((rt _).mp (hqs k _ ex).2)
            have z2 : t i j ≤ z := by
              obtain ⟨k, hk, ag⟩ := comp q0 ((rt _).mpr hq0)
              have fe : ∀ i, i < n + 1 → full (qs k) i = full q0 i := fun i hi => by
                cases i with
                | zero => rfl
                | succ i => exact ag i (by omega)
              have := hle _ (List.mem_map.mpr ⟨k, List.mem_range.mpr (by omega), rfl⟩)
              rw [fe i hi, fe j hj] at this
              omega
            obtain rfl : z = t i j := Int.le_antisymm z1 z2
            exact h _ s6
        · intro H5 s5 eD5
          refine ⟨D2, _, rfl, .inl ⟨SqL.of eD5, fun c hc => ?_⟩⟩
          have s6 := s5.trans (same_new (o := .tup (rowV (n + 1) (t i))) hc)
          have eR6 := s6 _ _ eR4
          refine ⟨Lr, _, _, rfl, rfl, eR6, small1000 (by omega), ?_⟩
          have kp : Kp H' (upd (upd H5 c (.tup (rowV (n + 1) (t i)))) Lr (.lst (ys ++ [.ref c]))) := (Kp.of s6).trans (kp_lst eR6)
          have nc : c ≠ Lr := fun e => by rw [e, s5 _ _ eR4] at hc; cases hc
          refine ⟨_, rfl, fun b o e => by rw [upd_ne (ne_of_none e nr)]; exact s6 _ _ (s4 _ _ e), k4.trans kp, by rw [upd_ne nDr]; exact s6 _ _ eD4, ys ++ [.ref c], upd_same, by simp [ly], fun j y e => ?_⟩
          by_cases hj : j < ys.length
          · rw [List.getElem?_append_left hj] at e
            exact (ry j y e).mono kp
          · rw [List.getElem?_append_right (by omega)] at e
            have hj0 : j - ys.length = 0 := by
              have := (List.getElem?_eq_some_iff.mp e).1
              simp at this
              omega
            rw [hj0] at e
            simp at e
            subst e
            obtain rfl : j = i := by omega
            exact ⟨c, rfl, by rw [upd_ne nc]; exact upd_same⟩
      · rintro σ H4 ⟨iv, rfl, s4, k4, eD4, ys, eR4, ly, ry⟩
        exact ⟨_, rfl, Lr, ys, rfl, .inl ⟨SqL.of eR4, fun c hc => q c _ (s4.trans (same_new hc)) (mat_new hc ly ry)⟩⟩
end
end Bd

set_option Elab.async false
set_option linter.all false
set_option maxRecDepth 100000
set_option maxHeartbeats 4000000
/-! whether bounds are those of points; drawn rows -/
namespace Bd
open PySem PySem.Spec PyProof.Rows L2 Wd Br TO
/-- the points one by one -/
theorem PtsL.get {H : Hp} {L : Addr} {n : Nat} {R : (Nat → Int) → Prop} (h : PtsL H L n R) : ∃ (xs : List V) (qs : Nat → (Nat → Int)), H L = some (.lst xs) ∧ xs.length ≤ 2000 ∧ (∀ (i : Nat) x, xs[i]? = some x → RowAt H x n (qs i) ∧ R (qs i)) ∧ ∀ q, R q → ∃ i, i < xs.length ∧ ∀ k, k < n → qs i k = q k := by
  obtain ⟨xs, eL, lx, rx, cx⟩ := h
  obtain ⟨qs, hqs⟩ : ∃ qs : Nat → (Nat → Int), ∀ (i : Nat) x, xs[i]? = some x → RowAt H x n (qs i) ∧ R (qs i) := by
    refine ⟨fun i => if hi : i < xs.length then Classical.choose (rx _ (List.getElem_mem hi)) else fun _ => 0, fun i x e => ?_⟩
    obtain ⟨hi, rfl⟩ := List.getElem?_eq_some_iff.mp e
    simp only [hi, dif_pos]
    exact Classical.choose_spec (rx _ (List.getElem_mem hi))
  refine ⟨xs, qs, eL, lx, hqs, fun q hq => ?_⟩
  obtain ⟨x, hx, r⟩ := cx q hq
  obtain ⟨i, hi⟩ := List.getElem?_of_mem hx
  exact ⟨i, (List.getElem?_eq_some_iff.mp hi).1, fun k hk => (hqs i x hi).1.agree r hk⟩
def ptsD (n N : Nat) (qs : Nat → (Nat → Int)) : PyData := .list ((List.range N).map fun i => rowD n (qs i))
theorem pts_dp {K : PySem.W.Frag} {H : Hp} {L : Addr} {n : Nat} {xs : List V} {qs : Nat → (Nat → Int)} (e : H L = some (.lst xs)) (r : ∀ (i : Nat) x, xs[i]? = some x → RowAt H x n (qs i)) : Dp K H (.ref L) (ptsD n xs.length qs) := by
  have := dp_rows (K := K) (m := qs) xs 0 fun i x e => by
    rw [Nat.zero_add]
    exact r i x e
  rw [← List.range_eq_range'] at this
  exact .lst (SqL.of e) this
theorem pts_shaped (n N : Nat) (qs : Nat → (Nat → Int)) : SeqAt.shaped (ptsD n N qs) = true := by
  obtain ⟨h1, h2⟩ := lay_rows n qs (List.range N)
  unfold SeqAt.shaped
  rw [Bool.and_eq_true]
  exact ⟨h1, decide_eq_true (by show PyData.depthAll _ + 1 ≤ 64; omega)⟩
theorem eqv_nil (n N : Nat) (qs : Nat → (Nat → Int)) : PyData.eqv (ptsD n N qs) (.list []) = decide (N = 0) := by
  cases N with
  | zero => rfl
  | succ N =>
    show PyData.eqvAll ((List.range (N + 1)).map fun i => rowD n (qs i)) [] = _
    rw [List.range_succ_eq_map]
    rfl
def spIsOf (C : Addr) : Sp := fun vs H Q _ => ∃ (v : V) (L : Addr) (n : Nat) (R : (Nat → Int) → Prop), vs = [v, .ref L] ∧ n ≤ 12 ∧ PtsL H L n R ∧ ((v = .non ∧ ¬ ∃ q, R q) ∨ ∃ p t, v = .ref p ∧ BdAt C H p (n + 1) t ∧ OfR n R t) ∧ ∀ H', Same H H' → Q (.bl true) H'
def Drawn (n : Nat) (m : Mx) : Prop := (∃ q, Has n m q) ∧ (∀ i j, i < n + 1 → j < n + 1 → -1 ≤ m i j ∧ m i j ≤ 3) ∧ ∀ q, Has n m q → Box n q
def spRows : Sp := fun vs H Q _ => ∃ (B : Addr) (n : Nat), vs = [.ref B, .int (n : Int)] ∧ BagAt H B ∧ n ≤ 3 ∧ ∀ a m H', SB B H H' → BagAt H' B → MatT H' a (n + 1) m → Drawn n m → Q (.ref a) H'
/-- a comprehension that draws, its items told by their places -/
theorem lc_sb {J : It} {n : Nat} {G : Hp → Prop} {Y : Nat → Hp → V → Hp → Prop} (w : Walk J n G Y) {B : Addr} (R : Nat → Hp → V → Prop) (hR : ∀ i H H' y, Kp H H' → R i H y → R i H' y) {g : TG} {te : TE} {vs : List Nat} {σ : L2.St} {H1 : Hp} {D : Addr} {Qd : Hp → Prop}
    (hD : H1 D = none) (b1 : BagAt H1 B) (hn : n ≤ 1000) (hG : ∀ H, SB B H1 H → G H)
    (hs : ∀ i x H H' (kT : VK), i < n → SB B H1 H → BagAt H B → Y i H x H' → (∀ y H4, SB B H H4 → BagAt H4 B → R i H4 y → kT y H4) → g x (wipe σ vs) H' fun σ2 H2 => wipe σ2 vs = wipe σ vs ∧ te σ2 H2 kT)
    (hd : ∀ H ys, SB B H1 H → BagAt H B → H D = some (.lst ys) → ys.length = n → (∀ (i : Nat) y, ys[i]? = some y → R i H y) → Qd H) :
    ∃ W : Nat → Nat → Hp → Prop, (∃ m, W 0 m (upd H1 D (.lst []))) ∧ ∀ i m H, W i m H →
      (J.stop i H ∧ Qd H) ∨ (J.go i H ∧ ∃ Nx : Hp → Prop, (∀ H', Nx H' → ∃ m', m' < m ∧ W (i + 1) m' H') ∧ ∀ x H', J.yld i H x H' → g x (wipe σ vs) H' fun σ2 H2 => wipe σ2 vs = wipe σ vs ∧ tYes σ2 H2 fun b H3 =>
        if b = true then te σ2 H3 fun y H4 => ∃ acc, H4 D = some (.lst acc) ∧ acc.length < sizeLine ∧ Nx (upd H4 D (.lst (acc ++ [y]))) else Nx H3) := by
  have nDB : D ≠ B := b1.ne hD
  refine lc_it w (fun i H => SB B H1 H ∧ BagAt H B ∧ ∃ ys, H D = some (.lst ys) ∧ ys.length = i ∧ ∀ (j : Nat) y, ys[j]? = some y → R j H y) ⟨(SB.refl B H1).new hD, b1.new hD, [], upd_same, rfl, fun j y e => by simp at e⟩ (fun i H _ ⟨s, _⟩ => hG H s) ?_
    (fun H ⟨s, b, ys, d, l, p⟩ => hd H ys s b d l p)
  rintro i x H H' hi ⟨s, b, ys, d, l, p⟩ y
  refine hs i x H H' _ hi s b y fun z H4 s4 b4 r => ⟨ys, s4 _ _ nDB d, small1000 (by omega), (s.trans s4).own hD, b4.other nDB.symm, ys ++ [z], upd_same, by simp; omega, fun j u e => ?_⟩
  have kp : Kp H4 (upd H4 D (.lst (ys ++ [z]))) := kp_lst (s4 _ _ nDB d)
  by_cases hj : j < ys.length
  · rw [List.getElem?_append_left hj] at e
    exact hR j _ _ u ((Kp.sb b s4).trans kp) (p j u e)
  · rw [List.getElem?_append_right (by omega)] at e
    have hj0 : j - ys.length = 0 := by
      have := (List.getElem?_eq_some_iff.mp e).1
      simp at this
      omega
    rw [hj0] at e
    simp at e
    subst e
    obtain rfl : j = i := by omega
    exact hR j _ _ z kp r
section
variable {P : Program} {w : World} {K : PySem.W.Frag} {mg : Str → Option Value} {base : Heap} {fS fG fT C f1 f2 : Addr}
theorem scIsOf : FnScope ["bounds", "points"] ["bounds", "points"] (defScope sIsOf) := ⟨rfl, rfl, rfl, by decide +kernel, rfl, by decide +kernel, by decide +kernel⟩
theorem ok_isOf {f : Addr} {fd fdS fdG : FuncData} (F : Fun K "_law_is_of" "_law_is_of" sIsOf f fd) (X : PTxt mg) (Y : CTxt K mg C f1 f2) (GS : At_ P w K mg base CX0 3 "_law_same" fS fdS ["one", "other"] spSame2) (GG : At_ P w K mg base CX0 1 "_law_greatest" fG fdG ["points"] spGreat) (pR : PropG P w K mg base C "rows" "_rows") :
    FnOk P w K mg base CX0 4 f fd ["bounds", "points"] (spIsOf C) := by
  obtain ⟨pr, gr, fdr, pr1, pr2, pr3⟩ := pR
  refine F.ok scIsOf (fun vs H Q E h => ?_) (fun cdv A outer s H vs Q E hr h => ?_)
  · obtain ⟨v, L, n, R, rfl, _⟩ := h
    rfl
  · obtain ⟨v, L, n, R, rfl, hn, pt, hv, q⟩ := h
    have hr2 : Room 2 _ := hr.mono (by decide)
    refine ⟨_, pss_cons (ps_if (pt_cmpR (op_eqD hr.units) (pv 1) (pe_lst pa_nil) (nomark _)) (pss_one (ps_ret (pe_cmp (pc_isN (pv 0)) rfl))) pss_nil)
      (pss_one (ps_ret (pe_and (pe_callB call_isi (by rfl) X.isin (by decide +kernel) (pa_cons (pv 0) (pa_cons (pe_gcon rfl ⟨_, Y.mgC, (show RelV (.ref C) (.ref C) from rfl)⟩) pa_nil)))
        (pe_one (pe_call GS.g hr rfl GS.m GS.kp GS.b .nil pass0 (pa_cons (pe_prop (pv 0) Y.cl pr1 pr2 hr2 pr3 .nil pass0 rfl) (pa_cons (pe_call GG.g (hr.mono (by decide)) rfl GG.m GG.kp GG.b .nil pass0 (pa_cons (pv 1) pa_nil)) pa_nil))))))), ?_⟩
    refine ⟨_, rfl, (by show 0 ≤ sizeLine; decide), fun z hz => ?_⟩
    have s1 := same_new (o := .lst []) hz
    have ez : (upd H z (.lst [])) z = some (.lst []) := upd_same
    generalize upd H z (.lst []) = H1 at s1 ez
    have pt1 := pt.same s1
    obtain ⟨xs, qs, eL, lx, rx, cx⟩ := pt1.get
    refine ⟨_, .list [], pts_dp eL fun i x e => (rx i x e).1, .lst (SqL.of ez) .nil, pts_shaped _ _ _, by decide, _, rfl, ?_⟩
    rw [eqv_nil]
    refine ite2 (fun c => ?_) (fun c => ?_)
    · have c := of_decide_eq_true c
      rcases hv with ⟨rfl, _⟩ | ⟨p, t, _, _, ot⟩
      · exact ⟨_, rfl, q H1 s1⟩
      · obtain ⟨q0, h0⟩ := ot.ex
        obtain ⟨i, hi, _⟩ := cx q0 h0
        omega
    · have c : 0 < xs.length := Nat.pos_of_ne_zero fun z => c (decide_eq_true z)
      have e0 := List.getElem?_eq_getElem c
      rcases hv with ⟨rfl, no⟩ | ⟨p, t, rfl, bp, ot⟩
      · exact (no ⟨_, (rx 0 _ e0).2⟩).elim
      · obtain ⟨dx, a, ha, mt⟩ := id bp
        have ha1 := s1 _ _ ha
        refine ⟨_, rfl, .ref p, .ref C, .ref C, .ref C, true, rfl, .own C, Y.ty ha1, Y.kC, true, rfl, iteT ?_⟩
        refine ⟨_, rfl, p, dx, _, rfl, ha1, p, dx, _, _, rfl, ha1, bf_rows a, _, rfl, L, n, R, t, rfl, hn, pt1, ot, fun a2 H2 s2 m2 => ?_⟩
        refine ⟨a, a2, n + 1, n + 1, t, t, rfl, mt.mono (Kp.of (s1.trans s2)), m2, by omega, by omega, fun b H3 s3 hb => ?_⟩
        obtain rfl : b = true := hb.mpr ⟨rfl, fun _ _ _ _ => rfl⟩
        exact q H3 (s1.trans (s2.trans s3))
abbrev nRows2 : List Str := ["bag", "many", "turn", "point", "one", "other"]
end
end Bd

set_option Elab.async false
set_option linter.all false
set_option maxRecDepth 100000
set_option maxHeartbeats 4000000
/-! enumerate of a tuple -/
namespace EnT
open PySem PySem.Spec PyProof.Rows L2
open AutoSeq1 (wpAny_loadPart')
theorem meets_enum1 {v : Value} {o : Obj} {Hb : Heap → Prop} (B : Begins v o Hb) : Meets (Builtin.«enumerate.__new__» ⟨[.type "enumerate", v], []⟩) (fun _ R s => Hb s.heap ∧
    R (.ok (.ret (.ref (s.heap.push o).objs.size))) { s with heap := (s.heap.push o).push { cls := .type "enumerate", data := .fields #[.none, .bool false, .ref s.heap.objs.size, rawInt 0, .none, .none] } }) :=
  .of_wp fun prog w A R s h => by
    obtain ⟨hp, g, d, tk, os⟩ := s; obtain ⟨hl, h⟩ := h
    have hsub := sub_enumerate
    have q1 : ∀ {A' : Around} {E : Value → Shared → Prop} {Q : Value → Shared → Prop}, Q (.ref hp.objs.size) ⟨hp.push o, g, d, tk, os⟩ → wpAny (model prog w) A' (pyIter v) Q E ⟨hp, g, d, tk, os⟩ := fun q => B.iter prog w _ _ ⟨hp, g, d, tk, os⟩ _ hl q
    wp_walk using q1
    refine wpAny_stack_any fun st => wpAny_pure ?_
    split
    · rename_i c _ _ _ _ _
      cases (c == Value.type "enumerate") <;>
      · wp_walk using q1
        exact ⟨_, rfl, h⟩
    · wp_walk using q1
      exact ⟨_, rfl, h⟩
section
variable {prog : Program} {w : World} {A : Around} {E : Value → Shared → Prop} {s : Shared}
theorem enum1_begins {v : Value} {o : Obj} {Hb : Heap → Prop} {Q : Value → Shared → Prop} (B : Begins v o Hb) (hb : Hb s.heap)
    (k : ∀ h', IsEnum h' (s.heap.objs.size + 1) s.heap.objs.size 0 .none → h'.get? s.heap.objs.size = some o → (∀ b u, s.heap.get? b = some u → h'.get? b = some u) → Q (.ref (s.heap.objs.size + 1)) { s with heap := h' }) :
    wpAny (model prog w) A (call (.type "enumerate") [v]) Q E s := by
  refine callType_new F.called_enumerate (by decide) (F.typeCall_enumerate_1 _) (F.newCall_enumerate_1 _) (fun obj => F.args_object_init_2 obj _) F.entry_enumerate_new (meets_enum1 B) ⟨hb, ?_⟩
  have sz : (s.heap.push o).objs.size = s.heap.objs.size + 1 := Heap.size_push ..
  refine (show _ ∧ _ from ?_)
  rw [sz]
  have he : IsEnum ((s.heap.push o).push { cls := .type "enumerate", data := .fields #[.none, .bool false, .ref s.heap.objs.size, rawInt 0, .none, .none] }) (s.heap.objs.size + 1) s.heap.objs.size 0 .none := by
    have g := Heap.get?_push_size (s.heap.push o) (o := { cls := .type "enumerate", data := .fields #[.none, .bool false, .ref s.heap.objs.size, rawInt 0, .none, .none] }) rfl
    rwa [sz] at g
  exact ⟨⟨_, he, rfl⟩, k _ he (Heap.get?_push_of_some _ (Heap.get?_push_size _ B.free)) fun b u e => Heap.get?_push_of_some _ (Heap.get?_push_of_some _ e)⟩
end
/-- the tuple at a, each item in a new pair -/
def Itt (K : PySem.W.Frag) (a : Addr) : It :=
  ⟨fun i H => ∃ (xs : List V) (x : V), SqT K H a xs ∧ xs[i]? = some x, fun i H v H' => ∃ T x, v = .ref T ∧ H T = none ∧ H' = upd H T (.tup [.int (i : Nat), x]) ∧ ∀ xs, SqT K H a xs → xs[i]? = some x, fun i H => ∃ xs : List V, SqT K H a xs ∧ xs.length = i⟩
theorem turn_tup {P : Program} {w : World} {K : PySem.W.Frag} {elts : List Expr} {kk : Nat} {tpos : Pos} (a e it : Addr) :
    Turn P w K (.Tuple elts kk tpos) (Itt K a) [e, it] e (fun i h => (∃ old, IsEnum h e it ((i : Nat) : Int) old) ∧ h.IsTupleIter it a i ∧ e ≠ it ∧ a ≠ it ∧ a ≠ e) where
  mem := by simp
  obj := fun i h st b hb => by
    obtain ⟨⟨old, he⟩, ⟨o, ho, hc, hd⟩, _⟩ := st
    rcases (show b = e ∨ b = it by simpa using hb) with rfl | rfl
    · exact ⟨_, he, fun v q => nomatch q⟩
    · exact ⟨o, ho, fun v q => by rw [hd] at q; cases q⟩
  keep := fun i h h' st k => by
    obtain ⟨⟨old, he⟩, hi, ne⟩ := st
    exact ⟨⟨old, k e (by simp) _ he⟩, hi.at fun o q => k it (by simp) o q, ne⟩
  item := by
    intro X hP hw hK hc i pins s σ H E I hf st hg
    subst hP hw hK
    obtain ⟨⟨old, he⟩, hit, ne1, ne2, ne3⟩ := st
    obtain ⟨xs, x, hq, hx⟩ := hg
    obtain ⟨its, rv, p, hz⟩ := I.tuple hq
    obtain ⟨u, hu, ru⟩ := rv.get hx
    have lti : i < its.toArray.size := by
      have := (List.getElem?_eq_some_iff.mp hu).1
      simpa using this
    have l1 : e < s.heap.objs.size := Heap.lt_size he
    have l2 : it < s.heap.objs.size := by obtain ⟨_, q, _⟩ := hit; exact Heap.lt_size q
    refine wpAny_pyNext_enum_itemD (Draws.tuple (A := X.A.in1) (I.ok.hd hc) it a ne2 its.toArray) he ⟨hit, p⟩ lti ne1 (by simp [ne1, Ne.symm ne3]) fun y h' tk hy ho st' hT hsz hk => ?_
    have ey : y = u := by
      have a1 : its[i]? = some y := by simpa using hy
      rw [hu] at a1
      exact (Option.some.inj a1).symm
    subst ey
    refine ⟨_, rfl, wpAny_letOwnedTupleGo_enum (s := { s with heap := h', toks := tk + 1 }) ho fun h2 he2 sb => ?_⟩
    have hT2 : h2.get? s.heap.objs.size = some { cls := .type "tuple", data := .seq #[.int i tk, y] } := (sb.2 _ (Nat.ne_of_gt l1)).trans hT
    have new : ObjOk X.prog X.w (upd H s.heap.objs.size (.tup [.int (i : Nat), x])) h2 s.heap.objs.size (.tup [.int (i : Nat), x]) := ⟨by show 2 ≤ sizeLine; decide, [.int i tk, y], .cons ⟨_, rfl⟩ (.cons ru .nil), ⟨_, hT2, rfl, _, rfl⟩⟩
    have I2 : Inv X pins σ (upd H s.heap.objs.size (.tup [.int (i : Nat), x])) { s with heap := h2, toks := tk + 1 } :=
      I.turnedNew (ch := [e, it]) (fun b ob hb q => (sb.2 b (fun z => hb (by simp [z]))).trans (hk b ob (fun z => hb (by simp [z])) (fun z => hb (by simp [z])) q)) hf (Nat.le_refl _) new
    refine ⟨.ref s.heap.objs.size, _, I2, rfl, ⟨_, x, rfl, I.hok.fresh (Nat.le_refl _), rfl, fun ys hy => by rw [I.tuple_inj hy hq]; exact hx⟩, ⟨⟨y, ?_⟩, st'.1.at fun o q => (sb.2 it (Ne.symm ne1)).trans q, ne1, ne2, ne3⟩, fun b hb => ?_⟩
    · rw [show ((i + 1 : Nat) : Int) = (i : Int) + 1 by omega]
      exact he2
    · have lb : b < s.heap.objs.size := by
        rcases (show b = e ∨ b = it by simpa using hb) with rfl | rfl
        · exact l1
        · exact l2
      rw [upd_ne (Nat.ne_of_lt lb)]
      exact (hf b hb).1
  done := by
    intro X hP hw hK hc i pins s σ H E I hf st hg
    subst hP hw hK
    obtain ⟨⟨old, he⟩, hit, ne1, ne2, ne3⟩ := st
    obtain ⟨xs, hq, hx⟩ := hg
    obtain ⟨its, rv, p, hz⟩ := I.tuple hq
    obtain ⟨f0, f1, f2, f3, f4, f5⟩ := hf it (by simp)
    have sz : its.toArray.size = i := by rw [List.size_toArray, ← rv.length, hx]
    exact wpAny_pyNext_enum_endD (Draws.tuple (A := X.A.in1) (I.ok.hd hc) it a ne2 its.toArray) he (by rw [sz]; exact ⟨hit, p⟩) fun h' eb => ⟨rfl, I.turned (t' := s.toks) (fun b o hb q => eb b o hb q) f0 f1 f3 f4 f5⟩
  self := fun A i s Q E st h => let ⟨⟨_, he⟩, _⟩ := st; wpAny_pyIter_enum he h
def iEnT (K : PySem.W.Frag) (ta : TA) : TI := fun σ H R => ta σ H fun vs H1 => ∃ a xs, vs = [.ref a] ∧ SqT K H1 a xs ∧ R (Itt K a) H1
theorem pi_enT {X : Cx} {e : Expr} {ta : TA} {p pos tpos : Pos} {elts : List Expr} {kk : Nat} (hg : Gl X "enumerate") (hm : X.mg "enumerate" = none) (ha : PA X [e] ta) (hs : starEach [e] X.env = [(false, eval e X.env)] := by rfl) :
    PI X (.Tuple elts kk tpos) (.Call (.Name "enumerate" p) [e] [] pos) (iEnT X.K ta) := by
  refine ⟨fun pins s σ H R I h => Call_ (ld_blt I hg hm boot_enumerate (PyProof.Rows.callWith_type1 (thn (ha.run pos pins s σ H _ I h) fun us s1 ⟨vs, H1, I1, r1, q1⟩ => ?_) hs rfl))⟩
  obtain ⟨a, xs, ex, hq, q⟩ := q1
  subst ex
  obtain ⟨u, rfl, ru⟩ := r1.one
  cases ru
  obtain ⟨its, rv, p', hz⟩ := I1.tuple hq
  have la : a < s1.heap.objs.size := by obtain ⟨_, e, _⟩ := id p'; exact Heap.lt_size e
  refine enum1_begins (begins_tuple a its.toArray) p' fun h' he hit hk => wpAny_pyIter_enum he ?_
  have I2 : Inv X pins σ H1 { s1 with heap := h' } := I1.kept (t' := s1.toks) hk
  refine ⟨s1.heap.objs.size + 1, [s1.heap.objs.size + 1, s1.heap.objs.size], _, _, H1, rfl, I2, turn_tup a (s1.heap.objs.size + 1) s1.heap.objs.size, ⟨⟨.none, he⟩, ⟨_, hit, rfl, rfl⟩, Nat.succ_ne_self _, Nat.ne_of_lt la, Nat.ne_of_lt (Nat.lt_succ_of_lt la)⟩, fun b hb => ?_, q⟩
  have hle : s1.heap.objs.size ≤ b := by
    rcases (show b = s1.heap.objs.size + 1 ∨ b = s1.heap.objs.size by simpa using hb) with rfl | rfl
    · exact Nat.le_add_right _ _
    · exact Nat.le_refl _
  exact I1.fpOk hle (I1.hok.fresh hle)
theorem walk_enT {K : PySem.W.Frag} {a : Addr} {xs : List V} : Walk (Itt K a) xs.length (fun H => SqT K H a xs) (YPair (fun i => some (.int (i : Nat))) (fun i => xs[i]?)) := by
  refine ⟨fun i _ hi q => ⟨xs, xs[i], q, by simp [hi]⟩, fun _ q => ⟨xs, q, rfl⟩, fun i H v H' _ q y => ?_⟩
  obtain ⟨T, x, h1, h2, h3, h4⟩ := y
  exact ⟨T, .int (i : Nat), x, h1, h2, h3, rfl, h4 xs q⟩
end EnT

set_option Elab.async false
set_option linter.all false
set_option maxRecDepth 100000
set_option maxHeartbeats 4000000
/-! what one pair of bounds and points is asked for -/
namespace Bd
open PySem PySem.Spec PyProof.Rows L2 Wd Br TO
/-! ### a dict with points as keys -/
def keyL (n : Nat) (q : Nat → Int) : List Key := (List.range n).map fun k => Sum.inl (q k)
theorem keyL_v (n : Nat) (q : Nat → Int) : (keyL n q).map kV = rowV n q := by
  unfold keyL rowV
  rw [List.map_map]
  rfl
theorem keyL_ns (n : Nat) (q : Nat → Int) : keyL n q = ((List.range n).map q).map Sum.inl := by
  unfold keyL
  rw [List.map_map]
  rfl
theorem keyL_ext {n : Nat} {q r : Nat → Int} (h : ∀ k, k < n → q k = r k) : keyL n q = keyL n r := List.map_congr_left fun k hk => by rw [h k (List.mem_range.mp hk)]
section
variable {kvs : List (List Key × V)} {k : List Key} {v : V}
theorem put_len : (putK kvs k v).length ≤ kvs.length + 1 := by
  unfold putK
  split
  · rw [List.length_map]
    omega
  · rw [List.length_append]
    exact Nat.le_refl _
theorem put_mem {e : List Key × V} (h : e ∈ putK kvs k v) : e.1 = k ∨ ∃ e' ∈ kvs, e'.1 = e.1 := by
  unfold putK at h
  split at h
  · obtain ⟨x, hx, rfl⟩ := List.mem_map.mp h
    refine .inr ⟨x, hx, ?_⟩
    split <;> rfl
  · rcases List.mem_append.mp h with h | h
    · exact .inr ⟨e, h, rfl⟩
    · rw [List.mem_singleton.mp h]
      exact .inl rfl
theorem put_old {e : List Key × V} (h : e ∈ kvs) : ∃ e' ∈ putK kvs k v, e'.1 = e.1 := by
  unfold putK
  split
  · refine ⟨_, List.mem_map.mpr ⟨e, h, rfl⟩, ?_⟩
    split <;> rfl
  · exact ⟨e, List.mem_append_left _ h, rfl⟩
theorem put_new : ∃ e ∈ putK kvs k v, e.1 = k := by
  unfold putK
  split
  · rename_i h
    obtain ⟨x, hx, e⟩ := List.any_eq_true.mp h
    have e := of_decide_eq_true e
    refine ⟨_, List.mem_map.mpr ⟨x, hx, rfl⟩, ?_⟩
    rw [if_pos e]
    exact e
  · exact ⟨(k, v), List.mem_append_right _ (List.mem_singleton.mpr rfl), rfl⟩
end
/-! ### sets of points -/
def LatP (n : Nat) (t : Mx) (τ : Int) (r : Nat → Int) : Prop := ∃ q, Has n t q ∧ ∀ k, k < n → r k = q k + τ
theorem later_of {n : Nat} {t : Mx} {τ : Int} (c : Closed (n + 1) t) : OfR n (LatP n t τ) (laterM t τ) := by
  refine ⟨later_closed c, fun r => ⟨fun ⟨q, hq, e⟩ => ?_, fun h => ⟨plus r (-τ), ?_, fun k _ => ?_⟩⟩⟩
  · exact has_congr (fun k hk => (e k hk).symm) (later_has.mpr hq)
  · refine later_has.mp (has_congr (fun k hk => ?_) h)
    unfold plus
    omega
  · unfold plus
    omega
theorem moved_of {n k : Nat} {t : Mx} {κ : Nat → Nat} (c : Closed (n + 1) t) (hκ : ∀ s, s < k + 1 → κ s < n + 1) (h0 : κ 0 = 0) : OfR k (MovR n k t κ) (movedM t κ) := ⟨moved_closed c hκ, fun r => moved_has c hκ h0⟩
theorem ptsL_of {H : Hp} {L : Addr} {ys : List V} {n N : Nat} {R : (Nat → Int) → Prop} {f : Nat → Nat → Int} (e : H L = some (.lst ys)) (l : ys.length = N) (hN : N ≤ 2000) (r : ∀ (i : Nat) y, ys[i]? = some y → RowAt H y n (f i)) (r1 : ∀ i, i < N → R (f i)) (r2 : ∀ q, R q → ∃ i, i < N ∧ ∀ k, k < n → f i k = q k) : PtsL H L n R := by
  refine ⟨ys, e, by omega, fun x hx => ?_, fun q hq => ?_⟩
  · obtain ⟨i, hi⟩ := List.getElem?_of_mem hx
    have := (List.getElem?_eq_some_iff.mp hi).1
    exact ⟨f i, r i x hi, r1 i (by omega)⟩
  · obtain ⟨i, hi, ag⟩ := r2 q hq
    have g := List.getElem?_eq_getElem (l := ys) (i := i) (by omega)
    exact ⟨_, List.getElem_mem (by omega), (r i _ g).ext ag⟩
/-- what stands while a pair is asked -/
structure S24 (C B : Addr) (H0 : Hp) (n : Nat) (t : Mx) (Lp p : Addr) (H' : Hp) : Prop where
  sb : SB B H0 H'
  bg : BagAt H' B
  nP : Lp ≠ B
  pp : PtsL H' Lp n (Has n t)
  fw : Few H' Lp
  bd : BdAt C H' p (n + 1) t
theorem Few.kp {H H' : Hp} {L : Addr} (h : Few H L) (e : ∀ xs, H L = some (.lst xs) → H' L = some (.lst xs)) : Few H' L := let ⟨xs, a, b⟩ := h; ⟨xs, e _ a, b⟩
section
variable {C B : Addr} {H0 : Hp} {n : Nat} {t : Mx} {Lp p : Addr} {H1 H2 : Hp}
theorem S24.sbm (S : S24 C B H0 n t Lp p H1) (s : SB B H1 H2) (b : BagAt H2 B) : S24 C B H0 n t Lp p H2 :=
  let k := Kp.sb S.bg s
  ⟨S.sb.trans s, b, S.nP, S.pp.kp k fun _ e => s _ _ S.nP e, S.fw.kp fun _ e => s _ _ S.nP e, S.bd.mono k⟩
theorem S24.same (S : S24 C B H0 n t Lp p H1) (s : Same H1 H2) : S24 C B H0 n t Lp p H2 := S.sbm (SB.of s) (S.bg.of s)
theorem S24.lst {L : Addr} {xs ys : List V} (S : S24 C B H0 n t Lp p H1) (nB : L ≠ B) (n1 : Lp ≠ L) (nw : H0 L = none) (h : H1 L = some (.lst xs)) : S24 C B H0 n t Lp p (upd H1 L (.lst ys)) :=
  let k := kp_lst (ys := ys) h
  ⟨S.sb.own nw, S.bg.other nB.symm, S.nP, S.pp.kp k fun _ e => by rw [upd_ne n1]; exact e, S.fw.kp fun _ e => by rw [upd_ne n1]; exact e, S.bd.mono k⟩
theorem kp_dT {H : Hp} {D : Addr} {xs ys : List (List Key × V)} (h : H D = some (.dT xs)) : Kp H (upd H D (.dT ys)) := by
  refine ⟨fun a zs e => ?_, fun a C dx fs e => ?_⟩ <;>
  · rw [upd_ne fun q => by rw [q, h] at e; cases e]
    exact e
theorem S24.put {D : Addr} {xs ys : List (List Key × V)} (S : S24 C B H0 n t Lp p H1) (nw : H0 D = none) (h : H1 D = some (.dT xs)) : S24 C B H0 n t Lp p (upd H1 D (.dT ys)) := by
  have nB : B ≠ D := fun e => by
    obtain ⟨x, y, z, g⟩ := S.bg
    rw [e, h] at g
    cases g
  have n1 : Lp ≠ D := fun e => by
    obtain ⟨zs, g, _⟩ := S.fw
    rw [e, h] at g
    cases g
  have k := kp_dT (ys := ys) h
  exact ⟨S.sb.own nw, S.bg.other nB, S.nP, S.pp.kp k fun _ e => by rw [upd_ne n1]; exact e, S.fw.kp fun _ e => by rw [upd_ne n1]; exact e, S.bd.mono k⟩
end
/-! ### the raised points -/
/-- the dict holds just the points raised so far: of the points before i all, of the point i those raised by less than j -/
structure RisD (H : Hp) (D : Addr) (n : Nat) (t : Mx) (ta : Nat → Int) (qs : Nat → Nat → Int) (i j : Nat) : Prop where
  ex : ∃ kvs : List (List Key × V), H D = some (.dT kvs) ∧ kvs.length ≤ 9 * i + j ∧ (∀ e ∈ kvs, ∃ r, e.1 = keyL n r ∧ RisR n t ta r) ∧
    ∀ (i' τ : Nat), (i' < i ∧ τ < 9 ∨ i' = i ∧ τ < j) → (∀ k, k < n → qs i' k + (τ : Int) ≤ ta k) → ∃ e ∈ kvs, e.1 = keyL n fun k => qs i' k + (τ : Int)
theorem ris_pts {H : Hp} {L : Addr} {n N : Nat} {t : Mx} {ta : Nat → Int} {qs : Nat → Nat → Int} {kvs : List (List Key × V)} {ys : List V} (e : H L = some (.lst ys)) (hN : N ≤ 216) (lk : kvs.length ≤ 9 * N + 0) (ly : ys.length = kvs.length)
    (h1 : ∀ e ∈ kvs, ∃ r, e.1 = keyL n r ∧ RisR n t ta r)
    (h2 : ∀ (i' τ : Nat), (i' < N ∧ τ < 9 ∨ i' = N ∧ τ < 0) → (∀ k, k < n → qs i' k + (τ : Int) ≤ ta k) → ∃ e ∈ kvs, e.1 = keyL n fun k => qs i' k + (τ : Int))
    (g1 : ∀ y ∈ ys, ∃ e ∈ kvs, ∃ b, y = .ref b ∧ H b = some (.tup (e.1.map kV))) (g2 : ∀ e ∈ kvs, ∃ b, V.ref b ∈ ys ∧ H b = some (.tup (e.1.map kV)))
    (comp : ∀ q, Has n t q → ∃ i, i < N ∧ ∀ k, k < n → qs i k = q k) (box : ∀ q, Has n t q → Box n q) (top : ∀ k, k < n → ta k ≤ 5) : PtsL H L n (RisR n t ta) := by
  refine ⟨ys, e, by omega, fun y hy => ?_, fun r ⟨q, τ, hq, h0, hr⟩ => ?_⟩
  · obtain ⟨e, he, b, rfl, hb⟩ := g1 y hy
    obtain ⟨r, er, hr⟩ := h1 e he
    rw [er, keyL_v] at hb
    exact ⟨r, ⟨b, rfl, hb⟩, hr⟩
  · obtain ⟨i, hi, ag⟩ := comp q hq
    have bx := box q hq
    obtain ⟨σ, hs, agr⟩ : ∃ σ : Nat, σ < 9 ∧ ∀ k, k < n → r k = q k + (σ : Int) := by
      by_cases hn : n = 0
      · exact ⟨0, by decide, fun k hk => by omega⟩
      · have a := hr 0 (by omega)
        have b := bx 0 (by omega)
        have c := top 0 (by omega)
        exact ⟨τ.toNat, by omega, fun k hk => by have := (hr k hk).1; omega⟩
    obtain ⟨e, he, ek⟩ := h2 i σ (.inl ⟨hi, hs⟩) fun k hk => by
      rw [ag k hk, ← agr k hk]
      exact (hr k hk).2
    obtain ⟨b, hb, eb⟩ := g2 e he
    refine ⟨.ref b, hb, b, rfl, ?_⟩
    rw [eb, ek, keyL_v]
    congr 2
    exact rowV_ext fun k hk => by rw [ag k hk, agr k hk]
def Cong (n : Nat) (S : (Nat → Int) → Prop) : Prop := ∀ q r : Nat → Int, (∀ k, k < n → q k = r k) → S q → S r
theorem has_cong {n : Nat} {m : Mx} : Cong n (Has n m) := fun _ _ h a => has_congr h a
/-- [x for x in points if ..] -/
theorem lc_ptsF {K : PySem.W.Frag} {L : Addr} {n : Nat} {R S : (Nat → Int) → Prop} (cg : Cong n S) {g : TG} {tt : TT} {te : TE} {vs : List Nat} {σ : L2.St} {H1 : Hp} {D : Addr} {Qd : Hp → Prop} (pt : PtsL H1 L n R) (few : Few H1 L) (hD : H1 D = none)
    (hs : ∀ x q H (kY : VK) (kN : Hp → Prop), Same H1 H → RowAt H x n q → (∀ H4, Same H H4 → S q → kY x H4) → (∀ H4, Same H H4 → ¬ S q → kN H4) → g x (wipe σ vs) H fun σ2 H2 => wipe σ2 vs = wipe σ vs ∧ tt σ2 H2 fun b H3 => if b = true then te σ2 H3 kY else kN H3)
    (hd : ∀ H, Same H1 H → PtsL H D n (fun q => R q ∧ S q) → Few H D → Qd H) :
    ∃ W : Nat → Nat → Hp → Prop, (∃ m, W 0 m (upd H1 D (.lst []))) ∧ ∀ i m H, W i m H →
      ((Itl K L).stop i H ∧ Qd H) ∨ ((Itl K L).go i H ∧ ∃ Nx : Hp → Prop, (∀ H', Nx H' → ∃ m', m' < m ∧ W (i + 1) m' H') ∧ ∀ x H', (Itl K L).yld i H x H' → g x (wipe σ vs) H' fun σ2 H2 => wipe σ2 vs = wipe σ vs ∧ tt σ2 H2 fun b H3 =>
        if b = true then te σ2 H3 fun y H4 => ∃ acc, H4 D = some (.lst acc) ∧ acc.length < sizeLine ∧ Nx (upd H4 D (.lst (acc ++ [y]))) else Nx H3) := by
  obtain ⟨xs, eL, lx, rx, cx⟩ := pt
  have l216 : xs.length ≤ 216 := by
    obtain ⟨zs, ez, lz⟩ := few
    rw [eL] at ez
    cases ez
    exact lz
  have past : ∀ {H : Hp} {o : HO}, Same H1 H → Same H1 (upd H D o) := fun s b u e => by
    rw [upd_ne (ne_of_none e hD)]
    exact s _ _ e
  refine lc_it (walk_list (K := K) (a := L) (xs := xs)) (fun i H => Same H1 H ∧ ∃ ys, H D = some (.lst ys) ∧ ys.length ≤ i ∧ (∀ y ∈ ys, ∃ q, RowAt H y n q ∧ R q ∧ S q) ∧ ∀ (j : Nat) x, j < i → xs[j]? = some x → ∀ q, RowAt H x n q → S q → x ∈ ys)
    ⟨past (Same.refl _), [], upd_same, by simp, fun y h => (List.not_mem_nil h).elim, fun j _ h => by omega⟩ (fun i H _ ⟨s, _⟩ => SqL.of (s _ _ eL)) ?_ ?_
  · rintro i x H H' hi ⟨s, ys, d, l, r, c⟩ ⟨rfl, hx⟩
    obtain ⟨q0, r0, h0⟩ := rx x (List.mem_of_getElem? hx)
    have r0 := r0.mono (Kp.of s)
    refine hs x q0 H' _ _ s r0 (fun H4 s4 hS => ?_) fun H4 s4 nS => ?_
    · have kp : Kp H' (upd H4 D (.lst (ys ++ [x]))) := (Kp.of s4).trans (kp_lst (s4 _ _ d))
      refine ⟨ys, s4 _ _ d, small1000 (by omega), past (s.trans s4), ys ++ [x], upd_same, by simp; omega, fun y hy => ?_, fun j z hj hz q rq hq => ?_⟩
      · rcases List.mem_append.mp hy with h | h
        · obtain ⟨q, rq, h1, h2⟩ := r y h
          exact ⟨q, rq.mono kp, h1, h2⟩
        · rw [List.mem_singleton.mp h]
          exact ⟨q0, r0.mono kp, h0, hS⟩
      · by_cases h : j < i
        · obtain ⟨q', rq', _⟩ := rx z (List.mem_of_getElem? hz)
          have rq' := rq'.mono (Kp.of s)
          have ag : ∀ k, k < n → q k = q' k := fun k hk => rq.agree (rq'.mono kp) hk
          exact List.mem_append_left _ (c j z h hz q' rq' (cg _ _ ag hq))
        · obtain rfl : j = i := by omega
          rw [hx] at hz
          cases hz
          exact List.mem_append_right _ (List.mem_singleton.mpr rfl)
    · refine ⟨s.trans s4, ys, s4 _ _ d, by omega, fun y hy => let ⟨q, rq, h1, h2⟩ := r y hy; ⟨q, rq.mono (Kp.of s4), h1, h2⟩, fun j z hj hz q rq hq => ?_⟩
      by_cases h : j < i
      · obtain ⟨q', rq', _⟩ := rx z (List.mem_of_getElem? hz)
        have rq' := rq'.mono (Kp.of s)
        have ag : ∀ k, k < n → q k = q' k := fun k hk => rq.agree (rq'.mono (Kp.of s4)) hk
        exact c j z h hz q' rq' (cg _ _ ag hq)
      · obtain rfl : j = i := by omega
        rw [hx] at hz
        cases hz
        exact (nS (cg _ _ (fun k hk => rq.agree (r0.mono (Kp.of s4)) hk) hq)).elim
  · rintro H ⟨s, ys, d, l, r, c⟩
    refine hd H s ⟨ys, d, by omega, r, fun q ⟨h1, h2⟩ => ?_⟩ ⟨ys, d, by omega⟩
    obtain ⟨x, hx, rq⟩ := cx q h1
    obtain ⟨j, hj⟩ := List.getElem?_of_mem hx
    exact ⟨x, c j x (List.getElem?_eq_some_iff.mp hj).1 hj q (rq.mono (Kp.of s)) h2, rq.mono (Kp.of s)⟩
theorem ris_congr {n : Nat} {t : Mx} {a b r : Nat → Int} (h : ∀ k, k < n → a k = b k) : RisR n t a r ↔ RisR n t b r := by
  constructor <;>
  · rintro ⟨q, τ, h1, h2, h3⟩
    exact ⟨q, τ, h1, h2, fun i hi => ⟨(h3 i hi).1, by have := (h3 i hi).2; have := h i hi; omega⟩⟩
theorem drawn_inb {n : Nat} {m : Mx} (d : Drawn n m) : InB (n + 1) m := fun i j hi hj => by
  have h := d.2.1 i j hi hj
  exact ⟨Int.lt_of_lt_of_le (by decide +kernel : -ten60 < -1) h.1, Int.lt_of_le_of_lt h.2 (by decide +kernel)⟩
/-- bounds made later by a time of at most so many digits -/
theorem span_inb {n : Nat} {m t : Mx} {τ : Int} (d : Drawn n m) (T : Tight (n + 1) m t) (h0 : 0 ≤ τ) (h1 : τ ≤ 10 ^ 59) : InB (n + 1) (laterM t τ) := by
  have lo : (10 : Int) ^ 59 + 10 < ten60 := by decide +kernel
  have up : ∀ i j, i < n + 1 → j < n + 1 → t i j ≤ 3 := fun i j hi hj => by
    obtain ⟨q, hq⟩ := OfR.ex (OfR.tight T)
    have c := closed_top T.cl hi hj
    obtain ⟨_, q0, hq0, e0⟩ := c
    have a := (T.has.mp hq0) i j hi hj
    have b := (d.2.1 i j hi hj).2
    omega
  have dn : ∀ i j, i < n + 1 → j < n + 1 → -3 ≤ t i j := fun i j hi hj => by
    have a := T.cl.tr i i j hi hi hj
    have b := T.cl.dg i hi
    have c := up j i hj hi
    omega
  intro i j hi hj
  have a := up i j hi hj
  have b := dn i j hi hj
  generalize (10 : Int) ^ 59 = X at lo h1
  generalize ten60 = Y at lo ⊢
  have z := up 0 0 (by omega) (by omega)
  have z2 := dn 0 0 (by omega) (by omega)
  have z3 := dn 0 j (by omega) hj
  have z4 := up 0 j (by omega) hj
  have z5 := dn i 0 hi (by omega)
  have z6 := up i 0 hi (by omega)
  unfold laterM
  split
  · rename_i h
    split
    · rename_i h'
      constructor <;> omega
    · constructor <;> omega
  · split <;> constructor <;> omega
theorem ifz {b : Bool} {i : Nat} {r : Int} {σ : L2.St} {H : Hp} {Q : VK} (h : σ[i]? = some (some (.int r))) (k : ∀ z : Int, (b = true → z = r) → (b = false → z = 0) → Q (.int z) H) : if b = true then tVar i σ H Q else tC (.int 0) σ H Q := by
  cases b with
  | true => exact iteT ⟨_, h, k r (fun _ => rfl) fun e => nomatch e⟩
  | false => exact iteF (k 0 (fun e => nomatch e) fun _ => rfl)
theorem inV_ints {r : Int} : ∀ {cs : List Int}, inV (.int r) (cs.map V.int) = true ↔ r ∈ cs := by
  intro cs
  unfold inV
  rw [List.any_map, List.any_eq_true]
  constructor
  · rintro ⟨c, hc, e⟩
    have e : c = r := by simpa [eqV] using e
    rw [← e]
    exact hc
  · intro h
    exact ⟨r, h, by simp [eqV]⟩
theorem flat_ints : ∀ {cs : List Int}, (cs.map V.int).all flatV = true := by
  intro cs
  rw [List.all_map, List.all_eq_true]
  exact fun _ _ => rfl
theorem row_drawn {ys : List V} {n : Nat} {lo hi : Int} (l : ys.length = n) (r : ∀ (i : Nat) y, ys[i]? = some y → ∃ z : Int, y = .int z ∧ lo ≤ z ∧ z ≤ hi) : ∃ q0 : Nat → Int, ys = rowV n q0 ∧ ∀ k, k < n → lo ≤ q0 k ∧ q0 k ≤ hi := by
  refine ⟨fun j => match ys[j]? with | some (.int z) => z | _ => 0, rowV_of l fun k y e => ?_, fun k hk => ?_⟩
  · obtain ⟨z, rfl, _⟩ := r k y e
    show V.int z = V.int (match ys[k]? with | some (.int z) => z | _ => 0)
    rw [e]
  · have e := List.getElem?_eq_getElem (l := ys) (i := k) (by omega)
    obtain ⟨z, ez, h1, h2⟩ := r k _ e
    rw [ez] at e
    show lo ≤ (match ys[k]? with | some (.int z) => z | _ => 0) ∧ (match ys[k]? with | some (.int z) => z | _ => 0) ≤ hi
    rw [e]
    exact ⟨h1, h2⟩
theorem S24.fresh {C B : Addr} {H0 : Hp} {n : Nat} {t : Mx} {Lp p : Addr} {H1 : Hp} {L : Addr} (S : S24 C B H0 n t Lp p H1) (h : H1 L = none) : H0 L = none ∧ L ≠ B ∧ Lp ≠ L := by
  have nB : L ≠ B := S.bg.ne h
  refine ⟨?_, nB, fun e => ?_⟩
  · cases e : H0 L with
    | none => rfl
    | some o =>
      rw [S.sb _ _ nB e] at h
      cases h
  · obtain ⟨xs, g, _⟩ := S.fw
    rw [e, h] at g
    cases g
theorem full_congr {n j : Nat} {q r : Nat → Int} (h : ∀ k, k < n → q k = r k) (hj : j < n + 1) : full q j = full r j := by
  cases j with
  | zero => rfl
  | succ j => exact h j (by omega)
theorem kap_congr {k i : Nat} {ps qs : Nat → Int} (h : ∀ s, s < k → ps s = qs s) (hi : i < k + 1) : kap ps i = kap qs i := by
  cases i with
  | zero => rfl
  | succ i =>
    show (ps i).toNat = (qs i).toNat
    rw [h i (by omega)]
theorem rg_ints (n : Nat) : rgV 1 ((n : Int) + 1) = ((List.range n).map fun i : Nat => (1 : Int) + (i : Int)).map V.int := by
  unfold rgV
  rw [show ((n : Int) + 1 - 1).toNat = n by omega, List.map_map]
  rfl
end Bd

set_option Elab.async false
set_option linter.all false
set_option maxRecDepth 100000
set_option maxHeartbeats 4000000
/-! the law's raised points, the law's moved points -/
namespace Bd
open PySem PySem.Spec PyProof.Rows L2 Wd Br TO RZ
theorem key_in : ∀ {n : Nat} {r : Nat → Int}, (∀ k, k < n → 0 ≤ r k ∧ r k ≤ 4) → keyL n r ∈ boxU n
  | 0, _, _ => .head _
  | n + 1, r, h => by
    have ih := key_in (n := n) (r := r) fun k hk => h k (by omega)
    have e : keyL (n + 1) r = keyL n r ++ [Sum.inl (r n)] := by
      unfold keyL
      rw [List.range_succ, List.map_append]
      rfl
    obtain ⟨v, hv⟩ := Int.eq_ofNat_of_zero_le (h n (by omega)).1
    have lv := (h n (by omega)).2
    rw [e, hv]
    exact List.mem_flatMap.mpr ⟨_, ih, List.mem_map.mpr ⟨v, List.mem_range.mpr (by omega), rfl⟩⟩
theorem few_keys {kvs : List (List Key × V)} {n : Nat} (hn : n ≤ 3) (nd : (kvs.map (·.1)).Nodup) (h : ∀ e ∈ kvs, ∃ r, e.1 = keyL n r ∧ ∀ k, k < n → 0 ≤ r k ∧ r k ≤ 4) : kvs.length ≤ 216 := by
  have := nodup_le _ (boxU n) nd fun x hx => by
    obtain ⟨e, he, rfl⟩ := List.mem_map.mp hx
    obtain ⟨r, er, hr⟩ := h e he
    rw [er]
    exact key_in hr
  rw [List.length_map, boxU_len] at this
  have p : 5 ^ n ≤ 125 := Nat.le_trans (Nat.pow_le_pow_right (by decide) hn) (by decide)
  omega
structure ATxt (mg : Str → Option Value) : Prop where
  range : mg "range" = none
  tup : mg "tuple" = none
  all : mg "all" = none
  zip : mg "zip" = none
  sorted : mg "sorted" = none
  enum : mg "enumerate" = none
  len : mg "len" = none
def spRisP : Sp := fun vs H Q _ => ∃ (L c : Addr) (n : Nat) (t : Mx) (ta : Nat → Int), vs = [.ref L, .ref c] ∧ PtsL H L n (Has n t) ∧ Few H L ∧ H c = some (.tup (rowV n ta)) ∧ n ≤ 3 ∧ (∀ q, Has n t q → ∀ k, k < n → 0 ≤ q k ∧ q k ≤ 3) ∧ (∀ k, k < n → ta k ≤ 3) ∧
  ∀ L' H', Same H H' → H L' = none → PtsL H' L' n (RisR n t ta) → Few H' L' → Q (.ref L') H'
def spMovP : Sp := fun vs H Q _ => ∃ (L b : Addr) (n k : Nat) (t : Mx) (ps : Nat → Int), vs = [.ref L, .ref b] ∧ PtsL H L n (Has n t) ∧ Few H L ∧ H b = some (.tup (rowV k ps)) ∧ n ≤ 3 ∧ k ≤ 3 ∧ (∀ s, s < k → 0 ≤ ps s ∧ ps s ≤ n) ∧ (∀ q, Has n t q → ∀ s, s < k → 0 ≤ full q (kap ps (s + 1)) ∧ full q (kap ps (s + 1)) ≤ 4) ∧
  ∀ L' H', Same H H' → H L' = none → PtsL H' L' k (MovR n k t (kap ps)) → Few H' L' → Q (.ref L') H'
theorem fresh_of {H H' : Hp} {D : Addr} (s : Same H H') (h : H' D = none) : H D = none := by
  cases e : H D with
  | none => rfl
  | some o =>
    rw [s _ _ e] at h
    cases h
theorem same_own {H H' : Hp} {D : Addr} {o : HO} (s : Same H H') (h : H D = none) : Same H (upd H' D o) := fun b u e => by
  rw [upd_ne (ne_of_none e h)]
  exact s _ _ e
section
variable {P : Program} {w : World} {K : PySem.W.Frag} {mg : Str → Option Value} {base : Heap}
abbrev nRisP : List Str := ["points", "tops", "found", "point", "turn", "higher", "reading", "top"]
theorem scRisP : FnScope nRisP ["points", "tops"] (defScope sRisen) := ⟨rfl, rfl, rfl, by decide +kernel, rfl, by decide +kernel, by decide +kernel⟩
theorem ok_risP {f : Addr} {fd : FuncData} (F : Fun K "_law_risen" "_law_risen" sRisen f fd) (X : ATxt mg) : FnOk P w K mg base CX0 1 f fd ["points", "tops"] spRisP := by
  refine F.ok scRisP (fun vs H Q E h => ?_) (fun cdv A outer s H vs Q E hr h => ?_)
  · obtain ⟨L, c, n, t, ta, rfl, _⟩ := h
    rfl
  · obtain ⟨L, c, n, t, ta, rfl, pp, fw, qc0, n3, box, top, q⟩ := h
    have nd := scRisP.nd
    have u1 : (A.deeper (envOfC "_law_risen" (defScope sRisen) s.heap.objs.size f cdv)).units + 1 < cLine := by have := hr.un; omega
    refine ⟨_, pss_cons (ps_set (i := 2) nd rfl (Or.inl rfl) pe_dnewT)
      (pss_cons (ps_for PassesOwn.never rfl (pi_list (pv 0)) (pg_name (i := 3) nd rfl (Or.inl rfl))
          (pss_one (ps_for PassesOwn.never rfl (pi_range1 rfl X.range (pa_cons pe_int pa_nil)) (pg_name (i := 4) nd rfl (Or.inr rfl))
            (pss_cons (ps_set (i := 5) nd rfl (Or.inl rfl) (pe_callTy (r := rTupQ K) call_tuple_of (by rfl) X.tup (by decide +kernel) (pa_cons (pe_lc (own := [("reading", 6)]) (g := gName 6) (tt := tYes) rfl nd (pi_tup (pv 3)) (blkOk_by (N := nRisP) (sc := defScope sRisen) (by decide +kernel))
                (fun _ _ _ _ _ => pg_name (i := 6) nd rfl (Or.inl rfl)) (fun _ _ _ _ _ => pts_nil) (fun _ _ _ _ _ => pe_op op_add (pv 6) (pv 4))) pa_nil)))
            (pss_one (ps_if (pt_val (pe_callB (cr_all rfl) (by rfl) X.all (by decide +kernel) (pa_cons (pe_lc (own := [("reading", 6), ("top", 7)]) (g := gTup K 2 (gCons (gName 6) (gCons (gName 7) gNil))) (tt := tYes) rfl nd (pi_zipA (by rfl) X.zip (pa_cons (pv 5) (pa_cons (pv 1) pa_nil))) (blkOk_by (N := nRisP) (sc := defScope sRisen) (by decide +kernel))
                (fun _ _ _ _ _ => pg_tup rfl (pgs_cons (pg_name (i := 6) nd rfl (Or.inl rfl)) (pgs_cons (pg_name (i := 7) nd rfl (Or.inl rfl)) pgs_nil))) (fun _ _ _ _ _ => pts_nil) (fun _ _ _ _ _ => pe_cmpR op_le (pv 6) (pv 7) (nomark _))) pa_nil))) (pss_one (ps_dput u1 (pv 2) (pv 5) pe_bl rfl)) pss_nil))))))
      (pss_one (ps_ret (pe_callB (r := SrD.rSortD) (SrD.cr_sortD rfl) (by rfl) X.sorted (by decide +kernel) (pa_cons (pv 2) pa_nil))))), ?_⟩
    refine fun Dd hDd => ?_
    have sD := same_new (o := .dT []) hDd
    have qD : (upd H Dd (.dT [])) Dd = some (.dT []) := upd_same
    generalize upd H Dd (.dT []) = H1 at sD qD
    obtain ⟨xs, qs, eP0, _, rx, cx⟩ := pp.get
    have lx : xs.length ≤ 216 := by
      obtain ⟨zs, ez, lz⟩ := fw
      rw [eP0] at ez
      cases ez
      exact lz
    refine ⟨_, rfl, L, rfl, ⟨_, SqL.of (sD _ _ eP0)⟩, ?_⟩
    refine for_it (walk_list (K := K) (a := L) (xs := xs)) (fun i σ H' => ∃ v3 v4 v5 : Option V, σ = [some (.ref L), some (.ref c), some (.ref Dd), v3, v4, v5, none, none] ∧ Same H H' ∧ RisD H' Dd n t ta qs i 0)
      ⟨_, _, _, rfl, sD, ⟨[], qD, by simp, fun e h => (List.not_mem_nil h).elim, fun i' τ h => by omega⟩⟩ (fun _ _ _ _ ⟨_, _, _, _, s, _⟩ => SqL.of (s _ _ eP0)) ?_ ?_
    · rintro i x σ H18 H' hi ⟨v3, v4, v5, rfl, sH, RD⟩ ⟨rfl, hx⟩
      obtain ⟨⟨b, rfl, qb0⟩, hq⟩ := rx i x hx
      refine ⟨_, rfl, by decide, by decide, ?_⟩
      refine for_it (walk_rng (n := 9)) (fun j σ H' => ∃ v4 v5 : Option V, σ = [some (.ref L), some (.ref c), some (.ref Dd), some (.ref b), v4, v5, none, none] ∧ Same H H' ∧ RisD H' Dd n t ta qs i j) ⟨_, _, rfl, sH, RD⟩ (fun _ _ _ _ _ => trivial) ?_ ?_
      · rintro j x σ H19 H' hj ⟨v4, v5, rfl, sH, RD⟩ ⟨rfl, rfl⟩
        have qb := sH _ _ qb0
        obtain ⟨kvs, eD, lk, h1, h2⟩ := RD.ex
        refine ⟨_, rfl, b, rfl, ⟨_, SqT.of qb⟩, fun D hD => ?_⟩
        refine lc_ints (n := (rowV n (qs i)).length) (walk_tup (K := K) (a := b) (xs := rowV n (qs i))) (fun k => qs i k + (j : Int)) hD (by rw [rowV_len]; omega) (fun H7 s7 => SqT.of (s7 _ _ qb)) ?_ ?_
        · rintro k x H7 H' kT2 hk s7 ⟨rfl, hx⟩ h2
          rw [rowV_len] at hk
          rw [rowV_get hk] at hx
          cases hx
          exact ⟨rfl, _, rfl, _, rfl, _, _, rfl, rfl, h2 _ (Same.refl _)⟩
        intro H20 s20 d20
        rw [rowV_len] at d20
        refine ⟨D, _, rfl, .inl ⟨SqL.of d20, fun hg hhg => ?_⟩⟩
        have s21 := s20.trans (same_new (o := .tup (rowV n fun k => qs i k + (j : Int))) hhg)
        have qh : (upd H20 hg (.tup (rowV n fun k => qs i k + (j : Int)))) hg = some (.tup (rowV n fun k => qs i k + (j : Int))) := upd_same
        generalize upd H20 hg (.tup (rowV n fun k => qs i k + (j : Int))) = H21 at s21 qh
        have sH := sH.trans s21
        have eD := s21 _ _ eD
        have qc' := sH _ _ qc0
        clear d20 s20 hhg hD s21 qb
        refine ⟨_, rfl, _, rfl, hg, c, _, _, rfl, .inr ⟨SqT.of qh, SqT.of qc', fun D2 hD2 => ?_⟩⟩
        refine lc_bs (walk_zipT (K := K) (a := hg) (b := c) (xs := rowV n fun k => qs i k + (j : Int)) (ys := rowV n ta) (n := n) (by rw [rowV_len, rowV_len, Nat.min_self])) (fun k => qs i k + (j : Int) ≤ ta k) hD2 (by omega) (fun H5 s5 => ⟨SqT.of (s5 _ _ qh), SqT.of (s5 _ _ qc')⟩) ?_ ?_
        · rintro k y H5 H' kT hk s5 ⟨T2, x2, y2, rfl, hT2, rfl, h3, h4⟩ h
          have g1 : (rowV n fun k => qs i k + (j : Int))[k]? = some x2 := h3
          have g2 : (rowV n ta)[k]? = some y2 := h4
          rw [rowV_get hk] at g1 g2
          cases g1
          cases g2
          exact ⟨T2, _, rfl, SqT.of upd_same, rfl, _, _, rfl, _, _, rfl, rfl, rfl, _, rfl, _, rfl, _, _, rfl, rfl, h _ _ (same_new hT2) decide_eq_true_iff⟩
        rintro H22 bs s22 hD22 hall -
        refine ⟨D2, bs, rfl, SqL.of hD22, _, rfl, ?_⟩
        have sH := sH.trans s22
        have eD := s22 _ _ eD
        have qh := s22 _ _ qh
        cases hbs : bs.all id with
        | true =>
          have al := hall.mp hbs
          refine iteT ⟨_, rfl, _, rfl, _, _, rfl, DPut.t (k := keyL n fun k => qs i k + (j : Int)) eD (by rw [keyL_v]; exact qh) (small4000 (by omega)), ?_⟩
          refine ⟨_, _, rfl, same_own sH hDd, ⟨_, upd_same, ?_, fun e he => ?_, fun i' σ' h le => ?_⟩⟩
          · have := put_len (kvs := kvs) (k := keyL n fun k => qs i k + (j : Int)) (v := .bl true)
            omega
          · rcases put_mem he with z | ⟨e', he', z⟩
            · exact ⟨_, z, qs i, j, hq, by omega, fun k hk => ⟨rfl, al k hk⟩⟩
            · obtain ⟨r, er, hr⟩ := h1 e' he'
              exact ⟨r, z ▸ er, hr⟩
          · by_cases z : i' = i ∧ σ' = j
            · obtain ⟨rfl, rfl⟩ := z
              exact put_new
            · obtain ⟨e, he, ek⟩ := h2 i' σ' (by omega) le
              obtain ⟨e', he', ek'⟩ := put_old (k := keyL n fun k => qs i k + (j : Int)) (v := .bl true) he
              exact ⟨e', he', ek'.trans ek⟩
        | false =>
          refine iteF ⟨_, _, rfl, sH, ⟨kvs, eD, by omega, h1, fun i' σ' h le => ?_⟩⟩
          by_cases z : i' = i ∧ σ' = j
          · obtain ⟨rfl, rfl⟩ := z
            have := hall.mpr le
            rw [hbs] at this
            cases this
          · exact h2 i' σ' (by omega) le
      · rintro σ H19 ⟨v4, v5, rfl, sH, RD⟩
        obtain ⟨kvs, eD, lk, h1, h2⟩ := RD.ex
        exact ⟨_, _, _, rfl, sH, ⟨kvs, eD, by omega, h1, fun i' σ' h le => h2 i' σ' (by omega) le⟩⟩
    rintro σ H18 ⟨v3, v4, v5, rfl, sH, RD⟩
    obtain ⟨kvs, eD, lk, h1, h2⟩ := RD.ex
    refine ⟨_, rfl, Dd, kvs, n, rfl, eD, fun e he => ?_, fun L' ys hL ndk ly g1 g2 => ?_⟩
    · obtain ⟨r, er, _⟩ := h1 e he
      exact ⟨(List.range n).map r, by rw [er, keyL_ns], by rw [List.length_map, List.length_range]⟩
    have s20 := same_new (o := .lst ys) hL
    refine q L' _ (sH.trans s20) (fresh_of sH hL) (ris_pts upd_same lx lk ly h1 h2 (fun y hy => let ⟨e, he, b, eb, hb⟩ := g1 y hy; ⟨e, he, b, eb, s20 _ _ hb⟩) (fun e he => let ⟨b, hb, eb⟩ := g2 e he; ⟨b, hb, s20 _ _ eb⟩) cx (fun q hq k hk => ?_) fun k hk => ?_) ⟨ys, upd_same, ?_⟩
    · have := box q hq k hk
      omega
    · have := top k hk
      omega
    · rw [ly]
      refine few_keys n3 ndk fun e he => ?_
      obtain ⟨r, er, qq, τ, hq, h0, hr⟩ := h1 e he
      refine ⟨r, er, fun k hk => ?_⟩
      have a := hr k hk
      have b := box qq hq k hk
      have c := top k hk
      omega
abbrev nMovP : List Str := ["points", "places", "found", "point", "full", "place"]
theorem scMovP : FnScope nMovP ["points", "places"] (defScope sMoved) := ⟨rfl, rfl, rfl, by decide +kernel, rfl, by decide +kernel, by decide +kernel⟩
theorem ok_movP {f : Addr} {fd : FuncData} (F : Fun K "_law_moved" "_law_moved" sMoved f fd) (X : ATxt mg) : FnOk P w K mg base CX0 1 f fd ["points", "places"] spMovP := by
  refine F.ok scMovP (fun vs H Q E h => ?_) (fun cdv A outer s H vs Q E hr h => ?_)
  · obtain ⟨L, b, n, k, t, ps, rfl, _⟩ := h
    rfl
  · obtain ⟨L, pc, n, k, t, ps, rfl, pp, fw, qp0, n3, k3, pb, box, q⟩ := h
    have nd := scMovP.nd
    have u1 : (A.deeper (envOfC "_law_moved" (defScope sMoved) s.heap.objs.size f cdv)).units + 1 < cLine := by have := hr.un; omega
    refine ⟨_, pss_cons (ps_set (i := 2) nd rfl (Or.inl rfl) pe_dnewT)
      (pss_cons (ps_for PassesOwn.never rfl (pi_list (pv 0)) (pg_name (i := 3) nd rfl (Or.inl rfl))
          (pss_cons (ps_set (i := 4) nd rfl (Or.inr rfl) (pe_op (r := rCatE K) op_catE (pe_tup (pa_cons pe_int pa_nil)) (pv 3)))
          (pss_one (ps_dput u1 (pv 2) (pe_callTy (r := rTupQ K) call_tuple_of (by rfl) X.tup (by decide +kernel) (pa_cons (pe_lc (own := [("place", 5)]) (g := gName 5) (tt := tYes) rfl nd (pi_tup (pv 1)) (blkOk_by (N := nMovP) (sc := defScope sMoved) (by decide +kernel))
              (fun _ _ _ _ _ => pg_name (i := 5) nd rfl (Or.inl rfl)) (fun _ _ _ _ _ => pts_nil) (fun _ _ _ _ _ => pe_ix (r := rIxT K) ix_tup (pv 4) (pv 5) (fun _ _ => rfl))) pa_nil)) pe_bl rfl))))
      (pss_one (ps_ret (pe_callB (r := SrD.rSortD) (SrD.cr_sortD rfl) (by rfl) X.sorted (by decide +kernel) (pa_cons (pv 2) pa_nil))))), ?_⟩
    refine fun Dd hDd => ?_
    have sD := same_new (o := .dT []) hDd
    have qD : (upd H Dd (.dT [])) Dd = some (.dT []) := upd_same
    generalize upd H Dd (.dT []) = H1 at sD qD
    obtain ⟨xs, qs, eP0, _, rx, cx⟩ := pp.get
    have lx : xs.length ≤ 216 := by
      obtain ⟨zs, ez, lz⟩ := fw
      rw [eP0] at ez
      cases ez
      exact lz
    refine ⟨_, rfl, L, rfl, ⟨_, SqL.of (sD _ _ eP0)⟩, ?_⟩
    refine for_it (walk_list (K := K) (a := L) (xs := xs)) (fun i σ H' => ∃ v3 v4 : Option V, σ = [some (.ref L), some (.ref pc), some (.ref Dd), v3, v4, none] ∧ Same H H' ∧ ∃ kvs : List (List Key × V), H' Dd = some (.dT kvs) ∧ kvs.length ≤ i ∧ (∀ e ∈ kvs, ∃ r, e.1 = keyL k r ∧ MovR n k t (kap ps) r) ∧ ∀ i', i' < i → ∃ e ∈ kvs, e.1 = keyL k fun s => full (qs i') (kap ps (s + 1)))
      ⟨_, _, rfl, sD, [], qD, by simp, fun e h => (List.not_mem_nil h).elim, fun i' h => by omega⟩ (fun _ _ _ _ ⟨_, _, _, s, _⟩ => SqL.of (s _ _ eP0)) ?_ ?_
    · rintro i x σ H18 H' hi ⟨v3, v4, rfl, sH, kvs, eD, lk, h1, h2⟩ ⟨rfl, hx⟩
      obtain ⟨⟨b, rfl, qb0⟩, hq⟩ := rx i x hx
      refine ⟨(by show 1 ≤ sizeLine; decide), fun z hz => ⟨_, rfl, ?_⟩⟩
      have s3 := same_new (o := .tup [.int 0]) hz
      refine cat_reads (xs := [.int 0]) (ys := rowV n (qs i)) upd_same (s3 _ _ (sH _ _ qb0)) (by rw [rowV_len]; show 1 + n ≤ 1000; omega) fun fu H4 s4 qf => ?_
      rw [rowV_full] at qf
      have s34 := s3.trans s4
      have sH := sH.trans s34
      have eD := s34 _ _ eD
      have qp := sH _ _ qp0
      clear s3 s4 s34 hz
      refine ⟨_, rfl, _, rfl, pc, rfl, ⟨_, SqT.of qp⟩, fun D hD => ?_⟩
      refine lc_ints (n := (rowV k ps).length) (walk_tup (K := K) (a := pc) (xs := rowV k ps)) (fun s => full (qs i) (kap ps (s + 1))) hD (by rw [rowV_len]; omega) (fun H8 s8 => SqT.of (s8 _ _ qp)) ?_ ?_
      · rintro s x H8 H' kT2 hs s8 ⟨rfl, hx⟩ h2
        rw [rowV_len] at hs
        rw [rowV_get hs] at hx
        cases hx
        have pbs := pb s hs
        exact ⟨rfl, _, rfl, _, rfl, fu, _, _, _, rfl, rfl, SqT.of (s8 _ _ qf), at_nn pbs.1 (rowV_get (by omega)), h2 _ (Same.refl _)⟩
      intro H8 s8 d8
      rw [rowV_len] at d8
      refine ⟨D, _, rfl, .inl ⟨SqL.of d8, fun hg hhg => ?_⟩⟩
      have s9 := s8.trans (same_new (o := .tup (rowV k fun s => full (qs i) (kap ps (s + 1)))) hhg)
      have qh : (upd H8 hg (.tup (rowV k fun s => full (qs i) (kap ps (s + 1))))) hg = some (.tup (rowV k fun s => full (qs i) (kap ps (s + 1)))) := upd_same
      generalize upd H8 hg (.tup (rowV k fun s => full (qs i) (kap ps (s + 1)))) = H9 at s9 qh
      have sH := sH.trans s9
      have eD := s9 _ _ eD
      refine ⟨_, _, rfl, DPut.t (k := keyL k fun s => full (qs i) (kap ps (s + 1))) eD (by rw [keyL_v]; exact qh) (small4000 (by omega)), ?_⟩
      refine ⟨_, _, rfl, same_own sH hDd, _, upd_same, ?_, fun e he => ?_, fun i' h => ?_⟩
      · have := put_len (kvs := kvs) (k := keyL k fun s => full (qs i) (kap ps (s + 1))) (v := .bl true)
        omega
      · rcases put_mem he with z | ⟨e', he', z⟩
        · exact ⟨_, z, qs i, hq, fun s _ => rfl⟩
        · obtain ⟨r, er, hr⟩ := h1 e' he'
          exact ⟨r, z ▸ er, hr⟩
      · by_cases z : i' = i
        · subst z
          exact put_new
        · obtain ⟨e, he, ek⟩ := h2 i' (by omega)
          obtain ⟨e', he', ek'⟩ := put_old (k := keyL k fun s => full (qs i) (kap ps (s + 1))) (v := .bl true) he
          exact ⟨e', he', ek'.trans ek⟩
    rintro σ H18 ⟨v3, v4, rfl, sH, kvs, eD, lk, h1, h2⟩
    refine ⟨_, rfl, Dd, kvs, k, rfl, eD, fun e he => ?_, fun L' ys hL ndk ly g1 g2 => ?_⟩
    · obtain ⟨r, er, _⟩ := h1 e he
      exact ⟨(List.range k).map r, by rw [er, keyL_ns], by rw [List.length_map, List.length_range]⟩
    have s20 := same_new (o := .lst ys) hL
    have few : ys.length ≤ 216 := by
      rw [ly]
      refine few_keys k3 ndk fun e he => ?_
      obtain ⟨r, er, qq, hq, hr⟩ := h1 e he
      refine ⟨r, er, fun s hs => ?_⟩
      rw [hr s hs]
      exact box qq hq s hs
    refine q L' _ (sH.trans s20) (fresh_of sH hL) ⟨ys, upd_same, by omega, fun y hy => ?_, fun r ⟨qq, hq, hr⟩ => ?_⟩ ⟨ys, upd_same, few⟩
    · obtain ⟨e, he, b, rfl, hb⟩ := g1 y hy
      obtain ⟨r, er, hr⟩ := h1 e he
      rw [er, keyL_v] at hb
      exact ⟨r, ⟨b, rfl, s20 _ _ hb⟩, hr⟩
    · obtain ⟨i, hi, ag⟩ := cx qq hq
      obtain ⟨e, he, ek⟩ := h2 i hi
      obtain ⟨b, hb, eb⟩ := g2 e he
      refine ⟨.ref b, hb, b, rfl, ?_⟩
      rw [s20 _ _ eb, ek, keyL_v]
      congr 2
      refine rowV_ext fun s hs => ?_
      rw [hr s hs]
      exact full_congr ag (kap_lt pb (s + 1) (by omega))
end
end Bd

set_option Elab.async false
set_option linter.all false
set_option maxRecDepth 100000
set_option maxHeartbeats 4000000
/-! the points that are due -/
namespace Bd
open PySem PySem.Spec PyProof.Rows L2 Wd Br TO RZ
/-- just these clocks have reached their tops -/
def DueR (n : Nat) (t : Mx) (ta : Nat → Int) (gs : List Int) (q : Nat → Int) : Prop := Has n t q ∧ ∀ k, k < n → (q k = ta k ↔ (k : Int) + 1 ∈ gs)
theorem beq_iff {a b : Bool} {p q : Prop} (ha : a = true ↔ p) (hb : b = true ↔ q) : decide (V.bl a = V.bl b) = true ↔ (p ↔ q) := by
  rw [decide_eq_true_iff, ← ha, ← hb]
  constructor
  · intro e
    injection e with e
    rw [e]
  · intro h
    congr 1
    cases a <;> cases b <;> simp_all
def spDue : Sp := fun vs H Q _ => ∃ (L c g : Addr) (n : Nat) (t : Mx) (ta : Nat → Int) (gs : List Int), vs = [.ref L, .ref c, .ref g] ∧ PtsL H L n (Has n t) ∧ Few H L ∧ H c = some (.tup (rowV n ta)) ∧ H g = some (.tup (gs.map V.int)) ∧ n ≤ 3 ∧
  ∀ L' H', Same H H' → H L' = none → PtsL H' L' n (DueR n t ta gs) → Few H' L' → Q (.ref L') H'
section
variable {P : Program} {w : World} {K : PySem.W.Frag} {mg : Str → Option Value} {base : Heap}
abbrev nDue : List Str := ["points", "tops", "gone", "found", "point", "at", "reading"]
theorem scDue : FnScope nDue ["points", "tops", "gone"] (defScope sDueNow) := ⟨rfl, rfl, rfl, by decide +kernel, rfl, by decide +kernel, by decide +kernel⟩
theorem ok_due {f : Addr} {fd : FuncData} (F : Fun K "_law_due_now" "_law_due_now" sDueNow f fd) (X : ATxt mg) : FnOk P w K mg base CX0 1 f fd ["points", "tops", "gone"] spDue := by
  refine F.ok scDue (fun vs H Q E h => ?_) (fun cdv A outer s H vs Q E hr h => ?_)
  · obtain ⟨L, c, g, n, t, ta, gs, rfl, _⟩ := h
    rfl
  · obtain ⟨L, c, g, n, t, ta, gs, rfl, pp, fw, qc0, qg0, n3, q⟩ := h
    have nd := scDue.nd
    refine ⟨_, pss_cons (ps_set (i := 3) nd rfl (Or.inl rfl) (pe_lst pa_nil))
      (pss_cons (ps_for PassesOwn.never rfl (pi_list (pv 0)) (pg_name (i := 4) nd rfl (Or.inl rfl))
          (pss_one (ps_if (pt_val (pe_callB (cr_all rfl) (by rfl) X.all (by decide +kernel) (pa_cons (pe_lc (own := [("at", 5), ("reading", 6)]) (g := gTup K 2 (gCons (gName 5) (gCons (gName 6) gNil))) (tt := tYes) rfl nd (EnT.pi_enT (by rfl) X.enum (pa_cons (pv 4) pa_nil)) (blkOk_by (N := nDue) (sc := defScope sDueNow) (by decide +kernel))
                (fun _ _ _ _ _ => pg_tup rfl (pgs_cons (pg_name (i := 5) nd rfl (Or.inl rfl)) (pgs_cons (pg_name (i := 6) nd rfl (Or.inl rfl)) pgs_nil))) (fun _ _ _ _ _ => pts_nil) (fun _ _ _ _ _ => pe_cmpR op_eq (pe_cmpR op_eq (pv 6) (pe_ix (r := rIxT K) ix_tup (pv 1) (pv 5) (fun _ _ => rfl)) (nomark _)) (pe_cmpR (r := rIn K false) op_in_seq (pe_op op_add (pv 5) pe_int) (pv 2) (by rfl)) (nomark _))) pa_nil)))
            (pss_one (ps_expr (pe_bm PySem.F.plainAttrs_list PySem.F.slot_list_append PySem.F.type_list_append mt_append (pv 3) (pa_cons (pv 4) pa_nil)))) pss_nil)))
      (pss_one (ps_ret (pv 3)))), ?_⟩
    refine ⟨(by show 0 ≤ sizeLine; decide), fun Lf hLf => ?_⟩
    have sL := same_new (o := .lst []) hLf
    have qL : (upd H Lf (.lst [])) Lf = some (.lst []) := upd_same
    generalize upd H Lf (.lst []) = H1 at sL qL
    obtain ⟨xs, qs, eP0, _, rx, cx⟩ := pp.get
    have lx : xs.length ≤ 216 := by
      obtain ⟨zs, ez, lz⟩ := fw
      rw [eP0] at ez
      cases ez
      exact lz
    refine ⟨_, rfl, L, rfl, ⟨_, SqL.of (sL _ _ eP0)⟩, ?_⟩
    refine for_it (walk_list (K := K) (a := L) (xs := xs)) (fun i σ H' => ∃ v4 : Option V, σ = [some (.ref L), some (.ref c), some (.ref g), some (.ref Lf), v4, none, none] ∧ Same H H' ∧ ∃ ys, H' Lf = some (.lst ys) ∧ ys.length ≤ i ∧ (∀ y ∈ ys, ∃ r, RowAt H' y n r ∧ DueR n t ta gs r) ∧ ∀ i', i' < i → DueR n t ta gs (qs i') → ∃ y ∈ ys, RowAt H' y n (qs i'))
      ⟨_, rfl, sL, [], qL, by simp, fun y h => (List.not_mem_nil h).elim, fun i' h => by omega⟩ (fun _ _ _ _ ⟨_, _, s, _⟩ => SqL.of (s _ _ eP0)) ?_ ?_
    · rintro i x σ H18 H' hi ⟨v4, rfl, sH, ys, eL, ly, h1, h2⟩ ⟨rfl, hx⟩
      obtain ⟨⟨b, rfl, qb0⟩, hq⟩ := rx i x hx
      have qb := sH _ _ qb0
      have qc := sH _ _ qc0
      have qg := sH _ _ qg0
      refine ⟨_, rfl, b, _, rfl, SqT.of qb, fun D hD => ?_⟩
      refine lc_bs (n := (rowV n (qs i)).length) (EnT.walk_enT (K := K) (a := b) (xs := rowV n (qs i))) (fun k => qs i k = ta k ↔ (k : Int) + 1 ∈ gs) hD (by rw [rowV_len]; omega) (fun H5 s5 => SqT.of (s5 _ _ qb)) ?_ ?_
      · rintro k y H5 H' kT hk s5 ⟨T2, x2, y2, rfl, hT2, rfl, h3, h4⟩ h
        rw [rowV_len] at hk
        have g1 : some (V.int (k : Nat)) = some x2 := h3
        have g2 : (rowV n (qs i))[k]? = some y2 := h4
        rw [rowV_get hk] at g2
        cases g1
        cases g2
        have s6 := s5.trans (same_new (o := .tup [.int (k : Nat), .int (qs i k)]) hT2)
        exact ⟨T2, _, rfl, SqT.of upd_same, rfl, _, _, rfl, _, _, rfl, rfl, rfl, _, rfl, _, rfl, _, rfl, c, _, _, _, rfl, rfl, SqT.of (s6 _ _ qc), rowV_at hk, rfl, _, rfl, _, _, rfl, rfl, _, rfl, g, _, rfl, .inr (SqT.of (s6 _ _ qg)), rfl, flat_ints, rfl, h _ _ (same_new hT2) (beq_iff (by
          rw [decide_eq_true_iff]
          exact ⟨fun e => by injection e, fun e => by rw [e]⟩) inV_ints)⟩
      rintro H22 bs s22 hD22 hall -
      refine ⟨D, bs, rfl, SqL.of hD22, _, rfl, ?_⟩
      have kp := Kp.of s22
      have sH := sH.trans s22
      have eL := s22 _ _ eL
      rw [rowV_len] at hall
      cases hbs : bs.all id with
      | true =>
        have al := hall.mp hbs
        have kp2 := kp.trans (kp_lst (ys := ys ++ [.ref b]) eL)
        refine iteT ⟨_, rfl, .inl ⟨rfl, _, SqL.of eL⟩, _, rfl, Lf, _, _, rfl, rfl, eL, small1000 (by omega), ?_⟩
        refine ⟨_, rfl, same_own sH hLf, ys ++ [.ref b], upd_same, by rw [List.length_append]; show ys.length + 1 ≤ i + 1; omega, fun y hy => ?_, fun i' h hS => ?_⟩
        · rcases List.mem_append.mp hy with hy | hy
          · obtain ⟨r, er, hr⟩ := h1 y hy
            exact ⟨r, er.mono kp2, hr⟩
          · rw [List.mem_singleton.mp hy]
            exact ⟨qs i, ⟨b, rfl, kp2.1 _ _ qb⟩, hq, al⟩
        · by_cases z : i' = i
          · subst z
            exact ⟨.ref b, List.mem_append_right _ (List.mem_singleton.mpr rfl), b, rfl, kp2.1 _ _ qb⟩
          · obtain ⟨y, hy, ry⟩ := h2 i' (by omega) hS
            exact ⟨y, List.mem_append_left _ hy, ry.mono kp2⟩
      | false =>
        refine iteF ⟨_, rfl, sH, ys, eL, by omega, fun y hy => let ⟨r, er, hr⟩ := h1 y hy; ⟨r, er.mono kp, hr⟩, fun i' h hS => ?_⟩
        by_cases z : i' = i
        · subst z
          have := hall.mpr hS.2
          rw [hbs] at this
          cases this
        · obtain ⟨y, hy, ry⟩ := h2 i' (by omega) hS
          exact ⟨y, hy, ry.mono kp⟩
    rintro σ H18 ⟨v4, rfl, sH, ys, eL, ly, h1, h2⟩
    refine ⟨_, rfl, q Lf _ sH hLf ⟨ys, eL, by omega, h1, fun r hr => ?_⟩ ⟨ys, eL, by omega⟩⟩
    obtain ⟨i, hi, ag⟩ := cx r hr.1
    have hS : DueR n t ta gs (qs i) := ⟨has_congr (fun k hk => (ag k hk).symm) hr.1, fun k hk => by rw [ag k hk]; exact hr.2 k hk⟩
    obtain ⟨y, hy, ry⟩ := h2 i hi hS
    exact ⟨y, hy, ry.ext ag⟩
end
end Bd

set_option Elab.async false
set_option linter.all false
set_option maxRecDepth 100000
set_option maxHeartbeats 4000000
/-! the bounds that are due -/
namespace Bd
open PySem PySem.Spec PyProof.Rows L2 Wd Br TO
theorem bf_no (t : Addr) {m : Str} (h : m ≠ "_rows") : (bf t).lookup m = none := by
  unfold bf
  rw [lookup_putF, if_neg h]
  rfl
/-- bounds of just the points of a set, or None without any -/
def BdOf (C : Addr) (H : Hp) (n : Nat) (R : (Nat → Int) → Prop) (v : V) : Prop := (v = .non ∧ ¬ ∃ q, R q) ∨ ∃ b u, v = .ref b ∧ BdAt C H b (n + 1) u ∧ OfR n R u
theorem cut_reads {K : PySem.W.Frag} {C CUI CIN p : Addr} {H : Hp} {n i j : Nat} {most : Int} {t : Mx} {Q : VK} {E : XK} (bd : BdAt C H p (n + 1) t) (hn : n ≤ 12) (cl : Closed (n + 1) t) (ib : InB (n + 1) t) (hi : i ≤ n) (hj : j ≤ n) (im : IsInt (.int most))
    (k : ∀ v H', Same H H' → BdOf C H' n (CutR n t i j most) v → Q v H') : spCutB K C CUI CIN [.ref p, .int (i : Int), .int (j : Int), .int most] H Q E := by
  have bt : ∀ {x : Nat}, x ≤ n → Btw (.int (x : Int)) 0 n := fun {x} hx => ⟨x, rfl, Int.lt_of_lt_of_le (by decide +kernel : -ten60 < 0) (by omega), Int.lt_of_le_of_lt (by omega : (x : Int) ≤ 12) (by decide +kernel), by omega, by omega⟩
  refine ⟨p, n, t, _, _, _, rfl, bd, hn, cl, ib, fun H' s => ⟨.inl ⟨_, rfl⟩, .inl ⟨_, rfl⟩, .inl ⟨_, rfl⟩⟩, fun nb => (nb (bt hi)).elim, fun _ nb => (nb (bt hj)).elim, fun _ _ nm => (nm im).elim, fun i' j' most' ei ej em _ _ _ => ?_⟩
  injection ei with ei
  injection ej with ej
  injection em with em
  obtain rfl : i = i' := by omega
  obtain rfl : j = j' := by omega
  subst em
  exact ⟨fun b u H' s bu ou => k _ H' s (.inr ⟨b, u, rfl, bu, ou⟩), fun H' s no => k _ H' s (.inl ⟨rfl, no⟩)⟩
theorem and_reads {K : PySem.W.Frag} {C CIO p q : Addr} {H : Hp} {n : Nat} {m1 m2 t u : Mx} {Q : VK} {E : XK} (bp : BdAt C H p (n + 1) t) (bq : BdAt C H q (n + 1) u) (hn : n ≤ 12) (it : InB (n + 1) t) (iu : InB (n + 1) u) (T1 : Tight (n + 1) m1 t) (T2 : Tight (n + 1) m2 u)
    (k : ∀ v H', Same H H' → BdOf C H' n (fun r => Has n m1 r ∧ Has n m2 r) v → Q v H') : spAndX K C CIO [.ref p, .ref q] H Q E := by
  have e : ∀ r, (Has n m1 r ∧ Has n m2 r) ↔ Has n (mn2 t u) r := fun r => (and_congr T1.has.symm T2.has.symm).trans pot_mn2.symm
  refine ⟨p, n, t, .ref q, rfl, bp, hn, it, .inl ⟨q, u, rfl, bq, iu, fun z b H' s tz bz => k _ H' s (.inr ⟨b, z, rfl, bz, (OfR.tight tz).iff e⟩), fun H' s nf => k _ H' s (.inl ⟨rfl, fun ⟨r, hr⟩ => nf (has_feas.mpr ⟨r, (e r).mp hr⟩)⟩)⟩⟩
theorem cut_readsE {K : PySem.W.Frag} {C CUI CIN p : Addr} {H : Hp} {n i j : Nat} {iv jv : V} {most : Int} {t : Mx} {Q : VK} {E : XK} (ei : iv = .int (i : Int)) (ej : jv = .int (j : Int)) (bd : BdAt C H p (n + 1) t) (hn : n ≤ 12) (cl : Closed (n + 1) t) (ib : InB (n + 1) t) (hi : i ≤ n) (hj : j ≤ n) (im : IsInt (.int most))
    (k : ∀ v H', Same H H' → BdOf C H' n (CutR n t i j most) v → Q v H') : spCutB K C CUI CIN [.ref p, iv, jv, .int most] H Q E := by
  rw [ei, ej]
  exact cut_reads bd hn cl ib hi hj im k
theorem bd_inb {n : Nat} {t : Mx} {R : (Nat → Int) → Prop} (o : OfR n R t) (h : ∀ q, R q → ∀ k, k < n → -9 ≤ q k ∧ q k ≤ 9) : InB (n + 1) t := fun i j hi hj => by
  obtain ⟨_, q, hq, e⟩ := closed_top o.1 hi hj
  have b := h q ((o.2 q).mpr hq)
  have fb : ∀ i, i < n + 1 → -9 ≤ full q i ∧ full q i ≤ 9 := fun i hi => by
    cases i with
    | zero =>
      show -9 ≤ (0 : Int) ∧ (0 : Int) ≤ 9
      exact ⟨by decide, by decide⟩
    | succ i => exact b i (by omega)
  have a := fb i hi
  have c := fb j hj
  exact ⟨Int.lt_of_lt_of_le (by decide +kernel : -ten60 < -18) (by omega), Int.lt_of_le_of_lt (by omega : t i j ≤ 18) (by decide +kernel)⟩
theorem BdOf.mono {C : Addr} {H H' : Hp} {n : Nat} {R : (Nat → Int) → Prop} {v : V} (h : BdOf C H n R v) (k : Kp H H') : BdOf C H' n R v := by
  rcases h with h | ⟨b, u, e, bd, o⟩
  · exact .inl h
  · exact .inr ⟨b, u, e, bd.mono k, o⟩
theorem BdOf.iff {C : Addr} {H : Hp} {n : Nat} {R S : (Nat → Int) → Prop} {v : V} (h : BdOf C H n R v) (e : ∀ q, S q ↔ R q) : BdOf C H n S v := by
  rcases h with ⟨rfl, no⟩ | ⟨b, u, rfl, bd, o⟩
  · exact .inl ⟨rfl, fun ⟨q, hq⟩ => no ⟨q, (e q).mp hq⟩⟩
  · exact .inr ⟨b, u, rfl, bd, o.iff e⟩
/-- .. so far -/
def DueI (n : Nat) (t : Mx) (ta : Nat → Int) (gs : List Int) (i : Nat) (q : Nat → Int) : Prop := Has n t q ∧ ∀ k, k < i → (q k = ta k ↔ (k : Int) + 1 ∈ gs)
def spCutTo (C : Addr) : Sp := fun vs H Q _ => ∃ (p c g : Addr) (n : Nat) (t : Mx) (ta : Nat → Int) (gs : List Int), vs = [.ref p, .ref c, .ref g] ∧ BdAt C H p (n + 1) t ∧ Closed (n + 1) t ∧ H c = some (.tup (rowV n ta)) ∧ H g = some (.tup (gs.map V.int)) ∧ n ≤ 3 ∧ (∀ q, Has n t q → ∀ k, k < n → 0 ≤ q k ∧ q k ≤ ta k) ∧ (∀ k, k < n → -1 ≤ ta k ∧ ta k ≤ 3) ∧
  ∀ v H', Same H H' → BdOf C H' n (DueR n t ta gs) v → Q v H'
section
variable {P : Program} {w : World} {K : PySem.W.Frag} {mg : Str → Option Value} {base : Heap} {fC C CUI CIN fI fQ : Addr}
abbrev nCutTo : List Str := ["bounds", "tops", "gone", "at", "top"]
theorem scCutTo : FnScope nCutTo ["bounds", "tops", "gone"] (defScope sCutTo) := ⟨rfl, rfl, rfl, by decide +kernel, rfl, by decide +kernel, by decide +kernel⟩
theorem ok_cutTo {f : Addr} {fd fdC : FuncData} (F : Fun K "_law_cut_to" "_law_cut_to" sCutTo f fd) (X : ATxt mg) (Y : CTxt K mg C fI fQ) (mC : Meth K C "cut" fC) (GC : FnOk P w K mg base (L2.CX P w) 6 fC fdC ["self", "i", "j", "most"] (spCutB K C CUI CIN)) (bC : Binds K fdC ["self", "i", "j", "most"] []) : FnOk P w K mg base CX0 7 f fd ["bounds", "tops", "gone"] (spCutTo C) := by
  refine F.ok scCutTo (fun vs H Q E h => ?_) (fun cdv A outer s H vs Q E hr h => ?_)
  · obtain ⟨p, c, g, n, t, ta, gs, rfl, _⟩ := h
    rfl
  · obtain ⟨p, c, g, n, t, ta, gs, rfl, bp, cl, qc0, qg0, n3, box, top, q⟩ := h
    have nd := scCutTo.nd
    have p9 : Passes (L2.CX P w) (cxOf CX0 P w K mg base nCutTo "_law_cut_to" (defScope sCutTo) f cdv A outer s H E).nox E0 := passes_call takes0 (fun _ _ _ _ h => h)
    refine ⟨_, pss_cons (ps_for PassesOwn.never rfl (EnT.pi_enT (by rfl) X.enum (pa_cons (pv 1) pa_nil)) (pg_tup rfl (pgs_cons (pg_name (i := 3) nd rfl (Or.inl rfl)) (pgs_cons (pg_name (i := 4) nd rfl (Or.inl rfl)) pgs_nil)))
          (pss_one (ps_if (PW.pt (pw_and (pt_cmp (pc_notN (pv 0)) rfl) (pw_and1 (pt_cmpR (r := rIn K false) op_in_seq (pe_op op_add (pv 3) pe_int) (pv 2) (by rfl)))))
            (pss_one (ps_set (i := 0) nd rfl (Or.inl rfl) (pe_meth (pl := _) (E := E0) (pv 0) Y.cl mC GC hr bC .nil p9 (pa_cons pe_int (pa_cons (pe_op op_add (pv 3) pe_int) (pa_cons (pe_un un_neg (pv 4)) pa_nil))))))
            (pss_one (ps_if (pt_cmp (pc_notN (pv 0)) rfl) (pss_one (ps_set (i := 0) nd rfl (Or.inl rfl) (pe_meth (pl := _) (E := E0) (pv 0) Y.cl mC GC hr bC .nil p9 (pa_cons (pe_op op_add (pv 3) pe_int) (pa_cons pe_int (pa_cons (pe_op op_sub (pv 4) pe_int) pa_nil)))))) pss_nil)))))
      (pss_one (ps_ret (pv 0))), ?_⟩
    refine ⟨_, rfl, c, _, rfl, SqT.of qc0, ?_⟩
    refine for_it (n := (rowV n ta).length) (EnT.walk_enT (K := K) (a := c) (xs := rowV n ta)) (fun i σ H' => ∃ (v : V) (v3 v4 : Option V), σ = [some v, some (.ref c), some (.ref g), v3, v4] ∧ Same H H' ∧ BdOf C H' n (DueI n t ta gs i) v)
      ⟨_, _, _, rfl, Same.refl _, .inr ⟨p, t, rfl, bp, cl, fun q => ⟨fun h => h.1, fun h => ⟨h, fun k hk => by omega⟩⟩⟩⟩ (fun _ _ _ _ ⟨_, _, _, _, s, _⟩ => SqT.of (s _ _ qc0)) ?_ ?_
    · rintro i x σ H1 H' hi ⟨v, v3, v4, rfl, sH, bo⟩ ⟨T, x1, y1, rfl, hT, rfl, h3, h4⟩
      rw [rowV_len] at hi
      have g1 : some (V.int (i : Nat)) = some x1 := h3
      have g2 : (rowV n ta)[i]? = some y1 := h4
      rw [rowV_get hi] at g2
      cases g1
      cases g2
      have sT := same_new (o := .tup [.int (i : Nat), .int (ta i)]) hT
      have qT : (upd H1 T (.tup [.int (i : Nat), .int (ta i)])) T = some (.tup [.int (i : Nat), .int (ta i)]) := upd_same
      generalize upd H1 T (.tup [.int (i : Nat), .int (ta i)]) = H2 at sT qT
      have sH := sH.trans sT
      have bo := bo.mono (Kp.of sT)
      have qg := sH _ _ qg0
      have tp := top i hi
      have ni : IsInt (.int (-ta i)) := ⟨_, rfl, Int.lt_of_lt_of_le (by decide +kernel : -ten60 < -3) (by omega), Int.lt_of_le_of_lt (by omega : -ta i ≤ 1) (by decide +kernel)⟩
      have nj : IsInt (.int (ta i - 1)) := ⟨_, rfl, Int.lt_of_lt_of_le (by decide +kernel : -ten60 < -2) (by omega), Int.lt_of_le_of_lt (by omega : ta i - 1 ≤ 2) (by decide +kernel)⟩
      refine ⟨T, _, rfl, SqT.of qT, rfl, _, _, rfl, _, _, rfl, rfl, ?_⟩
      rcases bo with ⟨rfl, no⟩ | ⟨b, u, rfl, bd, o⟩
      · have nx : BdOf C H2 n (DueI n t ta gs (i + 1)) .non := .inl ⟨rfl, fun ⟨q, hq⟩ => no ⟨q, hq.1, fun k hk => hq.2 k (by omega)⟩⟩
        refine ⟨_, rfl, _, rfl, iteF ?_⟩
        refine ⟨_, rfl, _, rfl, iteF ⟨_, _, _, rfl, sH, nx⟩⟩
      · have iu : InB (n + 1) u := bd_inb o fun q hq k hk => by
          have a := box q hq.1 k hk
          have b := top k hk
          omega
        obtain ⟨db, ab, hb, mb⟩ := id bd
        refine ⟨_, rfl, _, rfl, iteT ?_⟩
        refine ⟨_, rfl, _, _, rfl, rfl, _, rfl, g, _, rfl, .inr (SqT.of qg), rfl, flat_ints, _, rfl, ?_⟩
        have im : (if false = true then !inV (.int ((i : Int) + 1)) (gs.map V.int) else inV (.int ((i : Int) + 1)) (gs.map V.int)) = true ↔ (i : Int) + 1 ∈ gs := inV_ints
        refine ite2 (fun c => ?_) (fun c => ?_)
        · have mem := im.mp c
          refine ⟨_, rfl, b, db, _, rfl, hb, bf_no ab (by decide), _, rfl, _, _, rfl, rfl, _, rfl, _, rfl, ?_⟩
          dsimp only [tNil, List.cons_append, List.nil_append, List.append_nil]
          refine cut_readsE (i := 0) (j := i + 1) (most := -ta i) rfl rfl bd (by omega) o.1 iu (by omega) (by omega) ni fun v H3 s3 bo => ⟨_, _, _, rfl, sH.trans s3, bo.iff fun q => ?_⟩
          have bx : Has n t q → 0 ≤ q i ∧ q i ≤ ta i := fun h => box q h i hi
          have f0 : full q 0 = 0 := rfl
          have f1 : full q (i + 1) = q i := rfl
          unfold CutR
          rw [← o.2 q, f0, f1]
          constructor
          · rintro ⟨h, r⟩
            have e := (r i (by omega)).mpr mem
            exact ⟨⟨h, fun k hk => r k (by omega)⟩, by omega⟩
          · rintro ⟨⟨h, r⟩, le⟩
            refine ⟨h, fun k hk => ?_⟩
            by_cases e : k = i
            · subst e
              have := bx h
              exact ⟨fun _ => mem, fun _ => by omega⟩
            · exact r k (by omega)
        · have nm : (i : Int) + 1 ∉ gs := fun h => c (im.mpr h)
          refine ⟨_, rfl, _, rfl, iteT ?_⟩
          refine ⟨_, rfl, b, db, _, rfl, hb, bf_no ab (by decide), _, rfl, _, _, rfl, rfl, _, rfl, _, _, rfl, rfl, ?_⟩
          dsimp only [tNil, List.cons_append, List.nil_append, List.append_nil]
          refine cut_readsE (i := i + 1) (j := 0) (most := ta i - 1) rfl rfl bd (by omega) o.1 iu (by omega) (by omega) nj fun v H3 s3 bo => ⟨_, _, _, rfl, sH.trans s3, bo.iff fun q => ?_⟩
          have bx : Has n t q → 0 ≤ q i ∧ q i ≤ ta i := fun h => box q h i hi
          have f0 : full q 0 = 0 := rfl
          have f1 : full q (i + 1) = q i := rfl
          unfold CutR
          rw [← o.2 q, f0, f1]
          constructor
          · rintro ⟨h, r⟩
            have e : q i ≠ ta i := fun e => nm ((r i (by omega)).mp e)
            have := bx h
            exact ⟨⟨h, fun k hk => r k (by omega)⟩, by omega⟩
          · rintro ⟨⟨h, r⟩, le⟩
            refine ⟨h, fun k hk => ?_⟩
            by_cases e : k = i
            · subst e
              exact ⟨fun e => by omega, fun m => (nm m).elim⟩
            · exact r k (by omega)
    · rintro σ H1 ⟨v, v3, v4, rfl, sH, bo⟩
      rw [rowV_len] at bo
      exact ⟨_, rfl, q v H1 sH bo⟩
end
end Bd

set_option Elab.async false
set_option linter.all false
set_option maxRecDepth 100000
set_option maxHeartbeats 4000000
/-! drawn places -/
namespace Bd
open PySem PySem.Spec PyProof.Rows L2 Wd Br TO RZ
theorem SB.at_ {B z : Addr} {H H' : Hp} {o : HO} (b : BagAt H B) (s : SB B H H') (h : H z = some o) (no : ∀ x y w, o ≠ .lst [.int x, .int y, .int w]) : H' z = some o := s z _ (fun e => by
  obtain ⟨x, y, w, q⟩ := b
  rw [e, q] at h
  exact no _ _ _ (Option.some.inj h).symm) h
theorem seq_join {c : TT} {a u : TS} {D : Ends} {σ : L2.St} {H : Hp} (Good : L2.St → Hp → Prop) (h : ∀ nx : L2.St → Hp → Prop, (∀ σ' H', Good σ' H' → nx σ' H') → tIfS c a tNext { D with nx := nx } σ H) (k : ∀ σ' H', Good σ' H' → u D σ' H') : tSeq (tIfS c a tNext) u D σ H := h _ k
/-- places of n clocks, none of those gone, no clock twice -/
structure PlOk (n : Nat) (gs : List Int) (xs : List Int) : Prop where
  rng : ∀ x ∈ xs, 0 ≤ x ∧ x ≤ n ∧ (0 < x → x ∉ gs)
  nd : (xs.filter fun z => decide (0 < z)).Nodup
theorem PlOk.rev {n : Nat} {gs xs : List Int} (h : PlOk n gs xs) : PlOk n gs xs.reverse := by
  refine ⟨fun x hx => h.rng x (List.mem_reverse.mp hx), ?_⟩
  rw [List.filter_reverse]
  exact List.pairwise_reverse.mpr (h.nd.imp fun h e => h e.symm)
theorem PlOk.take {n : Nat} {gs xs : List Int} (h : PlOk n gs xs) (m : Nat) : PlOk n gs (xs.take m) :=
  ⟨fun x hx => h.rng x (List.mem_of_mem_take hx), h.nd.sublist ((List.take_sublist m xs).filter _)⟩
theorem PlOk.put {n : Nat} {gs xs : List Int} (h : PlOk n gs xs) (m : Nat) : PlOk n gs (xs.take m ++ [0] ++ xs.drop m) := by
  refine ⟨fun x hx => ?_, ?_⟩
  · rcases List.mem_append.mp hx with hx | hx
    · rcases List.mem_append.mp hx with hx | hx
      · exact h.rng x (List.mem_of_mem_take hx)
      · rw [List.mem_singleton.mp hx]
        exact ⟨by decide, by omega, fun z => absurd z (by decide)⟩
    · exact h.rng x (List.mem_of_mem_drop hx)
  · rw [List.filter_append, List.filter_append, show ([0] : List Int).filter (fun z => decide (0 < z)) = [] from rfl, List.append_nil, ← List.filter_append, List.take_append_drop]
    exact h.nd
theorem PlOk.row {n : Nat} {gs xs : List Int} (h : PlOk n gs xs) : ∃ ps : Nat → Int, xs.map V.int = rowV xs.length ps ∧ (∀ s, s < xs.length → 0 ≤ ps s ∧ ps s ≤ n ∧ (0 < ps s → ps s ∉ gs)) ∧ Dst xs.length ps := by
  have ex : xs = (List.range xs.length).map fun i => xs.getD i 0 := by
    apply List.ext_getElem?
    intro i
    rw [List.getElem?_map]
    by_cases hi : i < xs.length
    · rw [List.getElem?_range hi, List.getElem?_eq_getElem hi]
      show _ = some (xs.getD i 0)
      rw [List.getD_eq_getElem?_getD, List.getElem?_eq_getElem hi]
      rfl
    · rw [List.getElem?_eq_none (by omega), List.getElem?_eq_none (by rw [List.length_range]; omega)]
      rfl
  refine ⟨fun i => xs.getD i 0, ?_, fun s hs => h.rng _ ?_, nzs_nodup.mp ?_⟩
  · conv => lhs; rw [ex]
    rw [List.map_map]
    rfl
  · show xs.getD s 0 ∈ xs
    rw [List.getD_eq_getElem?_getD, List.getElem?_eq_getElem hs]
    exact List.getElem_mem hs
  · unfold nzs
    rw [← ex]
    exact h.nd
theorem cut_lo {xs : List Int} {r : Int} (h0 : 0 ≤ r) (h1 : r ≤ xs.length) : cutV (xs.map V.int) none (some r) = (xs.take r.toNat).map V.int ∧ cutV (xs.map V.int) (some r) none = (xs.drop r.toNat).map V.int := by
  obtain ⟨m, rfl⟩ := Int.eq_ofNat_of_zero_le h0
  have e1 : HT.sIx (xs.map V.int).length 0 (some (m : Int)) = m := by
    show (if ((m : Nat) : Int) < 0 then (((m : Nat) : Int) + ((xs.map V.int).length : Int)).toNat else min ((m : Nat) : Int).toNat (xs.map V.int).length) = m
    rw [if_neg (by omega), List.length_map]
    omega
  have e2 : HT.sIx (xs.map V.int).length (xs.map V.int).length (some (m : Int)) = m := by
    show (if ((m : Nat) : Int) < 0 then (((m : Nat) : Int) + ((xs.map V.int).length : Int)).toNat else min ((m : Nat) : Int).toNat (xs.map V.int).length) = m
    rw [if_neg (by omega), List.length_map]
    omega
  constructor
  · unfold cutV
    rw [e2, HT.sIx_none, List.drop_zero, Nat.sub_zero, List.map_take]
    rfl
  · unfold cutV
    rw [e1, HT.sIx_none, List.map_drop, List.take_of_length_le (by rw [List.length_drop]; exact Nat.le_refl _)]
    rfl
theorem cut_three {xs : List Int} : cutV (xs.map V.int) none (some 3) = (xs.take 3).map V.int := by
  by_cases h : 3 ≤ xs.length
  · exact (cut_lo (r := 3) (by decide) (by omega)).1
  · have e2 : HT.sIx (xs.map V.int).length (xs.map V.int).length (some (3 : Int)) = xs.length := by
      show (if (3 : Int) < 0 then ((3 : Int) + ((xs.map V.int).length : Int)).toNat else min (3 : Int).toNat (xs.map V.int).length) = xs.length
      rw [if_neg (by decide), List.length_map]
      show min 3 xs.length = xs.length
      omega
    unfold cutV
    rw [e2, HT.sIx_none, List.drop_zero, Nat.sub_zero, List.take_of_length_le (by rw [List.length_map]; exact Nat.le_refl _), List.take_of_length_le (by omega : xs.length ≤ 3)]
def spPl : Sp := fun vs H Q _ => ∃ (B g : Addr) (n : Nat) (gs : List Int), vs = [.ref B, .int (n : Int), .ref g] ∧ BagAt H B ∧ n ≤ 3 ∧ H g = some (.tup (gs.map V.int)) ∧
  ∀ (b : Addr) (k : Nat) (ps : Nat → Int) H', SB B H H' → BagAt H' B → H' b = some (.tup (rowV k ps)) → k ≤ 3 → (∀ s, s < k → 0 ≤ ps s ∧ ps s ≤ n ∧ (0 < ps s → ps s ∉ gs)) → Dst k ps → Q (.ref b) H'
section
variable {P : Program} {w : World} {K : PySem.W.Frag} {mg : Str → Option Value} {base : Heap} {fT : Addr}
abbrev nPl : List Str := ["bag", "many", "gone", "places", "turn", "at", "clock"]
theorem scPl : FnScope nPl ["bag", "many", "gone"] (defScope sPlaces) := ⟨rfl, rfl, rfl, by decide +kernel, rfl, by decide +kernel, by decide +kernel⟩
theorem ok_pl {f : Addr} {fd fdT : FuncData} (F : Fun K "_law_places" "_law_places" sPlaces f fd) (X : ATxt mg) (GT : At_ P w K mg base CX0 1 "_law_throw" fT fdT ["bag", "total"] spThrow) : FnOk P w K mg base CX0 2 f fd ["bag", "many", "gone"] spPl := by
  refine F.ok scPl (fun vs H Q E h => ?_) (fun cdv A outer s H vs Q E hr h => ?_)
  · obtain ⟨B, g, n, gs, rfl, _⟩ := h
    rfl
  · obtain ⟨B, g, n, gs, rfl, bB, n3, qg0, q⟩ := h
    have nd := scPl.nd
    refine ⟨_, pss_cons (ps_setLc (i := 3) (own := [("clock", 6)]) (g := gName 6) rfl nd rfl rfl (sw_true rfl rfl rfl (by decide +kernel)) (pi_range2 rfl X.range (pa_cons pe_int (pa_cons (pe_op op_add (pv 1) pe_int) pa_nil))) (blkOk_by (N := nPl) (sc := defScope sPlaces) (by decide +kernel))
          (fun _ _ _ _ _ => pg_name (i := 6) nd rfl (Or.inl rfl)) (fun _ _ _ _ _ => pts_one (PW.pt (pw_and (pt_cmpR (r := rIn K true) op_notIn_seq (pv 6) (pv 2) (by rfl)) (pw_and1 (pt_cmpR op_gt (pe_call GT.g hr rfl GT.m GT.kp GT.b .nil pass0 (pa_cons (pv 0) (pa_cons pe_int pa_nil))) pe_int (nomark _)))))) (fun _ _ _ _ _ => pv 6))
      (pss_cons (ps_if (pt_cmpR op_eq (pe_call GT.g hr rfl GT.m GT.kp GT.b .nil pass0 (pa_cons (pv 0) (pa_cons pe_int pa_nil))) pe_int (nomark _)) (pss_one (ps_set (i := 3) nd rfl (Or.inl rfl) (pe_revL (pv 3)))) pss_nil)
      (pss_cons (ps_for PassesOwn.never rfl (pi_range1 rfl X.range (pa_cons (pe_call GT.g hr rfl GT.m GT.kp GT.b .nil pass0 (pa_cons (pv 0) (pa_cons pe_int pa_nil))) pa_nil)) (pg_name (i := 4) nd rfl (Or.inl rfl))
          (pss_cons (ps_set (i := 5) nd rfl (Or.inl rfl) (pe_call GT.g hr rfl GT.m GT.kp GT.b .nil pass0 (pa_cons (pv 0) (pa_cons (pe_op op_add (pe_callB call_len_seq (by rfl) X.len PySem.boot_len (pa_cons (pv 3) pa_nil)) pe_int) pa_nil))))
          (pss_one (ps_set (i := 3) nd rfl (Or.inl rfl) (pe_op op_cat (pe_op op_cat (pe_slice sl_list (pv 3) po_none (po_some (pv 5))) (pe_lst (pa_cons pe_int pa_nil))) (pe_slice sl_list (pv 3) (po_some (pv 5)) po_none))))))
      (pss_one (ps_ret (pe_callTy (r := rTupQ K) call_tuple_of (by rfl) X.tup (by decide +kernel) (pa_cons (pe_slice sl_list (pv 3) po_none (po_some pe_int)) pa_nil)))))), ?_⟩
    refine ⟨_, rfl, _, _, rfl, rfl, _, _, rfl, ⟨by decide, by decide, by omega, by omega⟩, fun D hD => ?_⟩
    rw [show ((n : Int) + 1 - 1).toNat = n by omega]
    have nDB : D ≠ B := bB.ne hD
    refine lc_it (walk_range (lo := 1) (n := n)) (fun i H' => SB B H H' ∧ BagAt H' B ∧ ∃ xs : List Int, H' D = some (.lst (xs.map V.int)) ∧ xs.length ≤ i ∧ (∀ x ∈ xs, 1 ≤ x ∧ x ≤ i ∧ x ∉ gs) ∧ xs.Nodup)
      ⟨(SB.refl B H).new hD, bB.new hD, [], upd_same, Nat.le_refl _, fun x h => (List.not_mem_nil h).elim, List.nodup_nil⟩ (fun _ _ _ _ => trivial) ?_ ?_
    · rintro i x H5 H' hi ⟨s5, b5, xs, eD, lx, h1, h2⟩ ⟨rfl, rfl⟩
      have qg := SB.at_ bB s5 qg0 fun x y w e => nomatch e
      refine ⟨rfl, _, rfl, _, rfl, g, _, rfl, .inr (SqT.of qg), rfl, flat_ints, _, rfl, ?_⟩
      refine ite2 (fun c => ?_) (fun _ => iteF ⟨s5, b5, xs, eD, by omega, fun x hx => by have := h1 x hx; exact ⟨this.1, by omega, this.2.2⟩, h2⟩)
      have nm : (1 : Int) + (i : Int) ∉ gs := fun h => by
        have c : (!inV (.int (1 + (i : Int))) (gs.map V.int)) = true := c
        rw [inV_ints.mpr h] at c
        cases c
      refine ⟨_, rfl, B, 5, rfl, b5, by decide, by decide +kernel, fun r H6 r0 r1 s6 b6 => ⟨_, _, rfl, rfl, _, rfl, ?_⟩⟩
      have eD := s6 _ _ nDB eD
      refine ite2 (fun _ => ?_) (fun _ => ⟨s5.trans s6, b6, xs, eD, by omega, fun x hx => by have := h1 x hx; exact ⟨this.1, by omega, this.2.2⟩, h2⟩)
      refine ⟨_, rfl, _, eD, small1000 (by rw [List.length_map]; omega), (s5.trans s6).own hD, b6.other nDB.symm, xs ++ [1 + (i : Int)], by rw [upd_same, List.map_append]; rfl, by simp; omega, fun x hx => ?_, ?_⟩
      · rcases List.mem_append.mp hx with hx | hx
        · have := h1 x hx
          exact ⟨this.1, by omega, this.2.2⟩
        · rw [List.mem_singleton.mp hx]
          exact ⟨by omega, by omega, nm⟩
      · refine List.nodup_append.mpr ⟨h2, by simp, fun a ha b hb => ?_⟩
        rw [List.mem_singleton.mp hb]
        have := h1 a ha
        omega
    rintro H2 ⟨s2, b2, xs, eD, lx, h1, h2⟩
    have po : PlOk n gs xs := ⟨fun x hx => by have := h1 x hx; exact ⟨by omega, by omega, fun _ => this.2.2⟩, h2.filter _⟩
    dsimp only [gName]
    refine seq_join (Good := fun σ' H' => ∃ (Lp : Addr) (xs : List Int), σ' = [some (.ref B), some (.int (n : Int)), some (.ref g), some (.ref Lp), none, none, none] ∧ SB B H H' ∧ BagAt H' B ∧ Lp ≠ B ∧ H' Lp = some (.lst (xs.map V.int)) ∧ PlOk n gs xs ∧ xs.length ≤ 3) (fun nx kx => ?_) ?_
    · refine ⟨_, rfl, B, 3, rfl, b2, by decide, by decide +kernel, fun r H3 r0 r1 s3 b3 => ⟨rfl, _, rfl, ?_⟩⟩
      have eD := s3 _ _ nDB eD
      refine ite2 (fun _ => ?_) (fun _ => kx _ _ ⟨D, xs, rfl, s2.trans s3, b3, nDB, eD, po, by omega⟩)
      refine ⟨_, rfl, D, _, rfl, SqL.of eD, fun R hR => kx _ _ ⟨R, xs.reverse, rfl, (s2.trans s3).new hR, b3.new hR, b3.ne hR, by rw [upd_same, List.map_reverse], po.rev, by rw [List.length_reverse]; omega⟩⟩
    rintro σ' H3 ⟨Lp, xs, rfl, s3, b3, nLB, eL, po, lx⟩
    refine ⟨_, rfl, B, 3, rfl, b3, by decide, by decide +kernel, fun r H4 r0 r1 s4 b4 => ?_⟩
    obtain ⟨k4, rfl⟩ := Int.eq_ofNat_of_zero_le r0
    refine ⟨_, rfl, by omega, by omega, ?_⟩
    rw [Int.toNat_natCast]
    refine for_it (walk_rng (n := k4)) (fun i σ H' => ∃ (v4 v5 : Option V) (Lp : Addr) (xs : List Int), σ = [some (.ref B), some (.int (n : Int)), some (.ref g), some (.ref Lp), v4, v5, none] ∧ SB B H H' ∧ BagAt H' B ∧ Lp ≠ B ∧ H' Lp = some (.lst (xs.map V.int)) ∧ PlOk n gs xs ∧ xs.length ≤ 3 + i)
      ⟨_, _, Lp, xs, rfl, s3.trans s4, b4, nLB, s4 _ _ nLB eL, po, lx⟩ (fun _ _ _ _ _ => trivial) ?_ ?_
    · rintro i x σ H5 H' hi ⟨v4, v5, Lp, xs, rfl, s5, b5, nLB, eL, po, lx⟩ ⟨rfl, rfl⟩
      refine ⟨_, rfl, _, rfl, Lp, _, rfl, .inl (SqL.of eL), _, _, rfl, rfl, B, _, rfl, b5, by omega, ?_, fun r H6 r0 r1 s6 b6 => ?_⟩
      · rw [List.length_map]
        exact Int.le_trans (by omega : (xs.length : Int) + 1 ≤ 10) (by decide +kernel)
      rw [List.length_map] at r1
      obtain ⟨c1, c2⟩ := cut_lo (xs := xs) r0 (by omega)
      have eL := s6 _ _ nLB eL
      refine ⟨_, rfl, _, rfl, _, rfl, Lp, _, rfl, SqL.of eL, fun p1 hp1 => ⟨(by show 1 ≤ sizeLine; decide), fun p2 hp2 => ?_⟩⟩
      rw [c1] at hp2 ⊢
      have s7 := same_new (o := .lst ((xs.take r.toNat).map V.int)) hp1
      have e1 : (upd H6 p1 (.lst ((xs.take r.toNat).map V.int))) p1 = some (.lst ((xs.take r.toNat).map V.int)) := upd_same
      generalize upd H6 p1 (.lst ((xs.take r.toNat).map V.int)) = G1 at s7 e1 hp2
      have s8 := same_new (o := .lst [.int 0]) hp2
      have e2 : (upd G1 p2 (.lst [.int 0])) p2 = some (.lst [.int 0]) := upd_same
      generalize upd G1 p2 (.lst [.int 0]) = G2 at s8 e2
      have lt : (xs.take r.toNat).length ≤ xs.length := by rw [List.length_take]; omega
      have ld : (xs.drop r.toNat).length = xs.length - r.toNat := List.length_drop
      refine ⟨p1, p2, _, _, rfl, rfl, s8 _ _ e1, e2, Nat.le_of_lt (small1000 (by rw [List.length_map]; show (xs.take r.toNat).length + 1 ≤ 1000; omega)), fun p3 hp3 => ?_⟩
      have e12 : (xs.take r.toNat).map V.int ++ [V.int 0] = (xs.take r.toNat ++ [0]).map V.int := by rw [List.map_append]; rfl
      rw [e12]
      have s9 := same_new (o := .lst ((xs.take r.toNat ++ [0]).map V.int)) hp3
      have e3 : (upd G2 p3 (.lst ((xs.take r.toNat ++ [0]).map V.int))) p3 = some (.lst ((xs.take r.toNat ++ [0]).map V.int)) := upd_same
      generalize upd G2 p3 (.lst ((xs.take r.toNat ++ [0]).map V.int)) = G3 at s9 e3
      have s69 := (s7.trans s8).trans s9
      refine ⟨_, rfl, _, rfl, _, rfl, Lp, _, rfl, SqL.of (s69 _ _ eL), fun p4 hp4 => ?_⟩
      rw [c2]
      have s10 := same_new (o := .lst ((xs.drop r.toNat).map V.int)) hp4
      have e4 : (upd G3 p4 (.lst ((xs.drop r.toNat).map V.int))) p4 = some (.lst ((xs.drop r.toNat).map V.int)) := upd_same
      generalize upd G3 p4 (.lst ((xs.drop r.toNat).map V.int)) = G4 at s10 e4
      have lt2 : (xs.take r.toNat).length = r.toNat := by rw [List.length_take]; omega
      refine ⟨p3, p4, _, _, rfl, rfl, s10 _ _ e3, e4, Nat.le_of_lt (small1000 (by rw [List.length_map, List.length_map, List.length_append]; show (xs.take r.toNat).length + 1 + (xs.drop r.toNat).length ≤ 1000; omega)), fun p5 hp5 => ?_⟩
      have s610 := s69.trans s10
      refine ⟨_, _, p5, xs.take r.toNat ++ [0] ++ xs.drop r.toNat, rfl, ((s5.trans s6).trans (SB.of s610)).new hp5, (b6.of s610).new hp5, (b6.of s610).ne hp5, by rw [upd_same]; exact congrArg (fun l => some (HO.lst l)) List.map_append.symm, po.put _, ?_⟩
      rw [List.length_append, List.length_append]
      show (xs.take r.toNat).length + 1 + (xs.drop r.toNat).length ≤ 3 + (i + 1)
      omega
    rintro σ H5 ⟨v4, v5, Lp, xs, rfl, s5, b5, nLB, eL, po, lx⟩
    refine ⟨_, rfl, _, rfl, Lp, _, rfl, SqL.of eL, fun p1 hp1 => ?_⟩
    rw [cut_three]
    refine ⟨p1, _, rfl, .inl ⟨SqL.of upd_same, fun b hb => ?_⟩⟩
    obtain ⟨ps, er, h1, h2⟩ := (po.take 3).row
    refine q b (xs.take 3).length ps _ ((s5.new hp1).new hb) ((b5.new hp1).new hb) (by rw [upd_same, er]) (by rw [List.length_take]; omega) h1 h2
end
end Bd

set_option Elab.async false
set_option linter.all false
set_option maxRecDepth 100000
set_option maxHeartbeats 4000000
/-! a history -/
namespace Br
open PySem PySem.Spec PyProof.Rows L2
/-- v not in o, o of an own class -/
theorem op_notIn_own {X : Cx} {CX : CXT} {k : Nat} {C f : Addr} {fd : FuncData} {ps : List Str} {sp : Sp} {E : XK} (D : OO.Dun X.K C "__contains__" f) (F : FnOk X.prog X.w X.K X.mg X.base CX k f fd ps sp) (hr : Room k X.A) (hb : Binds X.K fd ps []) (hx : Passes CX X E) :
    OpR X (compareOp .NotIn) (fun x y H Q => ∃ a dx fs, y = .ref a ∧ H a = some (.ins C dx fs) ∧ sp [.ref a, x] H (fun z H' => ∃ c, z = .bl c ∧ Q (.bl (!c)) H') E) := by
  intro pins s σ H x y v u Q I rx ry ⟨a, dx, fs, ey, ha, h⟩
  subst ey
  cases ry
  obtain ⟨mA, J, _⟩ := ins_get I.hok ha
  obtain ⟨od, J, _⟩ := J.look
  obtain ⟨m, hF⟩ := I.fr
  refine PySem.W.notIn_K hF I.ok.mod.kin J D.at_ D.fn ?_
  refine wpAny_mono (OO.run_own (vs := [.ref a, x]) F hr hb hx I (.cons rfl (.cons rx .nil)) h) (fun v s' z => ?_) fun _ _ z => z
  obtain ⟨y, H', I', ry, c, ey, q⟩ := z
  subst ey
  cases ry
  exact wpAny_truthy_bool ⟨.bl (!c), H', I', rfl, q⟩
end Br
namespace Bd
open PySem PySem.Spec PyProof.Rows L2 Wd Br TO RZ
/-- a pair that is told: bounds and just their points -/
def TOk (C : Addr) (H : Hp) (Lt : Addr) (x : V) : Prop := ∃ (z p L : Addr) (n : Nat) (t : Mx), x = .ref z ∧ H z = some (.tup [.ref p, .ref L]) ∧ n ≤ 12 ∧ BdAt C H p (n + 1) t ∧ PtsL H L n (Has n t) ∧ L ≠ Lt ∧ Closed (n + 1) t
theorem TOk.kp {C : Addr} {H H' : Hp} {Lt : Addr} {x : V} (h : TOk C H Lt x) (k : Kp H H') (e : ∀ L xs, L ≠ Lt → H L = some (.lst xs) → H' L = some (.lst xs)) : TOk C H' Lt x := by
  obtain ⟨z, p, L, n, t, e1, e2, e3, e4, e5, e6, e7⟩ := h
  exact ⟨z, p, L, n, t, e1, k.1 _ _ e2, e3, e4.mono k, e5.kp k fun xs => e L xs e6, e6, e7⟩
/-- where a history stands -/
structure HS (C Lt : Addr) (H : Hp) (n : Nat) (t : Mx) (ta : Nat → Int) (p L c : Addr) : Prop where
  n3 : n ≤ 3
  bd : BdAt C H p (n + 1) t
  cl : Closed (n + 1) t
  pp : PtsL H L n (Has n t)
  fw : Few H L
  nL : L ≠ Lt
  qc : H c = some (.tup (rowV n ta))
  box : ∀ q, Has n t q → ∀ k, k < n → 0 ≤ q k ∧ q k ≤ ta k
  top : ∀ k, k < n → ta k ≤ 3
theorem HS.kp {C Lt : Addr} {H H' : Hp} {n : Nat} {t : Mx} {ta : Nat → Int} {p L c : Addr} (h : HS C Lt H n t ta p L c) (k : Kp H H') (e : ∀ L xs, L ≠ Lt → H L = some (.lst xs) → H' L = some (.lst xs)) : HS C Lt H' n t ta p L c :=
  ⟨h.n3, h.bd.mono k, h.cl, h.pp.kp k fun xs => e L xs h.nL, h.fw.kp fun xs => e L xs h.nL, h.nL, k.1 _ _ h.qc, h.box, h.top⟩
theorem HS.same {C Lt : Addr} {H H' : Hp} {n : Nat} {t : Mx} {ta : Nat → Int} {p L c : Addr} (h : HS C Lt H n t ta p L c) (s : Same H H') : HS C Lt H' n t ta p L c := h.kp (Kp.of s) fun _ _ _ e => s _ _ e
theorem HS.ne {C Lt : Addr} {H : Hp} {n : Nat} {t : Mx} {ta : Nat → Int} {p L c : Addr} (h : HS C Lt H n t ta p L c) : ∃ q, Has n t q := has_feas.mp (closed_feas h.cl (by omega))
theorem HS.lo {C Lt : Addr} {H : Hp} {n : Nat} {t : Mx} {ta : Nat → Int} {p L c : Addr} (h : HS C Lt H n t ta p L c) : ∀ k, k < n → -1 ≤ ta k ∧ ta k ≤ 3 := fun k hk => by
  obtain ⟨q, hq⟩ := h.ne
  have := h.box q hq k hk
  exact ⟨by omega, h.top k hk⟩
/-- what the way of a step leaves: those gone, the points, the bounds -/
structure Mid (C : Addr) (H : Hp) (n : Nat) (ta : Nat → Int) (g : Addr) (gs : List Int) (L p : Addr) (u : Mx) : Prop where
  qg : H g = some (.tup (gs.map V.int))
  pp : PtsL H L n (Has n u)
  fw : Few H L
  bd : BdAt C H p (n + 1) u
  cl : Closed (n + 1) u
  box : ∀ q, Has n u q → ∀ k, k < n → 0 ≤ q k ∧ q k ≤ 4 ∧ ((k : Int) + 1 ∉ gs → q k ≤ ta k)
theorem Mid.kp {C : Addr} {H H' : Hp} {n : Nat} {ta : Nat → Int} {g : Addr} {gs : List Int} {L p : Addr} {u : Mx} (h : Mid C H n ta g gs L p u) (k : Kp H H') (e : ∀ xs, H L = some (.lst xs) → H' L = some (.lst xs)) : Mid C H' n ta g gs L p u :=
  ⟨k.1 _ _ h.qg, h.pp.kp k e, h.fw.kp e, h.bd.mono k, h.cl, h.box⟩
theorem Mid.of {C Lt : Addr} {H : Hp} {n : Nat} {t : Mx} {ta : Nat → Int} {p L c g : Addr} (h : HS C Lt H n t ta p L c) (qg : H g = some (.tup [])) : Mid C H n ta g [] L p t :=
  ⟨qg, h.pp, h.fw, h.bd, h.cl, fun q hq k hk => by
    have a := h.box q hq k hk
    have b := h.top k hk
    exact ⟨a.1, by omega, fun _ => a.2⟩⟩
structure LTxt5 (mg : Str → Option Value) : Prop where
  len : mg "len" = none
  range : mg "range" = none
  max : mg "max" = none
  min : mg "min" = none
  tup : mg "tuple" = none
  all : mg "all" = none
section
variable {P : Program} {w : World} {K : PySem.W.Frag} {mg : Str → Option Value} {base : Heap} {fA fT fD fCt fO fPl fMv fS fRs fI fQ fZ pZ fMo fRi fLe fN fAn fSh C CIB CIN CIO : Addr}
abbrev nLaw5 : List Str := ["script", "bounds", "points", "tops", "told", "at", "bag", "way", "gone", "later", "shown", "places", "least", "clock", "point", "reading", "place", "spot", "one", "some"]
theorem scLaw5 : FnScope nLaw5 ["script"] (defScope sLaw) := ⟨rfl, rfl, rfl, by decide +kernel, rfl, by decide +kernel, by decide +kernel⟩
theorem ok_law5 {f : Addr} {fd fdA fdT fdD fdCt fdO fdPl fdMv fdS fdRs fdZ fdMo fdRi fdLe fdN fdAn fdSh : FuncData} (F : Fun K "law" "law" sLaw f fd) (X : LTxt5 mg) (Y : CTxt K mg C fI fQ)
    (GA : At_ P w K mg base CX0 1 "_law_start" fA fdA ["script", "at"] (spStart K)) (GT : At_ P w K mg base CX0 1 "_law_throw" fT fdT ["bag", "total"] spThrow) (GD : At_ P w K mg base CX0 1 "_law_due_now" fD fdD ["points", "tops", "gone"] spDue) (GC : At_ P w K mg base CX0 7 "_law_cut_to" fCt fdCt ["bounds", "tops", "gone"] (spCutTo C))
    (GO : At_ P w K mg base CX0 4 "_law_is_of" fO fdO ["bounds", "points"] (spIsOf C)) (GPl : At_ P w K mg base CX0 2 "_law_places" fPl fdPl ["bag", "many", "gone"] spPl) (GMv : At_ P w K mg base CX0 1 "_law_moved" fMv fdMv ["points", "places"] spMovP) (GS : At_ P w K mg base CX0 2 "_law_same" fS fdS ["one", "other"] spSame1) (GRs : At_ P w K mg base CX0 1 "_law_risen" fRs fdRs ["points", "tops"] spRisP)
    (cr : ClX.CRead K C (.type "type")) (cm : ClX.CMet K C (.type "type") "zero" pZ fZ) (GZ : FnOk P w K mg base (L2.CX P w) 6 fZ fdZ ["cls", "many"] (spZeroB K C CIN)) (bZ : Binds K fdZ ["cls", "many"] [])
    (mM : Meth K C "moved" fMo) (GM : FnOk P w K mg base (L2.CX P w) 6 fMo fdMo ["self", "places"] (spMovB K C CIB)) (bM : Binds K fdMo ["self", "places"] []) (mR : Meth K C "risen" fRi) (GRi : FnOk P w K mg base (L2.CX P w) 6 fRi fdRi ["self", "tops"] (spRisB K C CIB)) (bR : Binds K fdRi ["self", "tops"] [])
    (mL : Meth K C "least" fLe) (GL : FnOk P w K mg base CX0 1 fLe fdLe ["self"] (spLeast C)) (bL : Binds K fdLe ["self"] []) (DN : OO.Dun K C "__contains__" fN) (GN : FnOk P w K mg base CX0 3 fN fdN ["self", "value"] (spConB C)) (bN : Binds K fdN ["self", "value"] [])
    (DA : OO.Dun K C "__and__" fAn) (sf : PySem.W.selfFirst K C = true) (GAn : FnOk P w K mg base (L2.CX P w) 6 fAn fdAn ["self", "other"] (spAndX K C CIO)) (bAn : Binds K fdAn ["self", "other"] [])
    (DS : OO.Dun K C "__rshift__" fSh) (BS : OO.BinT K C .RShift "int") (GSh : FnOk P w K mg base (L2.CX P w) 6 fSh fdSh ["self", "time"] (spShrB K C CIN)) (bSh : Binds K fdSh ["self", "time"] []) : GnOk P w K mg base CX0 8 f fd ["script"] (Bd.spLaw K) := by
  have FZ : FnR P w K mg base (L2.CX P w) 6 fZ (spZeroB K C CIN) := by
    have := GZ.raw (ds := []) (dvs := []) bZ .nil
    exact this.imp fun vs H Q E h => by rw [List.append_nil]; exact h
  refine gn_of F scLaw5 (fun vs H Q E h => ?_) (fun cdv A outer s H vs Q E hgd hr h => ?_)
  · obtain ⟨a, ns, rfl, _⟩ := h
    rfl
  · obtain ⟨a, ns, rfl, hS, hn, q⟩ := h
    have nd := scLaw5.nd
    have hr1 : Room 1 _ := hr.mono (by decide)
    have hr2 : Room 2 _ := hr.mono (by decide)
    have hr3 : Room 3 _ := hr.mono (by decide)
    have hr4 : Room 4 _ := hr.mono (by decide)
    have hr6 : Room 6 _ := hr.mono (by decide)
    have p9 : Passes (L2.CX P w) (cxOf CX0 P w K mg base nLaw5 "law" (defScope sLaw) f cdv A outer s H E).nox E0 := passes_call takes0 (fun _ _ _ _ h => h)
    refine ⟨_, pss_cons (ps_asg (pe_tup (pa_cons (ClX.pe_cmeth (pl := _) (E := E0) (pe_gcon rfl ⟨_, Y.mgC, (show RelV (.ref C) (.ref C) from rfl)⟩) cr cm FZ hr6 p9 (pa_cons pe_int pa_nil)) (pa_cons (pe_lst (pa_cons (pe_tup pa_nil) pa_nil)) (pa_cons (pe_tup pa_nil) (pa_cons (pe_lst pa_nil) pa_nil)))))
          (pg_tup (by rfl) (pgs_cons (pg_name (i := 1) nd rfl (Or.inl rfl)) (pgs_cons (pg_name (i := 2) nd rfl (Or.inr rfl)) (pgs_cons (pg_name (i := 3) nd rfl (Or.inr rfl)) (pgs_cons (pg_name (i := 4) nd rfl (Or.inl rfl)) pgs_nil))))))
      (pss_cons (ps_for PassesOwn.never rfl (pi_range1 rfl X.range (pa_cons (pe_callB (call_max2 rfl) (by rfl) X.max (by decide +kernel) (pa_cons pe_int (pa_cons (pe_callB call_len_seq (by rfl) X.len PySem.boot_len (pa_cons (pv 0) pa_nil)) pa_nil))) pa_nil)) (pg_name (i := 5) nd rfl (Or.inl rfl))
          (pss_cons (ps_set (i := 6) nd rfl (Or.inr rfl) (pe_call GA.g hr1 rfl GA.m GA.kp GA.b .nil pass0 (pa_cons (pv 0) (pa_cons (pv 5) pa_nil))))
          (pss_cons (ps_asg (pe_tup (pa_cons (pe_call GT.g hr1 rfl GT.m GT.kp GT.b .nil pass0 (pa_cons (pv 6) (pa_cons pe_int pa_nil))) (pa_cons (pe_tup pa_nil) (pa_cons (pv 2) (pa_cons (pv 1) pa_nil))))) (pg_tup (by rfl) (pgs_cons (pg_name (i := 7) nd rfl (Or.inl rfl)) (pgs_cons (pg_name (i := 8) nd rfl (Or.inl rfl)) (pgs_cons (pg_name (i := 9) nd rfl (Or.inl rfl)) (pgs_cons (pg_name (i := 10) nd rfl (Or.inl rfl)) pgs_nil))))))
          (pss_cons (ps_if (pt_cmpR op_eq (pv 7) pe_int (nomark _))
            (pss_cons (ps_set (i := 8) nd rfl (Or.inl rfl) (pe_callTy (r := rTupQ K) call_tuple_of (by rfl) X.tup (by decide +kernel) (pa_cons (pe_lc (own := [("clock", 13)]) (g := gName 13) rfl nd (pi_range2 rfl X.range (pa_cons pe_int (pa_cons (pe_op op_add (pe_callB call_len_seq (by rfl) X.len PySem.boot_len (pa_cons (pv 3) pa_nil)) pe_int) pa_nil))) (blkOk_by (N := nLaw5) (sc := defScope sLaw) (by decide +kernel))
                (fun _ _ _ _ _ => pg_name (i := 13) nd rfl (Or.inl rfl)) (fun _ _ _ _ _ => pts_one (pt_cmpR op_eq (pe_call GT.g hr1 rfl GT.m GT.kp GT.b .nil pass0 (pa_cons (pv 6) (pa_cons pe_int pa_nil))) pe_int (nomark _))) (fun _ _ _ _ _ => pv 13)) pa_nil)))
            (pss_cons (ps_set (i := 9) nd rfl (Or.inl rfl) (pe_call GD.g hr1 rfl GD.m GD.kp GD.b .nil pass0 (pa_cons (pv 2) (pa_cons (pv 3) (pa_cons (pv 8) pa_nil)))))
            (pss_cons (ps_set (i := 10) nd rfl (Or.inl rfl) (pe_call GC.g hr rfl GC.m GC.kp GC.b .nil pass0 (pa_cons (pv 1) (pa_cons (pv 3) (pa_cons (pv 8) pa_nil)))))
            (pss_cons (ps_if (pt_not (pt_val (pe_call GO.g hr4 rfl GO.m GO.kp GO.b .nil pass0 (pa_cons (pv 10) (pa_cons (pv 9) pa_nil))))) (pss_one (ps_ret pe_bl)) pss_nil)
            (pss_one (ps_if (pt_cmpR (op_eqD hr.units) (pv 9) (pe_lst pa_nil) (nomark _))
              (pss_one (ps_par3 (i := 8) (j := 9) (l := 10) (by rfl) nd rfl rfl rfl (by decide) (by decide) (by decide) rfl rfl rfl (pa_cons (pe_tup pa_nil) (pa_cons (pv 2) (pa_cons (pv 1) pa_nil))) (by rfl)))
              (pss_cons (ps_setLc (i := 9) (own := [("point", 14)]) (g := gName 14) (tt := tYes) rfl nd rfl rfl (sw_true rfl rfl rfl (by decide +kernel)) (pi_list (pv 9)) (blkOk_by (N := nLaw5) (sc := defScope sLaw) (by decide +kernel))
                  (fun _ _ _ _ _ => pg_name (i := 14) nd rfl (Or.inl rfl)) (fun _ _ _ _ _ => pts_nil) (fun _ _ _ _ _ => pe_callTy (r := rTupQ K) call_tuple_of (by rfl) X.tup (by decide +kernel) (pa_cons (pe_lc (own := [("reading", 15)]) (g := gName 15) (tt := tYes) rfl nd (show PI _ _ _ (iTup K (tVar 14)) from pi_tup (pv 14)) (blkOk_by (N := nLaw5) (by rfl))
                    (fun _ _ _ _ _ => pg_name (i := 15) nd rfl (Or.inl rfl)) (fun _ _ _ _ _ => pts_nil) (fun _ _ _ _ _ => pe_op op_add (pv 15) pe_int)) pa_nil)))
              (pss_one (ps_set (i := 10) nd rfl (Or.inl rfl) (pe_op (OO.op_with (E := E0) (op := .RShift) (T := "int") DS sf BS GSh hr6 bSh p9) (pv 10) pe_int))))))))))
            pss_nil)
          (pss_cons (ps_set (i := 11) nd rfl (Or.inl rfl) (pe_call GPl.g hr2 rfl GPl.m GPl.kp GPl.b .nil pass0 (pa_cons (pv 6) (pa_cons (pe_callB call_len_seq (by rfl) X.len PySem.boot_len (pa_cons (pv 3) pa_nil)) (pa_cons (pv 8) pa_nil)))))
          (pss_cons (ps_set (i := 3) nd rfl (Or.inr rfl) (pe_callTy (r := rTupQ K) call_tuple_of (by rfl) X.tup (by decide +kernel) (pa_cons (pe_lc (own := [("place", 16)]) (g := gName 16) (tt := tYes) rfl nd (pi_tup (pv 11)) (blkOk_by (N := nLaw5) (sc := defScope sLaw) (by decide +kernel))
              (fun _ _ _ _ _ => pg_name (i := 16) nd rfl (Or.inl rfl)) (fun _ _ _ _ _ => pts_nil) (fun _ _ _ _ _ => pe_ifExp (pt_cmpR op_gt (pv 16) pe_int (nomark _)) (pe_ix (r := rIxT K) ix_tup (pv 3) (pe_op op_sub (pv 16) pe_int) (fun _ _ => rfl)) (pe_call GT.g hr1 rfl GT.m GT.kp GT.b .nil pass0 (pa_cons (pv 6) (pa_cons pe_int pa_nil))))) pa_nil)))
          (pss_cons (ps_asg (pe_tup (pa_cons (pe_meth (pl := _) (E := E0) (pv 10) Y.cl mM GM hr6 bM .nil p9 (pa_cons (pv 11) pa_nil)) (pa_cons (pe_call GMv.g hr1 rfl GMv.m GMv.kp GMv.b .nil pass0 (pa_cons (pv 9) (pa_cons (pv 11) pa_nil))) pa_nil))) (pg_tup (by rfl) (pgs_cons (pg_name (i := 1) nd rfl (Or.inl rfl)) (pgs_cons (pg_name (i := 2) nd rfl (Or.inr rfl)) pgs_nil))))
          (pss_cons (ps_set (i := 12) nd rfl (Or.inl rfl) (pe_callTy (r := rTupQ K) call_tuple_of (by rfl) X.tup (by decide +kernel) (pa_cons (pe_lc (own := [("spot", 17)]) (g := gName 17) (tt := tYes) rfl nd (pi_range1 rfl X.range (pa_cons (pe_callB call_len_seq (by rfl) X.len PySem.boot_len (pa_cons (pv 3) pa_nil)) pa_nil)) (blkOk_by (N := nLaw5) (sc := defScope sLaw) (by decide +kernel))
              (fun _ _ _ _ _ => pg_name (i := 17) nd rfl (Or.inr rfl)) (fun _ _ _ _ _ => pts_nil) (fun _ _ _ _ _ => pe_callB (r := rMin K) (cr_min rfl) (by rfl) X.min (by decide +kernel) (pa_cons (pe_lc (own := [("point", 14)]) (g := gName 14) (tt := tYes) rfl nd (pi_listK (K := K) rfl (pv 2)) (blkOk_by (N := nLaw5) (by rfl))
                (fun _ _ _ _ _ => pg_name (i := 14) nd rfl (Or.inl rfl)) (fun _ _ _ _ _ => pts_nil) (fun _ _ _ _ _ => pe_ix (r := rIxT K) ix_tup (pv 14) (pv 17) (fun _ _ => rfl))) pa_nil))) pa_nil)))
          (pss_cons (ps_if (PW.pt (pw_or (pt_not (pt_val (pe_call GO.g hr4 rfl GO.m GO.kp GO.b .nil pass0 (pa_cons (pv 1) (pa_cons (pv 2) pa_nil))))) (pw_or (pt_not (pt_val (pe_call GS.g hr2 rfl GS.m GS.kp GS.b .nil pass0 (pa_cons (pe_meth0 (pv 1) Y.cl mL GL hr1 bL .nil pass0) (pa_cons (pv 12) pa_nil))))) (pw_or1 (pt_cmpR (op_notIn_own DN GN hr3 bN pass0) (pv 12) (pv 1) (by rfl)))))) (pss_one (ps_ret pe_bl)) pss_nil)
          (pss_cons (ps_asg (pe_tup (pa_cons (pe_meth (pl := _) (E := E0) (pv 1) Y.cl mR GRi hr6 bR .nil p9 (pa_cons (pv 3) pa_nil)) (pa_cons (pe_call GRs.g hr1 rfl GRs.m GRs.kp GRs.b .nil pass0 (pa_cons (pv 2) (pa_cons (pv 3) pa_nil))) pa_nil))) (pg_tup (by rfl) (pgs_cons (pg_name (i := 1) nd rfl (Or.inl rfl)) (pgs_cons (pg_name (i := 2) nd rfl (Or.inr rfl)) pgs_nil))))
          (pss_cons (ps_if (PW.pt (pw_or (pt_not (pt_val (pe_call GO.g hr4 rfl GO.m GO.kp GO.b .nil pass0 (pa_cons (pv 1) (pa_cons (pv 2) pa_nil))))) (pw_or1 (pt_not (pt_val (pe_call GO.g hr4 rfl GO.m GO.kp GO.b .nil pass0 (pa_cons (pe_op (OO.op_same (E := E0) (op := .BitAnd) DA sf GAn hr6 bAn p9) (pv 1) (pv 1)) (pa_cons (pv 2) pa_nil)))))))) (pss_one (ps_ret pe_bl)) pss_nil)
          (pss_one (ps_expr (pe_bm PySem.F.plainAttrs_list PySem.F.slot_list_append PySem.F.type_list_append mt_append (pv 4) (pa_cons (pe_tup (pa_cons (pv 1) (pa_cons (pv 2) pa_nil))) pa_nil)))))))))))))))
      (pss_one (ps_ret (pe_callB (cr_all rfl) (by rfl) X.all (by decide +kernel) (pa_cons (pe_lc (own := [("one", 18), ("some", 19)]) (g := gTup K 2 (gCons (gName 18) (gCons (gName 19) gNil))) (tt := tYes) rfl nd (pi_list (pv 4)) (blkOk_by (N := nLaw5) (sc := defScope sLaw) (by decide +kernel))
          (fun _ _ _ _ _ => pg_tup rfl (pgs_cons (pg_name (i := 18) nd rfl (Or.inl rfl)) (pgs_cons (pg_name (i := 19) nd rfl (Or.inl rfl)) pgs_nil))) (fun _ _ _ _ _ => pts_nil) (fun _ _ _ _ _ => pe_call GO.g hr4 rfl GO.m GO.kp GO.b .nil pass0 (pa_cons (pv 18) (pa_cons (pv 19) pa_nil)))) pa_nil))))), ?_⟩
    -- the start
    refine ⟨rfl, .int 0, rfl, .inl ⟨_, rfl⟩, fun nn => (nn ⟨0, rfl, by decide⟩).elim, fun k' zb H1 ek hk s1 bz => ?_⟩
    obtain rfl : k' = 0 := by
      injection ek with ek
      omega
    refine ⟨(by show 0 ≤ sizeLine; decide), fun z1 hz1 => ⟨(by show 1 ≤ sizeLine; decide), fun L0 hL0 => ⟨(by show 0 ≤ sizeLine; decide), fun c0 hc0 => ⟨(by show 0 ≤ sizeLine; decide), fun Lt hLt => ⟨(by show 4 ≤ sizeLine; decide), fun z2 hz2 => ?_⟩⟩⟩⟩⟩
    have t1 := same_new (o := .tup []) hz1
    have g1 : (upd H1 z1 (.tup [])) z1 = some (.tup []) := upd_same
    generalize upd H1 z1 (.tup []) = G1 at *
    have t2 := same_new (o := .lst [.ref z1]) hL0
    have g2 : (upd G1 L0 (.lst [.ref z1])) L0 = some (.lst [.ref z1]) := upd_same
    generalize upd G1 L0 (.lst [.ref z1]) = G2 at *
    have t3 := same_new (o := .tup []) hc0
    have g3 : (upd G2 c0 (.tup [])) c0 = some (.tup []) := upd_same
    generalize upd G2 c0 (.tup []) = G3 at *
    have nLt : H Lt = none := fresh_of (((s1.trans t1).trans t2).trans t3) hLt
    have n0t : L0 ≠ Lt := fun e => by
      have := t3 _ _ g2
      rw [e, hLt] at this
      cases this
    have t4 := same_new (o := .lst []) hLt
    have g4 : (upd G3 Lt (.lst [])) Lt = some (.lst []) := upd_same
    generalize upd G3 Lt (.lst []) = G4 at *
    have t5 := same_new (o := .tup [.ref zb, .ref L0, .ref c0, .ref Lt]) hz2
    have g5 : (upd G4 z2 (.tup [.ref zb, .ref L0, .ref c0, .ref Lt])) z2 = some (.tup [.ref zb, .ref L0, .ref c0, .ref Lt]) := upd_same
    generalize upd G4 z2 (.tup [.ref zb, .ref L0, .ref c0, .ref Lt]) = G5 at *
    have t15 := (((t1.trans t2).trans t3).trans t4).trans t5
    have hs : HS C Lt G5 0 zeroM (fun _ => 0) zb L0 c0 := by
      have e2 := t5 _ _ (t4 _ _ (t3 _ _ g2))
      have e1 := t5 _ _ (t4 _ _ (t3 _ _ (t2 _ _ g1)))
      refine ⟨by decide, bz.mono (Kp.of t15), zero_closed 1, ⟨_, e2, by show 1 ≤ 2000; decide, fun x hx => ⟨fun _ => 0, ?_, fun i j hi hj => ?_⟩, fun q _ => ⟨_, .head _, z1, rfl, e1⟩⟩, ⟨_, e2, by show 1 ≤ 216; decide⟩, n0t, t5 _ _ (t4 _ _ g3), fun _ _ k hk => by omega, fun k hk => by omega⟩
      · rw [List.mem_singleton.mp hx]
        exact ⟨z1, rfl, e1⟩
      · obtain rfl : i = 0 := by omega
        obtain rfl : j = 0 := by omega
        decide
    refine ⟨z2, _, rfl, SqT.of g5, rfl, _, _, rfl, _, _, rfl, _, _, rfl, _, _, rfl, rfl, ?_⟩
    have sG5 := s1.trans t15
    refine ⟨_, rfl, a, _, rfl, .inl (sG5.seq hS), _, _, rfl, ?_⟩
    rw [List.length_map]
    obtain ⟨N, hN, N63⟩ : ∃ N : Nat, (if (ns.length : Int) > 1 then (ns.length : Int) else 1) = (N : Int) ∧ N ≤ 63 := by
      by_cases h : (ns.length : Int) > 1
      · exact ⟨ns.length, if_pos h, hn⟩
      · exact ⟨1, if_neg h, by decide⟩
    rw [hN]
    refine ⟨_, rfl, by omega, by omega, ?_⟩
    rw [Int.toNat_natCast]
    have g4 := t5 _ _ g4
    clear t1 t2 t3 t4 t5 g1 g2 g3 g5 t15 bz hz1 hL0 hc0 hLt hz2 n0t hN s1
    refine for_it (walk_rng (n := N)) (fun i σ H' => ∃ (v5 v6 v7 v8 v9 v10 v11 v12 : Option V) (n : Nat) (t : Mx) (ta : Nat → Int) (p L c : Addr) (ts : List V), σ = [some (.ref a), some (.ref p), some (.ref L), some (.ref c), some (.ref Lt), v5, v6, v7, v8, v9, v10, v11, v12, none, none, none, none, none, none, none] ∧
      Same H H' ∧ HS C Lt H' n t ta p L c ∧ H' Lt = some (.lst ts) ∧ ts.length ≤ i ∧ ∀ x ∈ ts, TOk C H' Lt x)
      ⟨_, _, _, _, _, _, _, _, 0, zeroM, fun _ => 0, zb, L0, c0, [], rfl, sG5, hs, g4, Nat.le_refl _, fun x h => (List.not_mem_nil h).elim⟩ (fun _ _ _ _ _ => trivial) ?_ ?_
    · rintro i x σ H1 H' hi ⟨v5, v6, v7, v8, v9, v10, v11, v12, n, t, ta, p, L, c, ts, rfl, sH, hs, eT, lt, tok⟩ ⟨rfl, rfl⟩
      refine ⟨_, rfl, _, rfl, a, ns, i, rfl, sH.seq hS, fun H2 B s2 hB b2 => ?_⟩
      have nBT : B ≠ Lt := fun e => by
        rw [e, eT] at hB
        cases hB
      -- the four
      refine ⟨_, rfl, B, 3, rfl, b2, by decide, by decide +kernel, fun way H3 r0 r1 s3 b3 => ⟨(by show 0 ≤ sizeLine; decide), fun g0 hg0 => ⟨_, rfl, _, rfl, (by show 4 ≤ sizeLine; decide), fun z hz => ?_⟩⟩⟩
      have s13 : Same H' H3 := same_bag (Same.refl _) hB s2 s3
      have s14 := s13.trans (same_new (o := .tup []) hg0)
      have b4 := b3.new (o := .tup []) hg0
      have e0 : (upd H3 g0 (.tup [])) g0 = some (.tup []) := upd_same
      generalize upd H3 g0 (.tup []) = H4 at s14 b4 e0 hz
      have s15 := s14.trans (same_new (o := .tup [.int way, .ref g0, .ref L, .ref p]) hz)
      have b5 := b4.new (o := .tup [.int way, .ref g0, .ref L, .ref p]) hz
      have e0 := same_new (o := .tup [.int way, .ref g0, .ref L, .ref p]) hz _ _ e0
      have ez : (upd H4 z (.tup [.int way, .ref g0, .ref L, .ref p])) z = some (.tup [.int way, .ref g0, .ref L, .ref p]) := upd_same
      generalize upd H4 z (.tup [.int way, .ref g0, .ref L, .ref p]) = H5 at s15 b5 e0 ez
      refine ⟨z, _, rfl, SqT.of ez, rfl, _, _, rfl, _, _, rfl, _, _, rfl, _, _, rfl, rfl, ?_⟩
      clear s14 b4 s13 b3 s3 b2 s2 hz hg0 ez r0 r1
      dsimp only
      have nLB : L ≠ B := fun e => by
        obtain ⟨zs, ez, _⟩ := hs.fw
        rw [e, hB] at ez
        cases ez
      have n12 : n ≤ 12 := Nat.le_trans hs.n3 (by decide)
      refine seq_join (Good := fun σ' H6 => ∃ (g L' p' : Addr) (gs : List Int) (u : Mx), σ' = [some (.ref a), some (.ref p), some (.ref L), some (.ref c), some (.ref Lt), some (.int (i : Int)), some (.ref B), some (.int way), some (.ref g), some (.ref L'), some (.ref p'), v11, v12, none, none, none, none, none, none, none] ∧
        Same H' H6 ∧ BagAt H6 B ∧ L' ≠ B ∧ Mid C H6 n ta g gs L' p' u) (fun nx kx => ?_) ?_
      · refine ⟨_, rfl, rfl, _, rfl, ?_⟩
        refine ite2 (fun _ => ?_) (fun _ => kx _ _ ⟨g0, L, p, [], t, rfl, s15, b5, nLB, Mid.of (hs.same s15) e0⟩)
        refine ⟨_, rfl, c, _, rfl, .inr (SqT.of (s15 _ _ hs.qc)), _, _, rfl, rfl, _, _, rfl, ⟨by decide, by decide, by rw [rowV_len]; omega, by rw [rowV_len]; omega⟩, fun D hD => ?_⟩
        rw [rowV_len, show ((n : Int) + 1 - 1).toNat = n by omega]
        have nD : H' D = none := fresh_of s15 hD
        have nDB : D ≠ B := b5.ne hD
        refine lc_it (walk_range (lo := 1) (n := n)) (fun j Hx => Same H' Hx ∧ BagAt Hx B ∧ ∃ gs : List Int, Hx D = some (.lst (gs.map V.int)) ∧ gs.length ≤ j) ⟨same_own s15 nD, b5.new hD, [], upd_same, Nat.le_refl _⟩ (fun _ _ _ _ => trivial) ?_ ?_
        · rintro j x H6 Hy hj ⟨s6, b6, gs, eD, lg⟩ ⟨rfl, rfl⟩
          refine ⟨rfl, _, rfl, B, 2, rfl, b6, by decide, by decide +kernel, fun r H7 r0 r1 s7 b7 => ⟨rfl, _, rfl, ?_⟩⟩
          have s67 := same_bag (Same.refl _) hB s6 s7
          have eD := s7 _ _ nDB eD
          refine ite2 (fun _ => ?_) (fun _ => ⟨s67, b7, gs, eD, by omega⟩)
          exact ⟨_, rfl, _, eD, small1000 (by rw [List.length_map]; omega), same_own s67 nD, b7.other nDB.symm, gs ++ [1 + (j : Int)], by rw [upd_same, List.map_append]; rfl, by simp; omega⟩
        rintro H6 ⟨s6, b6, gs, eD, lg⟩
        refine ⟨D, _, rfl, .inl ⟨SqL.of eD, fun g hg => ?_⟩⟩
        have s7 := s6.trans (same_new (o := .tup (gs.map V.int)) hg)
        have b7 := b6.new (o := .tup (gs.map V.int)) hg
        have qg : (upd H6 g (.tup (gs.map V.int))) g = some (.tup (gs.map V.int)) := upd_same
        generalize upd H6 g (.tup (gs.map V.int)) = H7 at s7 b7 qg
        clear eD b6 s6 hg hD nD nDB
        have h7 := hs.same s7
        refine ⟨_, rfl, _, rfl, _, rfl, L, c, g, n, t, ta, gs, rfl, h7.pp, h7.fw, h7.qc, qg, hs.n3, fun Ld H8 s8 hLd pd fd => ?_⟩
        have h8 := h7.same s8
        refine ⟨_, rfl, _, rfl, _, rfl, p, c, g, n, t, ta, gs, rfl, h8.bd, hs.cl, h8.qc, s8 _ _ qg, hs.n3, hs.box, hs.lo, fun v H9 s9 bo => ?_⟩
        refine ⟨_, rfl, _, rfl, v, Ld, n, DueR n t ta gs, rfl, n12, pd.same s9, bo, fun H10 s10 => ⟨true, rfl, iteF ?_⟩⟩
        have s810 := s9.trans s10
        have pd := pd.same s810
        have fd := fd.kp fun xs e => s810 _ _ e
        have bo := bo.mono (Kp.of s10)
        have s1 := s7.trans (s8.trans s810)
        have b10 := b7.of (s8.trans s810)
        have qg := s810 _ _ (s8 _ _ qg)
        have nLdB : Ld ≠ B := b7.ne hLd
        clear s810 s10 s9 s8 s7 h7 h8 hLd b7
        refine ⟨_, rfl, (by show 0 ≤ sizeLine; decide), fun z hz => ?_⟩
        have s2 := same_new (o := .lst []) hz
        have ez : (upd H10 z (.lst [])) z = some (.lst []) := upd_same
        generalize upd H10 z (.lst []) = H11 at s2 ez
        have pd := pd.same s2
        have fd := fd.kp fun xs e => s2 _ _ e
        have bo := bo.mono (Kp.of s2)
        have s1 := s1.trans s2
        have b11 := b10.of s2
        have qg := s2 _ _ qg
        obtain ⟨xs, qs, eL, lx, rx, cx⟩ := pd.get
        refine ⟨_, .list [], pts_dp eL fun i x e => (rx i x e).1, .lst (SqL.of ez) .nil, pts_shaped _ _ _, by decide, _, rfl, ?_⟩
        rw [eqv_nil]
        clear ez s2 hz b10
        refine ite2 (fun _ => ?_) (fun ne => ?_)
        · refine ⟨(by show 0 ≤ sizeLine; decide), fun g1 hg1 => ⟨_, rfl, _, rfl, _, _, _, rfl, kx _ _ ⟨g1, L, p, [], t, rfl, s1.trans (same_new hg1), b11.new hg1, nLB, Mid.of (hs.same (s1.trans (same_new hg1))) upd_same⟩⟩⟩
        have pos : 0 < xs.length := Nat.pos_of_ne_zero fun z => ne (decide_eq_true z)
        have e0 := List.getElem?_eq_getElem pos
        rcases bo with ⟨_, no⟩ | ⟨b, u, rfl, bd, ou⟩
        · exact (no ⟨_, (rx 0 _ e0).2⟩).elim
        refine ⟨_, rfl, Ld, rfl, ⟨_, SqL.of eL⟩, fun L2 hL2 => ?_⟩
        refine lc_keepW (walk_list (K := K) (a := Ld) (xs := xs)) (fun i H y => RowAt H y n fun k => qs i k + 1) (fun _ _ _ _ k r => r.mono k) hL2 (by omega) (fun H2 s2 => SqL.of (s2 _ _ eL)) ?_ ?_
        · rintro j x H12 Hy kT hj s12 ⟨rfl, hx⟩ h
          obtain ⟨⟨b', rfl, qb⟩, _⟩ := rx j x hx
          have qb := s12 _ _ qb
          refine ⟨rfl, _, rfl, b', rfl, ⟨_, SqT.of qb⟩, fun D hD => ?_⟩
          refine lc_ints (n := (rowV n (qs j)).length) (walk_tup (K := K) (a := b') (xs := rowV n (qs j))) (fun k => qs j k + 1) hD (by rw [rowV_len]; omega) (fun H7 s7 => SqT.of (s7 _ _ qb)) ?_ ?_
          · rintro k x H7 Hz kT2 hk s7 ⟨rfl, hx⟩ h2
            rw [rowV_len] at hk
            rw [rowV_get hk] at hx
            cases hx
            exact ⟨rfl, _, rfl, _, _, rfl, rfl, h2 _ (Same.refl _)⟩
          · intro H7 s7 hD7
            rw [rowV_len] at hD7
            exact ⟨D, _, rfl, .inl ⟨SqL.of hD7, fun l hl => h _ _ (s7.trans (same_new hl)) ⟨l, rfl, upd_same⟩⟩⟩
        intro H12 ys s12 eY ly ry
        have nL2B : L2 ≠ B := b11.ne hL2
        have pl : PtsL H12 L2 n (LatP n u 1) := ptsL_of eY ly (by omega) ry (fun j hj => ⟨qs j, (ou.2 _).mp (rx j _ (List.getElem?_eq_getElem hj)).2, fun k _ => rfl⟩) fun r ⟨q', hq, e⟩ => by
          obtain ⟨j, hj, ag⟩ := cx q' ((ou.2 _).mpr hq)
          exact ⟨j, hj, fun k hk => by rw [ag k hk, e k hk]⟩
        have fl : Few H12 L2 := ⟨ys, eY, by
          obtain ⟨zs, ez, lz⟩ := fd
          rw [eL] at ez
          cases ez
          omega⟩
        have bd := bd.mono (Kp.of s12)
        obtain ⟨db, ab, hb, mb⟩ := id bd
        have lo := later_of (τ := 1) ou.1
        have bx : ∀ r, LatP n u 1 r → ∀ k, k < n → 0 ≤ r k ∧ r k ≤ 4 ∧ ((k : Int) + 1 ∉ gs → r k ≤ ta k) := fun r ⟨q', hq, e⟩ k hk => by
          have hd := (ou.2 _).mpr hq
          have a := hs.box q' hd.1 k hk
          have b := hs.top k hk
          have c := hd.2 k hk
          have e := e k hk
          refine ⟨by omega, by omega, fun nm => ?_⟩
          have : q' k ≠ ta k := fun z => nm (c.mp z)
          omega
        have ib := bd_inb lo fun r hr k hk => by
          have := bx r hr k hk
          omega
        refine ⟨_, rfl, b, db, _, rfl, .int _, hb, b, n, u, .int 1, rfl, bd, n12, ou.1, fun _ _ => .inl ⟨_, rfl⟩, fun no => (no ⟨1, rfl, ⟨1, rfl, by decide +kernel, by decide +kernel⟩, by decide⟩).elim, fun τ' e no => ?_, fun τ' b' H13 e h0 _ s13 bd' => ?_⟩
        · injection e with e
          subst e
          exact (no ib).elim
        injection e with e
        subst e
        have s1' := s1.trans (s12.trans s13)
        exact kx _ _ ⟨g, L2, b', gs, laterM u 1, rfl, s1', b11.of (s12.trans s13), nL2B, s13 _ _ (s12 _ _ qg), (pl.same s13).iff fun r => (lo.2 r).symm, fl.kp fun xs e => s13 _ _ e, bd', lo.1, fun r hr => bx r ((lo.2 r).mpr hr)⟩
      · rintro σ' H6 ⟨g, Lm, pu, gs, u, rfl, s6, b6, nLm, M⟩
        clear s15 b5 e0
        -- places
        refine ⟨_, rfl, _, rfl, c, _, rfl, .inr (SqT.of (s6 _ _ hs.qc)), _, rfl, B, g, n, gs, (by rw [rowV_len]; rfl), b6, hs.n3, M.qg, fun pb k ps H7 s7 b7 qp k3 pr ds => ?_⟩
        have kp7 := Kp.sb b6 s7
        have M := M.kp kp7 fun xs e => s7 _ _ nLm e
        have s7' := same_bag (Same.refl _) hB s6 s7
        have h7 := hs.same s7'
        clear s7 s6 b6 kp7
        -- tops
        refine ⟨_, rfl, pb, rfl, ⟨_, SqT.of qp⟩, fun D hD => ?_⟩
        have nD : H' D = none := fresh_of s7' hD
        refine lc_sb (n := (rowV k ps).length) (walk_tup (K := K) (a := pb) (xs := rowV k ps)) (fun s Hx y => ∃ z : Int, y = .int z ∧ (0 < ps s → z = ta (ps s - 1).toNat) ∧ (ps s = 0 → 0 ≤ z ∧ z ≤ 3)) (fun _ _ _ _ _ h => h) hD b7 (by rw [rowV_len]; omega) (fun Hx sx => SqT.of ((Kp.sb b7 sx).1 _ _ qp)) ?_ ?_
        · rintro s x Hx Hy kT hs' sx bx ⟨rfl, hx⟩ h
          rw [rowV_len] at hs'
          rw [rowV_get hs'] at hx
          cases hx
          have pp := pr s hs'
          refine ⟨rfl, _, rfl, _, _, rfl, rfl, _, rfl, ?_⟩
          refine ite2 (fun z => ?_) (fun z => ?_)
          · have z : 0 < ps s := of_decide_eq_true z
            have lt : (ps s - 1).toNat < n := by omega
            exact ⟨_, rfl, _, rfl, _, _, rfl, rfl, c, _, _, _, rfl, rfl, SqT.of ((Kp.sb b7 sx).1 _ _ h7.qc), at_nn (by omega) (rowV_get lt), h _ _ (SB.refl _ _) bx ⟨_, rfl, fun _ => rfl, fun e => by omega⟩⟩
          · have z : ¬ 0 < ps s := fun h => z (decide_eq_true h)
            exact ⟨_, rfl, B, 4, rfl, bx, by decide, by decide +kernel, fun r H9 r0 r1 s9 b9 => h _ _ s9 b9 ⟨r, rfl, fun e => (z e).elim, fun _ => ⟨r0, by omega⟩⟩⟩
        intro H8 ys s8 b8 d8 l8 r8
        rw [rowV_len] at l8
        obtain ⟨tb, rfl, htb⟩ : ∃ tb : Nat → Int, ys = rowV k tb ∧ ∀ s, s < k → (0 < ps s → tb s = ta (ps s - 1).toNat) ∧ (ps s = 0 → 0 ≤ tb s ∧ tb s ≤ 3) := by
          refine ⟨fun j => match ys[j]? with | some (.int z) => z | _ => 0, rowV_of l8 fun s y e => ?_, fun s hs' => ?_⟩
          · obtain ⟨z, rfl, _⟩ := r8 s y e
            show V.int z = V.int (match ys[s]? with | some (.int z) => z | _ => 0)
            rw [e]
          · have e := List.getElem?_eq_getElem (l := ys) (i := s) (by omega)
            obtain ⟨z, ez, h1, h2⟩ := r8 s _ e
            rw [ez] at e
            show (0 < ps s → (match ys[s]? with | some (.int z) => z | _ => 0) = ta (ps s - 1).toNat) ∧ (ps s = 0 → 0 ≤ (match ys[s]? with | some (.int z) => z | _ => 0) ∧ (match ys[s]? with | some (.int z) => z | _ => 0) ≤ 3)
            rw [e]
            exact ⟨h1, h2⟩
        have kp8 := Kp.sb b7 s8
        have M := M.kp kp8 fun xs e => s8 _ _ nLm e
        have qp := kp8.1 _ _ qp
        have s8' := same_bag (Same.refl _) hB s7' s8
        refine ⟨D, _, rfl, .inl ⟨SqL.of d8, fun ct hct => ?_⟩⟩
        have s9 := same_new (o := .tup (rowV k tb)) hct
        have qct : (upd H8 ct (.tup (rowV k tb))) ct = some (.tup (rowV k tb)) := upd_same
        generalize upd H8 ct (.tup (rowV k tb)) = H9 at s9 qct
        have M := M.kp (Kp.of s9) fun xs e => s9 _ _ e
        have qp := s9 _ _ qp
        have sH9 := s8'.trans s9
        have b9 := b8.of s9
        clear s9 hct d8 l8 r8 s8 s8' kp8 b8 b7 hD nD s7'
        have tb3 : ∀ s, s < k → tb s ≤ 3 := fun s hs' => by
          have a := pr s hs'
          have b := htb s hs'
          rcases (show 0 < ps s ∨ ps s ≤ 0 by omega) with z | z
          · rw [b.1 z]
            exact hs.top _ (by omega)
          · exact (b.2 (by omega)).2
        -- what is moved
        have pb2 : ∀ s, s < k → 0 ≤ ps s ∧ ps s ≤ n := fun s hs' => ⟨(pr s hs').1, (pr s hs').2.1⟩
        have mo := moved_of M.cl (kap_lt pb2) rfl
        have at_ps : ∀ q : Nat → Int, Has n u q → ∀ s, s < k → 0 ≤ full q (kap ps (s + 1)) ∧ full q (kap ps (s + 1)) ≤ 4 ∧ full q (kap ps (s + 1)) ≤ tb s := fun q hq s hs' => by
          have a := pr s hs'
          have b := htb s hs'
          have e : kap ps (s + 1) = (ps s).toNat := rfl
          rw [e]
          rcases (show 0 < ps s ∨ ps s ≤ 0 by omega) with z | z
          · have e1 : (ps s).toNat = (ps s - 1).toNat + 1 := by omega
            have lt : (ps s - 1).toNat < n := by omega
            rw [e1]
            show 0 ≤ q (ps s - 1).toNat ∧ q (ps s - 1).toNat ≤ 4 ∧ q (ps s - 1).toNat ≤ tb s
            have d := M.box q hq _ lt
            rw [b.1 z]
            refine ⟨d.1, d.2.1, d.2.2 ?_⟩
            rw [show (((ps s - 1).toNat : Nat) : Int) + 1 = ps s by omega]
            exact a.2.2 z
          · have e0 : (ps s).toNat = 0 := by omega
            rw [e0]
            show 0 ≤ (0 : Int) ∧ (0 : Int) ≤ 4 ∧ (0 : Int) ≤ tb s
            exact ⟨by decide, by decide, (b.2 (by omega)).1⟩
        have box2 : ∀ q, Has k (movedM u (kap ps)) q → ∀ s, s < k → 0 ≤ q s ∧ q s ≤ tb s := fun q hq s hs' => by
          obtain ⟨q0, h0, e⟩ := (mo.2 q).mpr hq
          have := at_ps q0 h0 s hs'
          rw [e s hs']
          exact ⟨this.1, this.2.2⟩
        have iu : InB (n + 1) u := bd_inb (R := Has n u) ⟨M.cl, fun _ => Iff.rfl⟩ fun q hq k hk => by
          have := M.box q hq k hk
          omega
        have k12 : k ≤ 12 := by omega
        obtain ⟨dp, az, hp, mp⟩ := id M.bd
        refine ⟨_, rfl, pu, dp, _, rfl, hp, bf_no az (by decide), _, rfl, pu, n, u, .ref pb, 20, 2, rfl, M.bd, n12, M.cl, iu, by decide, .tup (by simp) qp (by rw [rowV_len]; omega) (fun x hx => by obtain ⟨k, _, rfl⟩ := rowV_mem hx; exact .int _), fun no => (no ⟨pb, k, ps, rfl, qp, k12, pb2, ds⟩).elim, fun b k' ps' e hb hk pb' ds' c2 H10 s10 bc => ?_⟩
        cases e
        have ev : rowV k ps = rowV k' ps' := by
          rw [qp] at hb
          injection (Option.some.inj hb)
        have ek : k = k' := by
          have := congrArg List.length ev
          rwa [rowV_len, rowV_len] at this
        subst ek
        have ag : ∀ s, s < k → ps' s = ps s := fun s hs => (rowV_inj ev hs).symm
        have em : EqM (k + 1) (movedM u (kap ps')) (movedM u (kap ps)) := fun i j hi hj => by
          show u (kap ps' i) (kap ps' j) = u (kap ps i) (kap ps j)
          rw [kap_congr ag hi, kap_congr ag hj]
        have bc : BdAt C H10 c2 (k + 1) (movedM u (kap ps)) := by
          obtain ⟨d4, a4, h4, m4⟩ := bc
          exact ⟨d4, a4, h4, m4.ext em⟩
        clear em ag ev hb pb' ds' hp mp
        have M := M.kp (Kp.of s10) fun xs e => s10 _ _ e
        refine ⟨_, rfl, _, rfl, Lm, pb, n, k, u, ps, rfl, M.pp, M.fw, s10 _ _ qp, hs.n3, k3, pb2, fun q hq s hs' => ⟨(at_ps q hq s hs').1, (at_ps q hq s hs').2.1⟩, fun L3 H11 s11 hL3 pm fm => ⟨(by show 2 ≤ sizeLine; decide), fun z hz => ?_⟩⟩
        have s12 := same_new (o := .tup [.ref c2, .ref L3]) hz
        have ez : (upd H11 z (.tup [.ref c2, .ref L3])) z = some (.tup [.ref c2, .ref L3]) := upd_same
        generalize upd H11 z (.tup [.ref c2, .ref L3]) = H12 at s12 ez
        refine ⟨z, _, rfl, SqT.of ez, rfl, _, _, rfl, _, _, rfl, rfl, ?_⟩
        have sH12 := sH9.trans ((s10.trans s11).trans s12)
        have b12 := b9.of ((s10.trans s11).trans s12)
        have nL3 : L3 ≠ Lt := fun e => by
          have := s10 _ _ (sH9 _ _ eT)
          rw [← e, hL3] at this
          cases this
        -- a state of its own: what is moved
        have h2 : HS C Lt H12 k (movedM u (kap ps)) tb c2 L3 ct := ⟨k3, bc.mono (Kp.of (s11.trans s12)), mo.1, (pm.same s12).iff fun q => (mo.2 q).symm, fm.kp fun xs e => s12 _ _ e, nL3, ((s10.trans s11).trans s12) _ _ qct, box2, tb3⟩
        generalize movedM u (kap ps) = t2 at h2
        clear ez s12 s11 s10 hL3 pm fm bc M qp qct box2 tb3 iu at_ps mo pb2 b9 sH9 htb ds pr
        -- least
        obtain ⟨xs, qs, eP, _, rx, cx⟩ := h2.pp.get
        have lx : xs.length ≤ 216 := by
          obtain ⟨zs, ez, lz⟩ := h2.fw
          rw [eP] at ez
          cases ez
          exact lz
        have pos : 0 < xs.length := by
          obtain ⟨q0, h0⟩ := h2.ne
          obtain ⟨i, hi, _⟩ := cx q0 h0
          omega
        have lo2 : ∀ s, s < k → (∀ q, Has k t2 q → -t2 0 (s + 1) ≤ q s) ∧ ∃ q, Has k t2 q ∧ q s = -t2 0 (s + 1) := fun s hs' => by
          obtain ⟨up, q0, hq0, eq0⟩ := closed_top h2.cl (i := 0) (j := s + 1) (by omega) (by omega)
          have f1 : ∀ q : Nat → Int, full q (s + 1) = q s := fun _ => rfl
          have f0 : ∀ q : Nat → Int, full q 0 = 0 := fun _ => rfl
          refine ⟨fun q hq => ?_, q0, hq0, ?_⟩
          · have := up q hq
            rw [f0, f1] at this
            omega
          · rw [f0, f1] at eq0
            omega
        refine ⟨_, rfl, ct, _, rfl, .inr (SqT.of h2.qc), _, rfl, by rw [rowV_len]; omega, by rw [rowV_len]; omega, fun D hD => ?_⟩
        rw [rowV_len, Int.toNat_natCast]
        refine lc_ints (walk_rng (n := k)) (fun s => -t2 0 (s + 1)) hD (by omega) (fun _ _ => trivial) ?_ ?_
        · rintro s x H13 Hy kT hs' s13 ⟨rfl, rfl⟩ h
          have eP := s13 _ _ eP
          refine ⟨rfl, _, rfl, L3, rfl, ⟨_, SqL.of eP⟩, fun D3 hD3 => ?_⟩
          refine lc_intsW (n := xs.length) (walk_list (K := K) (a := L3) (xs := xs)) (fun i => qs i s) hD3 (by omega) (fun H6 s6 => SqL.of (s6 _ _ eP)) ?_ ?_
          · rintro i y H6 Hz kT2 hi' s6 ⟨rfl, hy⟩ h2'
            obtain ⟨⟨b, rfl, qb⟩, _⟩ := rx i y hy
            exact ⟨rfl, _, rfl, _, rfl, b, _, _, _, rfl, rfl, SqT.of (s6 _ _ (s13 _ _ qb)), rowV_at hs', h2' _ (Same.refl _)⟩
          · intro H6 s6 eD6
            have e : rowV xs.length (fun i => qs i s) = ((List.range xs.length).map fun i => qs i s).map V.int := by
              unfold rowV
              rw [List.map_map]
              rfl
            refine ⟨D3, (List.range xs.length).map fun i => qs i s, rfl, SqL.of (by rw [eD6, e]), by rw [List.length_map, List.length_range]; exact pos, fun z hz hle => ?_⟩
            obtain ⟨lo, q0, hq0, eq0⟩ := lo2 s hs'
            have z1 : -t2 0 (s + 1) ≤ z := by
              obtain ⟨i, hi', rfl⟩ := List.mem_map.mp hz
              have hi' := List.mem_range.mp hi'
              exact lo (qs i) (rx i _ (List.getElem?_eq_getElem hi')).2
            have z2 : z ≤ -t2 0 (s + 1) := by
              obtain ⟨i, hi', ag⟩ := cx q0 hq0
              have := hle _ (List.mem_map.mpr ⟨i, List.mem_range.mpr hi', rfl⟩)
              rw [ag s hs', eq0] at this
              exact this
            obtain rfl : z = -t2 0 (s + 1) := Int.le_antisymm z2 z1
            exact h _ s6
        intro H13 s13 eD
        refine ⟨D, _, rfl, .inl ⟨SqL.of eD, fun lc hlc => ?_⟩⟩
        have s14 := s13.trans (same_new (o := .tup (rowV k fun s => -t2 0 (s + 1))) hlc)
        have ql : (upd H13 lc (.tup (rowV k fun s => -t2 0 (s + 1)))) lc = some (.tup (rowV k fun s => -t2 0 (s + 1))) := upd_same
        generalize upd H13 lc (.tup (rowV k fun s => -t2 0 (s + 1))) = H14 at s14 ql
        have h2 := h2.same s14
        have sH14 := sH12.trans s14
        have b14 := b12.of s14
        clear eD hlc s13 hD s14 sH12 b12 eP rx cx
        -- the first test
        refine ⟨_, rfl, _, rfl, .ref c2, L3, k, Has k t2, rfl, k12, h2.pp, .inr ⟨c2, t2, rfl, h2.bd, h2.cl, fun _ => Iff.rfl⟩, fun H15 s15 => ⟨true, rfl, iteF ?_⟩⟩
        have h2 := h2.same s15
        have ql := s15 _ _ ql
        obtain ⟨dp, az, hp, mp⟩ := id h2.bd
        refine ⟨_, rfl, c2, dp, _, rfl, hp, bf_least az, c2, k, t2, rfl, h2.bd, k12, fun b3 H16 s16 q3 => ⟨_, rfl, b3, lc, k, k, _, _, rfl, q3, s16 _ _ ql, by omega, fun b4 H17 s17 hb4 => ?_⟩⟩
        obtain rfl : b4 = true := hb4.mpr ⟨rfl, fun _ _ => rfl⟩
        refine ⟨true, rfl, iteF ?_⟩
        have s167 := s16.trans s17
        have h2 := h2.same s167
        have ql := s167 _ _ ql
        have hp := s167 _ _ hp
        have inp : InP H17 k t2 (.ref lc) := ⟨lc, _, rfl, ql, fun s hs' => by
          obtain ⟨_, q0, hq0, eq0⟩ := lo2 s hs'
          have b := h2.box q0 hq0 s hs'
          have c := h2.top s hs'
          rw [← eq0]
          exact ⟨Int.lt_of_lt_of_le (by decide +kernel : -ten60 < 0) b.1, Int.lt_of_le_of_lt (by omega : q0 s ≤ 3) (by decide +kernel)⟩, fun i j hi' hj => by
          have fe : ∀ i, i < k + 1 → full (fun s => -t2 0 (s + 1)) i = -t2 0 i := fun i hi => by
            cases i with
            | zero =>
              have := h2.cl.dg 0 (by omega)
              show (0 : Int) = -t2 0 0
              omega
            | succ i => rfl
          rw [fe i hi', fe j hj]
          have := h2.cl.tr 0 j i (by omega) hj hi'
          have := h2.cl.tr 0 i j (by omega) hi' hj
          omega⟩
        refine ⟨_, rfl, _, rfl, c2, dp, _, rfl, hp, c2, k, t2, .ref lc, 20, 2, rfl, h2.bd, k12, by decide, .tup (by simp) ql (by rw [rowV_len]; omega) (fun x hx => by obtain ⟨k, _, rfl⟩ := rowV_mem hx; exact .int _), fun b5 H18 s18 hb5 => ⟨b5, rfl, _, rfl, ?_⟩⟩
        obtain rfl : b5 = true := hb5.mpr inp
        refine iteF ?_
        have h2 := h2.same s18
        have sH18 := sH14.trans ((s15.trans s167).trans s18)
        have b18 := b14.of ((s15.trans s167).trans s18)
        have hp := s18 _ _ hp
        clear inp ql s18 s167 s17 s16 s15 sH14 b14 lo2 mp pos lx
        -- what is risen
        have iu2 : InB (k + 1) t2 := bd_inb (R := Has k t2) ⟨h2.cl, fun _ => Iff.rfl⟩ fun q hq s hs' => by
          have a := h2.box q hq s hs'
          have b := h2.top s hs'
          omega
        have ari : AreI H18 (.ref ct) (k : Int) := ⟨ct, _, rfl, h2.qc, by rw [rowV_len], fun x hx => by
          obtain ⟨s, hs', rfl⟩ := rowV_mem hx
          have := h2.lo s hs'
          exact ⟨_, rfl, Int.lt_of_lt_of_le (by decide +kernel : -ten60 < -1) this.1, Int.lt_of_le_of_lt this.2 (by decide +kernel)⟩⟩
        refine ⟨_, rfl, c2, dp, _, rfl, hp, bf_no az (by decide), _, rfl, c2, k, t2, .ref ct, 20, 2, rfl, h2.bd, k12, h2.cl, iu2, by decide, .tup (by simp) h2.qc (by rw [rowV_len]; omega) (fun x hx => by obtain ⟨k, _, rfl⟩ := rowV_mem hx; exact .int _), fun no => (no ari).elim, fun b ta' e hb _ w0 H19 s19 hw => ?_⟩
        cases e
        have ag : ∀ s, s < k → ta' s = tb s := fun s hs' => by
          have e1 := h2.qc
          rw [e1] at hb
          have e : rowV k tb = rowV k ta' := by injection (Option.some.inj hb)
          exact (rowV_inj e hs').symm
        obtain ⟨q0, hq0⟩ := h2.ne
        rcases hw with ⟨rfl, no⟩ | ⟨c3, u3, rfl, bu, ou⟩
        · exact (no ⟨q0, q0, 0, hq0, by decide, fun s hs' => ⟨by omega, by rw [ag s hs']; exact (h2.box q0 hq0 s hs').2⟩⟩).elim
        have ou : OfR k (RisR k t2 tb) u3 := ou.iff fun q => (ris_congr ag).symm
        clear hb ag ari iu2 hq0
        have h2 := h2.same s19
        refine ⟨_, rfl, _, rfl, L3, ct, k, t2, tb, rfl, h2.pp, h2.fw, h2.qc, k3, fun q hq s hs' => ?_, h2.top, fun L4 H20 s20 hL4 pr fr => ⟨(by show 2 ≤ sizeLine; decide), fun z hz => ?_⟩⟩
        · have a := h2.box q hq s hs'
          have b := h2.top s hs'
          omega
        have s21 := same_new (o := .tup [.ref c3, .ref L4]) hz
        have ez : (upd H20 z (.tup [.ref c3, .ref L4])) z = some (.tup [.ref c3, .ref L4]) := upd_same
        generalize upd H20 z (.tup [.ref c3, .ref L4]) = H21 at s21 ez
        refine ⟨z, _, rfl, SqT.of ez, rfl, _, _, rfl, _, _, rfl, rfl, ?_⟩
        have sH21 := sH18.trans ((s19.trans s20).trans s21)
        have bu := bu.mono (Kp.of (s20.trans s21))
        have pr := pr.same s21
        have fr := fr.kp fun xs e => s21 _ _ e
        have nL4 : L4 ≠ Lt := fun e => by
          have := s19 _ _ (sH18 _ _ eT)
          rw [← e, hL4] at this
          cases this
        have qct := (s20.trans s21) _ _ h2.qc
        have box3 : ∀ q, Has k u3 q → ∀ s, s < k → 0 ≤ q s ∧ q s ≤ tb s := fun q hq s hs' => by
          obtain ⟨q1, τ, h1, h0, hr⟩ := (ou.2 q).mpr hq
          have a := hr s hs'
          have b := h2.box q1 h1 s hs'
          exact ⟨by omega, a.2⟩
        have h3 : HS C Lt H21 k u3 tb c3 L4 ct := ⟨k3, bu, ou.1, pr.iff fun q => (ou.2 q).symm, fr, nL4, qct, box3, h2.top⟩
        clear h2 ez hz s21 s20 s19 sH18 bu pr fr nL4 qct hL4 hp b18
        -- the second test
        have iu3 : InB (k + 1) u3 := bd_inb (R := Has k u3) ⟨h3.cl, fun _ => Iff.rfl⟩ fun q hq s hs' => by
          have a := h3.box q hq s hs'
          have b := h3.top s hs'
          omega
        refine ⟨_, rfl, _, rfl, .ref c3, L4, k, Has k u3, rfl, k12, h3.pp, .inr ⟨c3, u3, rfl, h3.bd, h3.cl, fun _ => Iff.rfl⟩, fun H22 s22 => ⟨true, rfl, iteF ?_⟩⟩
        have h3 := h3.same s22
        obtain ⟨dp, az, hp, mp⟩ := id h3.bd
        have tt : Tight (k + 1) u3 u3 := ⟨h3.cl, fun _ => Iff.rfl⟩
        refine ⟨_, rfl, _, rfl, c3, c3, _, _, _, _, rfl, rfl, hp, hp, and_reads h3.bd h3.bd k12 iu3 iu3 tt tt fun v H23 s23 bo => ?_⟩
        have h3 := h3.same s23
        refine ⟨_, rfl, v, L4, k, Has k u3, rfl, k12, h3.pp, bo.iff fun q => ⟨fun h => ⟨h, h⟩, fun h => h.1⟩, fun H24 s24 => ⟨true, rfl, iteF ?_⟩⟩
        have h3 := h3.same s24
        have s1 := sH21.trans ((s22.trans s23).trans s24)
        have eT := s1 _ _ eT
        -- told
        refine ⟨_, rfl, .inl ⟨rfl, _, SqL.of eT⟩, _, rfl, _, rfl, (by show 2 ≤ sizeLine; decide), fun zt hzt => ?_⟩
        have s25 := same_new (o := .tup [.ref c3, .ref L4]) hzt
        have ez : (upd H24 zt (.tup [.ref c3, .ref L4])) zt = some (.tup [.ref c3, .ref L4]) := upd_same
        generalize upd H24 zt (.tup [.ref c3, .ref L4]) = H25 at s25 ez
        have h3 := h3.same s25
        have s1 := s1.trans s25
        have eT := s25 _ _ eT
        have kp := kp_lst (ys := ts ++ [.ref zt]) eT
        have ke : ∀ (L : Addr) (xs : List V), L ≠ Lt → H25 L = some (.lst xs) → (upd H25 Lt (.lst (ts ++ [.ref zt]))) L = some (.lst xs) := fun L xs ne e => by
          rw [upd_ne ne]
          exact e
        refine ⟨Lt, _, _, rfl, rfl, eT, small1000 (by omega), ?_⟩
        refine ⟨_, _, _, _, _, _, _, _, k, u3, tb, c3, L4, ct, ts ++ [.ref zt], rfl, same_own (sH.trans s1) nLt, h3.kp kp ke, upd_same, by rw [List.length_append]; show ts.length + 1 ≤ i + 1; omega, fun x hx => ?_⟩
        rcases List.mem_append.mp hx with hx | hx
        · exact ((tok x hx).kp (Kp.of s1) fun L xs _ e => s1 _ _ e).kp kp ke
        · rw [List.mem_singleton.mp hx]
          exact ⟨zt, c3, L4, k, u3, rfl, kp.1 _ _ ez, k12, h3.bd.mono kp, h3.pp.kp kp fun xs => ke L4 xs h3.nL, h3.nL, h3.cl⟩
    · rintro σ H1 ⟨v5, v6, v7, v8, v9, v10, v11, v12, n, t, ta, p, L, c, ts, rfl, sH, hs, eT, lt, tok⟩
      refine ⟨_, rfl, Lt, rfl, ⟨_, SqL.of eT⟩, fun D hD => ?_⟩
      refine lc_bs (n := ts.length) (walk_list (K := K) (a := Lt) (xs := ts)) (fun _ => True) hD (by omega) (fun H5 s5 => SqL.of (s5 _ _ eT)) ?_ ?_
      · rintro j x H5 Hy kT hj s5 ⟨rfl, hx⟩ h
        obtain ⟨z, p, L, m, u, rfl, ez, hm, bd, pp, nL, cl⟩ := (tok x (List.mem_of_getElem? hx)).kp (Kp.of s5) fun L xs _ e => s5 _ _ e
        exact ⟨z, _, rfl, SqT.of ez, rfl, _, _, rfl, _, _, rfl, rfl, rfl, _, rfl, _, rfl, .ref p, L, m, Has m u, rfl, hm, pp, .inr ⟨p, u, rfl, bd, cl, fun _ => Iff.rfl⟩, fun H6 s6 => h true H6 s6 (yea trivial)⟩
      rintro H5 bs s5 hD5 hall -
      have al : bs.all id = true := hall.mpr fun _ _ => trivial
      refine ⟨D, bs, rfl, SqL.of hD5, ?_⟩
      rw [al]
      exact q H5
end
end Bd

set_option Elab.async false
set_option linter.all false
set_option maxRecDepth 100000
set_option maxHeartbeats 4000000
/-! what the law asks of the classes -/
namespace Bd
open PySem PySem.Spec PyProof.Rows L2 Wd Br
open PySem.W (findIn subIn mroIn keepIn hasDictIn clsIn takerIn specialIn takesIn readsIn findCls kitOne excInitIn excOver excIn exmOne selfFirst notFirst fnIn)
theorem typRun : typeOf (.type "RuntimeError") = pure (.type "type") := by kernel_rfl
theorem typIdx : typeOf (.type "IndexError") = pure (.type "type") := by kernel_rfl
abbrev iTail : List Value := [.type "IndexError", .type "LookupError", .type "Exception", .type "BaseException", .type "object"]
def isB (x : Option Bool) (b : Bool) : Bool := match x with
  | some c => c == b
  | none => false
theorem isB_eq {x : Option Bool} {b : Bool} (h : isB x b = true) : x = some b := by
  cases x with
  | none => cases h
  | some c => exact congrArg some (beq_iff_eq.mp h)
def isN (x : Option (Option Value)) : Bool := match x with
  | some none => true
  | _ => false
theorem isN_eq {x : Option (Option Value)} (h : isN x = true) : x = some none := by
  cases x with
  | none => cases h
  | some c =>
    cases c with
    | none => rfl
    | some v => cases h
def binOk (K : PySem.W.Frag) (C : Addr) (op : Operator) (T : String) : Bool :=
  isN (findIn K (.ref C) (dunderR op.info.2)) && ((findIn K (.type T) (PySem.dunder op.info.2)).isSome && ((findIn K (.type T) (dunderR op.info.2)).isSome && isB (subIn K (.type T) (.ref C)) false))
theorem binOk_t {K : PySem.W.Frag} {C : Addr} {op : Operator} {T : String} (h : binOk K C op T = true) : OO.BinT K C op T := by
  unfold binOk at h
  simp only [Bool.and_eq_true, Option.isSome_iff_exists] at h
  exact ⟨⟨_, isN_eq h.1, .inl rfl⟩, h.2.1, h.2.2.1, isB_eq h.2.2.2⟩
abbrev vTail : List Value := [.type "ValueError", .type "Exception", .type "BaseException", .type "object"]
def b25A (K : PySem.W.Frag) (C : Addr) : Bool := isB (kitOne K (.ref C) (.ref C)) true && (isB (kitOne K (.type "NoneType") (.ref C)) false && (isB (kitOne K (.type "tuple") (.ref C)) false && (notFirst K C (.ref C) && (notFirst K C (.type "NoneType") && (notFirst K C (.type "tuple") && selfFirst K C)))))
def b25E (K : PySem.W.Frag) (N I O B : Addr) : Bool :=
  excIn K B vTail "ValueError.__new__" && (excIn K O vTail "ValueError.__new__" && (excInitIn K N rTail "RuntimeError.__new__" && (excOver K N rTail && (excInitIn K I iTail "IndexError.__new__" && (excOver K I iTail &&
  (isB (subIn K (.ref N) (.type "BaseException")) true && (isB (subIn K (.ref I) (.type "BaseException")) true && (isB (subIn K (.ref O) (.type "BaseException")) true && isB (subIn K (.ref B) (.type "BaseException")) true))))))))
section
variable {P : Program} {w : World} {K : PySem.W.Frag} {mg : Str → Option Value} {base : Heap}
theorem scInitN : FnScope ["self", "value"] ["self", "value"] (defScope cInvalidNumber_init) := ⟨rfl, rfl, rfl, by decide +kernel, rfl, by decide +kernel, by decide +kernel⟩
theorem ok_initN {f C : Addr} {fd : FuncData} (F1 : Fun K "__init__" "InvalidNumber.__init__" cInvalidNumber_init f fd) (E1 : Ek.EC K C rTail "RuntimeError.__new__") (nt : takerIn K C "value" = some none) (hm : mg "RuntimeError" = none)
    (vv : findCls K (.type "RuntimeError") (.type "type") "__init__" = some (.val (.builtin "RuntimeError.__init__"))) : FnOk P w K mg base CX0 1 f fd ["self", "value"] (Ek.spInitX C "value") := by
  refine F1.ok scInitN (fun vs H Q E h => ?_) (fun cdv A outer s H vs Q E hr h => ?_)
  · obtain ⟨a, y, H0, rfl, _⟩ := h
    rfl
  · obtain ⟨a, y, H0, rfl, rfl, h0, k⟩ := h
    refine ⟨_, pss_cons (ps_expr (Ek.pe_baseT (pl := _) (bmB := rTail) (newId := "RuntimeError.__new__") (Ek.InitF.of F.excBase_RuntimeError.toExcCallFacts) (by decide +kernel) (by rfl) hm (by decide +kernel) typRun (by decide +kernel) vv (pa_cons (pv 0) (pa_cons pe_str pa_nil))))
      (pss_one (Ek.ps_put (bmB := rTail) (newId := "RuntimeError.__new__") F.store_RuntimeError (pv 0) (pv 1))), ?_⟩
    refine ⟨_, rfl, a, C, _, rfl, by show 1 ≤ 1000; decide, E1, upd_same, ?_⟩
    refine ⟨_, rfl, _, rfl, a, C, rfl, E1, nt, upd_same, fun d hd ne => ?_⟩
    obtain ⟨z1, z2⟩ := Ek.init_endX (f := "value") (y := y) h0 hd ne
    exact k _ z1 z2
theorem scInitI : FnScope ["self", "index"] ["self", "index"] (defScope cUnknownIndex_init) := ⟨rfl, rfl, rfl, by decide +kernel, rfl, by decide +kernel, by decide +kernel⟩
theorem ok_initI {f C : Addr} {fd : FuncData} (F1 : Fun K "__init__" "UnknownIndex.__init__" cUnknownIndex_init f fd) (E1 : Ek.EC K C iTail "IndexError.__new__") (nt : takerIn K C "index" = some none) (hm : mg "IndexError" = none)
    (vv : findCls K (.type "IndexError") (.type "type") "__init__" = some (.val (.builtin "IndexError.__init__"))) : FnOk P w K mg base CX0 1 f fd ["self", "index"] (Ek.spInitX C "index") := by
  refine F1.ok scInitI (fun vs H Q E h => ?_) (fun cdv A outer s H vs Q E hr h => ?_)
  · obtain ⟨a, y, H0, rfl, _⟩ := h
    rfl
  · obtain ⟨a, y, H0, rfl, rfl, h0, k⟩ := h
    refine ⟨_, pss_cons (ps_expr (Ek.pe_baseT (pl := _) (bmB := iTail) (newId := "IndexError.__new__") (Ek.InitF.of F.excBase_IndexError.toExcCallFacts) (by decide +kernel) (by rfl) hm (by decide +kernel) typIdx (by decide +kernel) vv (pa_cons (pv 0) (pa_cons pe_str pa_nil))))
      (pss_one (Ek.ps_put (bmB := iTail) (newId := "IndexError.__new__") F.store_IndexError (pv 0) (pv 1))), ?_⟩
    refine ⟨_, rfl, a, C, _, rfl, by show 1 ≤ 1000; decide, E1, upd_same, ?_⟩
    refine ⟨_, rfl, _, rfl, a, C, rfl, E1, nt, upd_same, fun d hd ne => ?_⟩
    obtain ⟨z1, z2⟩ := Ek.init_endX (f := "index") (y := y) h0 hd ne
    exact k _ z1 z2
end
end Bd

set_option Elab.async false
set_option linter.all false
set_option maxRecDepth 100000
set_option maxHeartbeats 4000000
namespace Bd
open PySem L2 Wd Br
open PySem.W (nsIn codeIn fnOf keepIn)
theorem scGet1 : FnScope ["self"] ["self"] (defScope cBounds_rows) := ⟨rfl, rfl, rfl, by decide +kernel, rfl, by decide +kernel, by decide +kernel⟩
theorem all_mk {l : PySem.W.OpenLaw} {w : World} {K : PySem.W.Frag} {h : Heap} {mg : Str → Option Value} {fa : Addr} (KX : K.In h) (G : h.Ns mainGlobals mg) (hfa : mg "law" = some (.ref fa))
    {uIsInteger uAreIntegers uIsBetween uIsRows uZeroRows uTightRows uHolds uBothRows uCutRows uLaterRows uRisenRows uMovedRows uCheckClocks uArePlaces uStart uThrow uGreatest uSame uIsOf uRisen uPlaces uMoved uDueNow uCutTo uLaw uMLen uMEq uMAnd uMCut uMCon uMLea uMShr uMRis uMMov uPRo uMZe uMNi uMUi uNew uPRop uMZep uC uIN uUI uIO uIB : Addr} {rPRo rMZe : List Value}
    {ocIsInteger kVIsInteger dcIsInteger pmIsInteger cdIsInteger ctIsInteger ocAreIntegers kVAreIntegers dcAreIntegers pmAreIntegers cdAreIntegers ctAreIntegers ocIsBetween kVIsBetween dcIsBetween pmIsBetween cdIsBetween ctIsBetween ocIsRows kVIsRows dcIsRows pmIsRows cdIsRows ctIsRows ocZeroRows kVZeroRows dcZeroRows pmZeroRows cdZeroRows ctZeroRows ocTightRows kVTightRows dcTightRows pmTightRows cdTightRows ctTightRows ocHolds kVHolds dcHolds pmHolds cdHolds ctHolds ocBothRows kVBothRows dcBothRows pmBothRows cdBothRows ctBothRows ocCutRows kVCutRows dcCutRows pmCutRows cdCutRows ctCutRows ocLaterRows kVLaterRows dcLaterRows pmLaterRows cdLaterRows ctLaterRows ocRisenRows kVRisenRows dcRisenRows pmRisenRows cdRisenRows ctRisenRows ocMovedRows kVMovedRows dcMovedRows pmMovedRows cdMovedRows ctMovedRows ocCheckClocks kVCheckClocks dcCheckClocks pmCheckClocks cdCheckClocks ctCheckClocks ocArePlaces kVArePlaces dcArePlaces pmArePlaces cdArePlaces ctArePlaces ocStart kVStart dcStart pmStart cdStart ctStart ocThrow kVThrow dcThrow pmThrow cdThrow ctThrow ocGreatest kVGreatest dcGreatest pmGreatest cdGreatest ctGreatest ocSame kVSame dcSame pmSame cdSame ctSame ocIsOf kVIsOf dcIsOf pmIsOf cdIsOf ctIsOf ocRisen kVRisen dcRisen pmRisen cdRisen ctRisen ocPlaces kVPlaces dcPlaces pmPlaces cdPlaces ctPlaces ocMoved kVMoved dcMoved pmMoved cdMoved ctMoved ocDueNow kVDueNow dcDueNow pmDueNow cdDueNow ctDueNow ocCutTo kVCutTo dcCutTo pmCutTo cdCutTo ctCutTo ocLaw kVLaw dcLaw pmLaw cdLaw ctLaw ocMLen kVMLen dcMLen pmMLen cdMLen ctMLen ocMEq kVMEq dcMEq pmMEq cdMEq ctMEq ocMAnd kVMAnd dcMAnd pmMAnd cdMAnd ctMAnd ocMCut kVMCut dcMCut pmMCut cdMCut ctMCut ocMCon kVMCon dcMCon pmMCon cdMCon ctMCon ocMLea kVMLea dcMLea pmMLea cdMLea ctMLea ocMShr kVMShr dcMShr pmMShr cdMShr ctMShr ocMRis kVMRis dcMRis pmMRis cdMRis ctMRis ocMMov kVMMov dcMMov pmMMov cdMMov ctMMov ocPRo kVPRo dcPRo pmPRo cdPRo ctPRo ocMZe kVMZe dcMZe pmMZe cdMZe ctMZe ocMNi kVMNi dcMNi pmMNi cdMNi ctMNi ocMUi kVMUi dcMUi pmMUi cdMUi ctMUi ocNew kVNew dcNew pmNew cdNew ctNew : Value} {odIsInteger anIsInteger odAreIntegers anAreIntegers odIsBetween anIsBetween odIsRows anIsRows odZeroRows anZeroRows odTightRows anTightRows odHolds anHolds odBothRows anBothRows odCutRows anCutRows odLaterRows anLaterRows odRisenRows anRisenRows odMovedRows anMovedRows odCheckClocks anCheckClocks odArePlaces anArePlaces odStart anStart odThrow anThrow odGreatest anGreatest odSame anSame odIsOf anIsOf odRisen anRisen odPlaces anPlaces odMoved anMoved odDueNow anDueNow odCutTo anCutTo odLaw anLaw odMLen anMLen odMEq anMEq odMAnd anMAnd odMCut anMCut odMCon anMCon odMLea anMLea odMShr anMShr odMRis anMRis odMMov anMMov odPRo anPRo odMZe anMZe odMNi anMNi odMUi anMUi odNew anNew : Option Addr} {slIsInteger slAreIntegers slIsBetween slIsRows slZeroRows slTightRows slHolds slBothRows slCutRows slLaterRows slRisenRows slMovedRows slCheckClocks slArePlaces slStart slThrow slGreatest slSame slIsOf slRisen slPlaces slMoved slDueNow slCutTo slLaw slMLen slMEq slMAnd slMCut slMCon slMLea slMShr slMRis slMMov slPRo slMZe slMNi slMUi slNew : Array (Option Value)}
    {vIE vMC : Int} {tIE tMC : Tok}
    (aIsInteger : nsIn K mainGlobals "is_integer" = some (some (.ref uIsInteger)))
    (lIsInteger : K.lookup uIsInteger = some ⟨ocIsInteger, odIsInteger, .func (fnOf "is_integer" "is_integer" (defArgs sIsInteger) (defBody sIsInteger) (defScope sIsInteger) .none kVIsInteger dcIsInteger pmIsInteger anIsInteger cdIsInteger ctIsInteger), slIsInteger⟩)
    (qIsInteger : codeIn K cdIsInteger "is_integer" = true)
    (kIsInteger : keepIn K (.ref uIsInteger) = true)
    (aAreIntegers : nsIn K mainGlobals "are_integers" = some (some (.ref uAreIntegers)))
    (lAreIntegers : K.lookup uAreIntegers = some ⟨ocAreIntegers, odAreIntegers, .func (fnOf "are_integers" "are_integers" (defArgs sAreIntegers) (defBody sAreIntegers) (defScope sAreIntegers) .none kVAreIntegers dcAreIntegers pmAreIntegers anAreIntegers cdAreIntegers ctAreIntegers), slAreIntegers⟩)
    (qAreIntegers : codeIn K cdAreIntegers "are_integers" = true)
    (kAreIntegers : keepIn K (.ref uAreIntegers) = true)
    (aIsBetween : nsIn K mainGlobals "is_between" = some (some (.ref uIsBetween)))
    (lIsBetween : K.lookup uIsBetween = some ⟨ocIsBetween, odIsBetween, .func (fnOf "is_between" "is_between" (defArgs sIsBetween) (defBody sIsBetween) (defScope sIsBetween) .none kVIsBetween dcIsBetween pmIsBetween anIsBetween cdIsBetween ctIsBetween), slIsBetween⟩)
    (qIsBetween : codeIn K cdIsBetween "is_between" = true)
    (kIsBetween : keepIn K (.ref uIsBetween) = true)
    (aIsRows : nsIn K mainGlobals "is_rows" = some (some (.ref uIsRows)))
    (lIsRows : K.lookup uIsRows = some ⟨ocIsRows, odIsRows, .func (fnOf "is_rows" "is_rows" (defArgs sIsRows) (defBody sIsRows) (defScope sIsRows) .none kVIsRows dcIsRows pmIsRows anIsRows cdIsRows ctIsRows), slIsRows⟩)
    (qIsRows : codeIn K cdIsRows "is_rows" = true)
    (kIsRows : keepIn K (.ref uIsRows) = true)
    (aZeroRows : nsIn K mainGlobals "zero_rows" = some (some (.ref uZeroRows)))
    (lZeroRows : K.lookup uZeroRows = some ⟨ocZeroRows, odZeroRows, .func (fnOf "zero_rows" "zero_rows" (defArgs sZeroRows) (defBody sZeroRows) (defScope sZeroRows) .none kVZeroRows dcZeroRows pmZeroRows anZeroRows cdZeroRows ctZeroRows), slZeroRows⟩)
    (qZeroRows : codeIn K cdZeroRows "zero_rows" = true)
    (kZeroRows : keepIn K (.ref uZeroRows) = true)
    (aTightRows : nsIn K mainGlobals "tight_rows" = some (some (.ref uTightRows)))
    (lTightRows : K.lookup uTightRows = some ⟨ocTightRows, odTightRows, .func (fnOf "tight_rows" "tight_rows" (defArgs sTightRows) (defBody sTightRows) (defScope sTightRows) .none kVTightRows dcTightRows pmTightRows anTightRows cdTightRows ctTightRows), slTightRows⟩)
    (qTightRows : codeIn K cdTightRows "tight_rows" = true)
    (kTightRows : keepIn K (.ref uTightRows) = true)
    (aHolds : nsIn K mainGlobals "holds" = some (some (.ref uHolds)))
    (lHolds : K.lookup uHolds = some ⟨ocHolds, odHolds, .func (fnOf "holds" "holds" (defArgs sHolds) (defBody sHolds) (defScope sHolds) .none kVHolds dcHolds pmHolds anHolds cdHolds ctHolds), slHolds⟩)
    (qHolds : codeIn K cdHolds "holds" = true)
    (kHolds : keepIn K (.ref uHolds) = true)
    (aBothRows : nsIn K mainGlobals "both_rows" = some (some (.ref uBothRows)))
    (lBothRows : K.lookup uBothRows = some ⟨ocBothRows, odBothRows, .func (fnOf "both_rows" "both_rows" (defArgs sBothRows) (defBody sBothRows) (defScope sBothRows) .none kVBothRows dcBothRows pmBothRows anBothRows cdBothRows ctBothRows), slBothRows⟩)
    (qBothRows : codeIn K cdBothRows "both_rows" = true)
    (kBothRows : keepIn K (.ref uBothRows) = true)
    (aCutRows : nsIn K mainGlobals "cut_rows" = some (some (.ref uCutRows)))
    (lCutRows : K.lookup uCutRows = some ⟨ocCutRows, odCutRows, .func (fnOf "cut_rows" "cut_rows" (defArgs sCutRows) (defBody sCutRows) (defScope sCutRows) .none kVCutRows dcCutRows pmCutRows anCutRows cdCutRows ctCutRows), slCutRows⟩)
    (qCutRows : codeIn K cdCutRows "cut_rows" = true)
    (kCutRows : keepIn K (.ref uCutRows) = true)
    (aLaterRows : nsIn K mainGlobals "later_rows" = some (some (.ref uLaterRows)))
    (lLaterRows : K.lookup uLaterRows = some ⟨ocLaterRows, odLaterRows, .func (fnOf "later_rows" "later_rows" (defArgs sLaterRows) (defBody sLaterRows) (defScope sLaterRows) .none kVLaterRows dcLaterRows pmLaterRows anLaterRows cdLaterRows ctLaterRows), slLaterRows⟩)
    (qLaterRows : codeIn K cdLaterRows "later_rows" = true)
    (kLaterRows : keepIn K (.ref uLaterRows) = true)
    (aRisenRows : nsIn K mainGlobals "risen_rows" = some (some (.ref uRisenRows)))
    (lRisenRows : K.lookup uRisenRows = some ⟨ocRisenRows, odRisenRows, .func (fnOf "risen_rows" "risen_rows" (defArgs sRisenRows) (defBody sRisenRows) (defScope sRisenRows) .none kVRisenRows dcRisenRows pmRisenRows anRisenRows cdRisenRows ctRisenRows), slRisenRows⟩)
    (qRisenRows : codeIn K cdRisenRows "risen_rows" = true)
    (kRisenRows : keepIn K (.ref uRisenRows) = true)
    (aMovedRows : nsIn K mainGlobals "moved_rows" = some (some (.ref uMovedRows)))
    (lMovedRows : K.lookup uMovedRows = some ⟨ocMovedRows, odMovedRows, .func (fnOf "moved_rows" "moved_rows" (defArgs sMovedRows) (defBody sMovedRows) (defScope sMovedRows) .none kVMovedRows dcMovedRows pmMovedRows anMovedRows cdMovedRows ctMovedRows), slMovedRows⟩)
    (qMovedRows : codeIn K cdMovedRows "moved_rows" = true)
    (kMovedRows : keepIn K (.ref uMovedRows) = true)
    (aCheckClocks : nsIn K mainGlobals "check_clocks" = some (some (.ref uCheckClocks)))
    (lCheckClocks : K.lookup uCheckClocks = some ⟨ocCheckClocks, odCheckClocks, .func (fnOf "check_clocks" "check_clocks" (defArgs sCheckClocks) (defBody sCheckClocks) (defScope sCheckClocks) .none kVCheckClocks dcCheckClocks pmCheckClocks anCheckClocks cdCheckClocks ctCheckClocks), slCheckClocks⟩)
    (qCheckClocks : codeIn K cdCheckClocks "check_clocks" = true)
    (kCheckClocks : keepIn K (.ref uCheckClocks) = true)
    (aArePlaces : nsIn K mainGlobals "are_places" = some (some (.ref uArePlaces)))
    (lArePlaces : K.lookup uArePlaces = some ⟨ocArePlaces, odArePlaces, .func (fnOf "are_places" "are_places" (defArgs sArePlaces) (defBody sArePlaces) (defScope sArePlaces) .none kVArePlaces dcArePlaces pmArePlaces anArePlaces cdArePlaces ctArePlaces), slArePlaces⟩)
    (qArePlaces : codeIn K cdArePlaces "are_places" = true)
    (kArePlaces : keepIn K (.ref uArePlaces) = true)
    (aStart : nsIn K mainGlobals "_law_start" = some (some (.ref uStart)))
    (lStart : K.lookup uStart = some ⟨ocStart, odStart, .func (fnOf "_law_start" "_law_start" (defArgs sStart) (defBody sStart) (defScope sStart) .none kVStart dcStart pmStart anStart cdStart ctStart), slStart⟩)
    (qStart : codeIn K cdStart "_law_start" = true)
    (kStart : keepIn K (.ref uStart) = true)
    (aThrow : nsIn K mainGlobals "_law_throw" = some (some (.ref uThrow)))
    (lThrow : K.lookup uThrow = some ⟨ocThrow, odThrow, .func (fnOf "_law_throw" "_law_throw" (defArgs sThrow) (defBody sThrow) (defScope sThrow) .none kVThrow dcThrow pmThrow anThrow cdThrow ctThrow), slThrow⟩)
    (qThrow : codeIn K cdThrow "_law_throw" = true)
    (kThrow : keepIn K (.ref uThrow) = true)
    (aGreatest : nsIn K mainGlobals "_law_greatest" = some (some (.ref uGreatest)))
    (lGreatest : K.lookup uGreatest = some ⟨ocGreatest, odGreatest, .func (fnOf "_law_greatest" "_law_greatest" (defArgs sGreatest) (defBody sGreatest) (defScope sGreatest) .none kVGreatest dcGreatest pmGreatest anGreatest cdGreatest ctGreatest), slGreatest⟩)
    (qGreatest : codeIn K cdGreatest "_law_greatest" = true)
    (kGreatest : keepIn K (.ref uGreatest) = true)
    (aSame : nsIn K mainGlobals "_law_same" = some (some (.ref uSame)))
    (lSame : K.lookup uSame = some ⟨ocSame, odSame, .func (fnOf "_law_same" "_law_same" (defArgs sSame) (defBody sSame) (defScope sSame) .none kVSame dcSame pmSame anSame cdSame ctSame), slSame⟩)
    (qSame : codeIn K cdSame "_law_same" = true)
    (kSame : keepIn K (.ref uSame) = true)
    (aIsOf : nsIn K mainGlobals "_law_is_of" = some (some (.ref uIsOf)))
    (lIsOf : K.lookup uIsOf = some ⟨ocIsOf, odIsOf, .func (fnOf "_law_is_of" "_law_is_of" (defArgs sIsOf) (defBody sIsOf) (defScope sIsOf) .none kVIsOf dcIsOf pmIsOf anIsOf cdIsOf ctIsOf), slIsOf⟩)
    (qIsOf : codeIn K cdIsOf "_law_is_of" = true)
    (kIsOf : keepIn K (.ref uIsOf) = true)
    (aRisen : nsIn K mainGlobals "_law_risen" = some (some (.ref uRisen)))
    (lRisen : K.lookup uRisen = some ⟨ocRisen, odRisen, .func (fnOf "_law_risen" "_law_risen" (defArgs sRisen) (defBody sRisen) (defScope sRisen) .none kVRisen dcRisen pmRisen anRisen cdRisen ctRisen), slRisen⟩)
    (qRisen : codeIn K cdRisen "_law_risen" = true)
    (kRisen : keepIn K (.ref uRisen) = true)
    (aPlaces : nsIn K mainGlobals "_law_places" = some (some (.ref uPlaces)))
    (lPlaces : K.lookup uPlaces = some ⟨ocPlaces, odPlaces, .func (fnOf "_law_places" "_law_places" (defArgs sPlaces) (defBody sPlaces) (defScope sPlaces) .none kVPlaces dcPlaces pmPlaces anPlaces cdPlaces ctPlaces), slPlaces⟩)
    (qPlaces : codeIn K cdPlaces "_law_places" = true)
    (kPlaces : keepIn K (.ref uPlaces) = true)
    (aMoved : nsIn K mainGlobals "_law_moved" = some (some (.ref uMoved)))
    (lMoved : K.lookup uMoved = some ⟨ocMoved, odMoved, .func (fnOf "_law_moved" "_law_moved" (defArgs sMoved) (defBody sMoved) (defScope sMoved) .none kVMoved dcMoved pmMoved anMoved cdMoved ctMoved), slMoved⟩)
    (qMoved : codeIn K cdMoved "_law_moved" = true)
    (kMoved : keepIn K (.ref uMoved) = true)
    (aDueNow : nsIn K mainGlobals "_law_due_now" = some (some (.ref uDueNow)))
    (lDueNow : K.lookup uDueNow = some ⟨ocDueNow, odDueNow, .func (fnOf "_law_due_now" "_law_due_now" (defArgs sDueNow) (defBody sDueNow) (defScope sDueNow) .none kVDueNow dcDueNow pmDueNow anDueNow cdDueNow ctDueNow), slDueNow⟩)
    (qDueNow : codeIn K cdDueNow "_law_due_now" = true)
    (kDueNow : keepIn K (.ref uDueNow) = true)
    (aCutTo : nsIn K mainGlobals "_law_cut_to" = some (some (.ref uCutTo)))
    (lCutTo : K.lookup uCutTo = some ⟨ocCutTo, odCutTo, .func (fnOf "_law_cut_to" "_law_cut_to" (defArgs sCutTo) (defBody sCutTo) (defScope sCutTo) .none kVCutTo dcCutTo pmCutTo anCutTo cdCutTo ctCutTo), slCutTo⟩)
    (qCutTo : codeIn K cdCutTo "_law_cut_to" = true)
    (kCutTo : keepIn K (.ref uCutTo) = true)
    (aLaw : nsIn K mainGlobals "law" = some (some (.ref uLaw)))
    (lLaw : K.lookup uLaw = some ⟨ocLaw, odLaw, .func (fnOf "law" "law" (defArgs sLaw) (defBody sLaw) (defScope sLaw) .none kVLaw dcLaw pmLaw anLaw cdLaw ctLaw), slLaw⟩)
    (qLaw : codeIn K cdLaw "law" = true)
    (kLaw : keepIn K (.ref uLaw) = true)
    (zlen : nsIn K mainGlobals "len" = some none)
    (zint : nsIn K mainGlobals "int" = some none)
    (zbool : nsIn K mainGlobals "bool" = some none)
    (ztuple : nsIn K mainGlobals "tuple" = some none)
    (zall : nsIn K mainGlobals "all" = some none)
    (zany : nsIn K mainGlobals "any" = some none)
    (zrange : nsIn K mainGlobals "range" = some none)
    (zisinstance : nsIn K mainGlobals "isinstance" = some none)
    (zabs : nsIn K mainGlobals "abs" = some none)
    (zlist : nsIn K mainGlobals "list" = some none)
    (zmax : nsIn K mainGlobals "max" = some none)
    (zmin : nsIn K mainGlobals "min" = some none)
    (zzip : nsIn K mainGlobals "zip" = some none)
    (zset : nsIn K mainGlobals "set" = some none)
    (zsorted : nsIn K mainGlobals "sorted" = some none)
    (zenumerate : nsIn K mainGlobals "enumerate" = some none)
    (zRuntimeError : nsIn K mainGlobals "RuntimeError" = some none)
    (zIndexError : nsIn K mainGlobals "IndexError" = some none)
    (cIE : nsIn K mainGlobals "INTEGER_END" = some (some (.int vIE tIE)))
    (eIE : vIE = ten60)
    (cMC : nsIn K mainGlobals "MAX_CLOCKS" = some (some (.int vMC tMC)))
    (eMC : vMC = 12)
    (aC : nsIn K mainGlobals "Bounds" = some (some (.ref uC)))
    (aIN : nsIn K mainGlobals "InvalidNumber" = some (some (.ref uIN)))
    (aUI : nsIn K mainGlobals "UnknownIndex" = some (some (.ref uUI)))
    (aIO : nsIn K mainGlobals "InvalidOperation" = some (some (.ref uIO)))
    (aIB : nsIn K mainGlobals "InvalidBounds" = some (some (.ref uIB)))
    (t8 : PySem.W.findIn K (.ref uC) "__init__" = some (some (.ref uNew)))
    (tMLen : PySem.W.findIn K (.ref uC) "__len__" = some (some (.ref uMLen)))
    (tMEq : PySem.W.findIn K (.ref uC) "__eq__" = some (some (.ref uMEq)))
    (tMAnd : PySem.W.findIn K (.ref uC) "__and__" = some (some (.ref uMAnd)))
    (tMCut : PySem.W.findIn K (.ref uC) "cut" = some (some (.ref uMCut)))
    (tMCon : PySem.W.findIn K (.ref uC) "__contains__" = some (some (.ref uMCon)))
    (tMLea : PySem.W.findIn K (.ref uC) "least" = some (some (.ref uMLea)))
    (tMShr : PySem.W.findIn K (.ref uC) "__rshift__" = some (some (.ref uMShr)))
    (tMRis : PySem.W.findIn K (.ref uC) "risen" = some (some (.ref uMRis)))
    (tMMov : PySem.W.findIn K (.ref uC) "moved" = some (some (.ref uMMov)))
    (tPRo : PySem.W.findIn K (.ref uC) "rows" = some (some (.ref uPRop)))
    (rPRo : PySem.W.recIn K uPRop "property" = some (Value.ref uPRo :: rPRo))
    (tMZe : PySem.W.findIn K (.ref uC) "zero" = some (some (.ref uMZep)))
    (rMZe : PySem.W.recIn K uMZep "classmethod" = some (Value.ref uMZe :: rMZe))
    (tMNi : PySem.W.findIn K (.ref uIN) "__init__" = some (some (.ref uMNi)))
    (tMUi : PySem.W.findIn K (.ref uUI) "__init__" = some (some (.ref uMUi)))
    (lNew : K.lookup uNew = some ⟨ocNew, odNew, .func (fnOf "__init__" "Bounds.__init__" (defArgs cBounds_init) (defBody cBounds_init) (defScope cBounds_init) .none kVNew dcNew pmNew anNew cdNew ctNew), slNew⟩)
    (qNew : codeIn K cdNew "Bounds.__init__" = true)
    (kNew : keepIn K (.ref uNew) = true)
    (lMLen : K.lookup uMLen = some ⟨ocMLen, odMLen, .func (fnOf "__len__" "Bounds.__len__" (defArgs cBounds_len) (defBody cBounds_len) (defScope cBounds_len) .none kVMLen dcMLen pmMLen anMLen cdMLen ctMLen), slMLen⟩)
    (qMLen : codeIn K cdMLen "Bounds.__len__" = true)
    (kMLen : keepIn K (.ref uMLen) = true)
    (fMLen : PySem.W.isFn K (.ref uMLen) = true)
    (lMEq : K.lookup uMEq = some ⟨ocMEq, odMEq, .func (fnOf "__eq__" "Bounds.__eq__" (defArgs cBounds_eq) (defBody cBounds_eq) (defScope cBounds_eq) .none kVMEq dcMEq pmMEq anMEq cdMEq ctMEq), slMEq⟩)
    (qMEq : codeIn K cdMEq "Bounds.__eq__" = true)
    (kMEq : keepIn K (.ref uMEq) = true)
    (fMEq : PySem.W.isFn K (.ref uMEq) = true)
    (lMAnd : K.lookup uMAnd = some ⟨ocMAnd, odMAnd, .func (fnOf "__and__" "Bounds.__and__" (defArgs cBounds_and) (defBody cBounds_and) (defScope cBounds_and) .none kVMAnd dcMAnd pmMAnd anMAnd cdMAnd ctMAnd), slMAnd⟩)
    (qMAnd : codeIn K cdMAnd "Bounds.__and__" = true)
    (kMAnd : keepIn K (.ref uMAnd) = true)
    (fMAnd : PySem.W.isFn K (.ref uMAnd) = true)
    (lMCut : K.lookup uMCut = some ⟨ocMCut, odMCut, .func (fnOf "cut" "Bounds.cut" (defArgs cBounds_cut) (defBody cBounds_cut) (defScope cBounds_cut) .none kVMCut dcMCut pmMCut anMCut cdMCut ctMCut), slMCut⟩)
    (qMCut : codeIn K cdMCut "Bounds.cut" = true)
    (kMCut : keepIn K (.ref uMCut) = true)
    (fMCut : PySem.W.isFn K (.ref uMCut) = true)
    (lMCon : K.lookup uMCon = some ⟨ocMCon, odMCon, .func (fnOf "__contains__" "Bounds.__contains__" (defArgs cBounds_contains) (defBody cBounds_contains) (defScope cBounds_contains) .none kVMCon dcMCon pmMCon anMCon cdMCon ctMCon), slMCon⟩)
    (qMCon : codeIn K cdMCon "Bounds.__contains__" = true)
    (kMCon : keepIn K (.ref uMCon) = true)
    (fMCon : PySem.W.isFn K (.ref uMCon) = true)
    (lMLea : K.lookup uMLea = some ⟨ocMLea, odMLea, .func (fnOf "least" "Bounds.least" (defArgs cBounds_least) (defBody cBounds_least) (defScope cBounds_least) .none kVMLea dcMLea pmMLea anMLea cdMLea ctMLea), slMLea⟩)
    (qMLea : codeIn K cdMLea "Bounds.least" = true)
    (kMLea : keepIn K (.ref uMLea) = true)
    (fMLea : PySem.W.isFn K (.ref uMLea) = true)
    (lMShr : K.lookup uMShr = some ⟨ocMShr, odMShr, .func (fnOf "__rshift__" "Bounds.__rshift__" (defArgs cBounds_rshift) (defBody cBounds_rshift) (defScope cBounds_rshift) .none kVMShr dcMShr pmMShr anMShr cdMShr ctMShr), slMShr⟩)
    (qMShr : codeIn K cdMShr "Bounds.__rshift__" = true)
    (kMShr : keepIn K (.ref uMShr) = true)
    (fMShr : PySem.W.isFn K (.ref uMShr) = true)
    (lMRis : K.lookup uMRis = some ⟨ocMRis, odMRis, .func (fnOf "risen" "Bounds.risen" (defArgs cBounds_risen) (defBody cBounds_risen) (defScope cBounds_risen) .none kVMRis dcMRis pmMRis anMRis cdMRis ctMRis), slMRis⟩)
    (qMRis : codeIn K cdMRis "Bounds.risen" = true)
    (kMRis : keepIn K (.ref uMRis) = true)
    (fMRis : PySem.W.isFn K (.ref uMRis) = true)
    (lMMov : K.lookup uMMov = some ⟨ocMMov, odMMov, .func (fnOf "moved" "Bounds.moved" (defArgs cBounds_moved) (defBody cBounds_moved) (defScope cBounds_moved) .none kVMMov dcMMov pmMMov anMMov cdMMov ctMMov), slMMov⟩)
    (qMMov : codeIn K cdMMov "Bounds.moved" = true)
    (kMMov : keepIn K (.ref uMMov) = true)
    (fMMov : PySem.W.isFn K (.ref uMMov) = true)
    (lPRo : K.lookup uPRo = some ⟨ocPRo, odPRo, .func (fnOf "rows" "Bounds.rows" (defArgs cBounds_rows) (defBody cBounds_rows) (defScope cBounds_rows) .none kVPRo dcPRo pmPRo anPRo cdPRo ctPRo), slPRo⟩)
    (qPRo : codeIn K cdPRo "Bounds.rows" = true)
    (kPRo : keepIn K (.ref uPRo) = true)
    (gPRo : PySem.W.specialIn K (.ref uPRop) "__get__" = some (some (.builtin "property.__get__")))
    (hPRo : PySem.W.takesIn K (.ref uPRop) = some true)
    (lMZe : K.lookup uMZe = some ⟨ocMZe, odMZe, .func (fnOf "zero" "Bounds.zero" (defArgs cBounds_zero) (defBody cBounds_zero) (defScope cBounds_zero) .none kVMZe dcMZe pmMZe anMZe cdMZe ctMZe), slMZe⟩)
    (qMZe : codeIn K cdMZe "Bounds.zero" = true)
    (kMZe : keepIn K (.ref uMZe) = true)
    (lMNi : K.lookup uMNi = some ⟨ocMNi, odMNi, .func (fnOf "__init__" "InvalidNumber.__init__" (defArgs cInvalidNumber_init) (defBody cInvalidNumber_init) (defScope cInvalidNumber_init) .none kVMNi dcMNi pmMNi anMNi cdMNi ctMNi), slMNi⟩)
    (qMNi : codeIn K cdMNi "InvalidNumber.__init__" = true)
    (kMNi : keepIn K (.ref uMNi) = true)
    (yMNi : PySem.W.typeIn K (.ref uMNi) = some (.type "function"))
    (lMUi : K.lookup uMUi = some ⟨ocMUi, odMUi, .func (fnOf "__init__" "UnknownIndex.__init__" (defArgs cUnknownIndex_init) (defBody cUnknownIndex_init) (defScope cUnknownIndex_init) .none kVMUi dcMUi pmMUi anMUi cdMUi ctMUi), slMUi⟩)
    (qMUi : codeIn K cdMUi "UnknownIndex.__init__" = true)
    (kMUi : keepIn K (.ref uMUi) = true)
    (yMUi : PySem.W.typeIn K (.ref uMUi) = some (.type "function"))
    (t1 : PySem.W.plainGet K uC Str.empty = true)
    (t2 : PySem.W.hasDictIn K uC = true)
    (t3 : PySem.W.plainOver K uC = true)
    (t4 : PySem.W.findIn K (.ref uC) "__setattr__" = some (some (.builtin "object.__setattr__")))
    (t5 : PySem.W.findIn K (.ref uC) "_rows" = some none)
    (t7 : PySem.W.makesIn K uC = true)
    (t9 : PySem.W.isFn K (.ref uNew) = true)
    (t10 : keepIn K (.ref uC) = true)
    (t13 : PySem.W.findIn K (.ref uC) "__class__" = some (some (.builtin "object.__class__")))
    (t14 : PySem.W.specialIn K (.builtin "object.__class__") "__get__" = some (some (.builtin "getset_descriptor.__get__")))
    (t15 : PySem.W.takesIn K (.builtin "object.__class__") = some true)
    (t16 : PySem.W.mroIn K uC (.type "object") = some true)
    (t17 : PySem.W.findIn K (.ref uC) "__ne__" = some (some (.builtin "object.__ne__")))
    (t18 : PySem.W.readsIn K uC (.type "type") = true)
    (t19 : PySem.W.specialIn K (.ref uC) "__getattribute__" = some (some (.builtin "type.__getattribute__")))
    (t20 : PySem.W.findCls K (.ref uC) (.type "type") "zero" = some (.get (.builtin "classmethod.__get__") (.ref uMZep) .none (.ref uC)))
    (t21 : PySem.W.fnIn K uMZe = true)
    (x1 : b25A K uC = true)
    (x2 : b25E K uIN uUI uIO uIB = true)
    (x3 : binOk K uC .RShift "int" = true)
    (kIN : keepIn K (.ref uIN) = true)
    (yIN : PySem.W.typeIn K (.ref uIN) = some (.type "type"))
    (kUI : keepIn K (.ref uUI) = true)
    (yUI : PySem.W.typeIn K (.ref uUI) = some (.type "type"))
    (kIO : keepIn K (.ref uIO) = true)
    (yIO : PySem.W.typeIn K (.ref uIO) = some (.type "type"))
    (kIB : keepIn K (.ref uIB) = true)
    (yIB : PySem.W.typeIn K (.ref uIB) = some (.type "type"))
    (w1 : PySem.W.hasDictIn K uIN = true)
    (w2 : PySem.W.findIn K (.ref uIN) "__setattr__" = some (some (.builtin "object.__setattr__")))
    (w3 : PySem.W.takerIn K uIN "value" = some none)
    (w4 : PySem.W.findCls K (.type "RuntimeError") (.type "type") "__init__" = some (.val (.builtin "RuntimeError.__init__")))
    (w5 : PySem.W.findIn K (.ref uIN) "__getattribute__" = some (some (.builtin "BaseException.__getattribute__")))
    (w6 : PySem.W.findIn K (.ref uIN) "__getattr__" = some none)
    (w7 : PySem.W.findIn K (.ref uIN) "value" = some none)
    (v1 : PySem.W.hasDictIn K uUI = true)
    (v2 : PySem.W.findIn K (.ref uUI) "__setattr__" = some (some (.builtin "object.__setattr__")))
    (v3 : PySem.W.takerIn K uUI "index" = some none)
    (v4 : PySem.W.findCls K (.type "IndexError") (.type "type") "__init__" = some (.val (.builtin "IndexError.__init__")))
    (v5 : PySem.W.findIn K (.ref uUI) "__getattribute__" = some (some (.builtin "BaseException.__getattribute__")))
    (v6 : PySem.W.findIn K (.ref uUI) "__getattr__" = some none)
    (v7 : PySem.W.findIn K (.ref uUI) "index" = some none) :
    ∃ fd : FuncData, (∀ (s : Shared) (v : Value), BindsTo s fd ⟨[v], []⟩ [("script", v)]) ∧ ∀ base : Heap, K.In base → base.Ns mainGlobals mg → GnOk l.prog w K mg base CX0 8 fa fd ["script"] (Bd.spLaw K) := by
  have e := hfa.symm.trans (PySem.W.mg_of KX G aLaw)
  cases e
  have FIsInteger := fun_mk (st := sIsInteger) lIsInteger qIsInteger kIsInteger
  have bIsInteger := FIsInteger.binds (ps := ["value"]) fun _ _ _ _ _ _ us hl => match us, hl with | [_], _ => rfl
  have FAreIntegers := fun_mk (st := sAreIntegers) lAreIntegers qAreIntegers kAreIntegers
  have bAreIntegers := FAreIntegers.binds (ps := ["value", "many"]) fun _ _ _ _ _ _ us hl => match us, hl with | [_, _], _ => rfl
  have FIsBetween := fun_mk (st := sIsBetween) lIsBetween qIsBetween kIsBetween
  have bIsBetween := FIsBetween.binds (ps := ["value", "least", "most"]) fun _ _ _ _ _ _ us hl => match us, hl with | [_, _, _], _ => rfl
  have FIsRows := fun_mk (st := sIsRows) lIsRows qIsRows kIsRows
  have bIsRows := FIsRows.binds (ps := ["value"]) fun _ _ _ _ _ _ us hl => match us, hl with | [_], _ => rfl
  have FZeroRows := fun_mk (st := sZeroRows) lZeroRows qZeroRows kZeroRows
  have bZeroRows := FZeroRows.binds (ps := ["many"]) fun _ _ _ _ _ _ us hl => match us, hl with | [_], _ => rfl
  have FTightRows := fun_mk (st := sTightRows) lTightRows qTightRows kTightRows
  have bTightRows := FTightRows.binds (ps := ["rows"]) fun _ _ _ _ _ _ us hl => match us, hl with | [_], _ => rfl
  have FHolds := fun_mk (st := sHolds) lHolds qHolds kHolds
  have bHolds := FHolds.binds (ps := ["rows", "point"]) fun _ _ _ _ _ _ us hl => match us, hl with | [_, _], _ => rfl
  have FBothRows := fun_mk (st := sBothRows) lBothRows qBothRows kBothRows
  have bBothRows := FBothRows.binds (ps := ["rows", "others"]) fun _ _ _ _ _ _ us hl => match us, hl with | [_, _], _ => rfl
  have FCutRows := fun_mk (st := sCutRows) lCutRows qCutRows kCutRows
  have bCutRows := FCutRows.binds (ps := ["rows", "i", "j", "most"]) fun _ _ _ _ _ _ us hl => match us, hl with | [_, _, _, _], _ => rfl
  have FLaterRows := fun_mk (st := sLaterRows) lLaterRows qLaterRows kLaterRows
  have bLaterRows := FLaterRows.binds (ps := ["rows", "time"]) fun _ _ _ _ _ _ us hl => match us, hl with | [_, _], _ => rfl
  have FRisenRows := fun_mk (st := sRisenRows) lRisenRows qRisenRows kRisenRows
  have bRisenRows := FRisenRows.binds (ps := ["rows", "tops"]) fun _ _ _ _ _ _ us hl => match us, hl with | [_, _], _ => rfl
  have FMovedRows := fun_mk (st := sMovedRows) lMovedRows qMovedRows kMovedRows
  have bMovedRows := FMovedRows.binds (ps := ["rows", "places"]) fun _ _ _ _ _ _ us hl => match us, hl with | [_, _], _ => rfl
  have FCheckClocks := fun_mk (st := sCheckClocks) lCheckClocks qCheckClocks kCheckClocks
  have bCheckClocks := FCheckClocks.binds (ps := ["bounds", "other"]) fun _ _ _ _ _ _ us hl => match us, hl with | [_, _], _ => rfl
  have FArePlaces := fun_mk (st := sArePlaces) lArePlaces qArePlaces kArePlaces
  have bArePlaces := FArePlaces.binds (ps := ["value", "many"]) fun _ _ _ _ _ _ us hl => match us, hl with | [_, _], _ => rfl
  have FStart := fun_mk (st := sStart) lStart qStart kStart
  have bStart := FStart.binds (ps := ["script", "at"]) fun _ _ _ _ _ _ us hl => match us, hl with | [_, _], _ => rfl
  have FThrow := fun_mk (st := sThrow) lThrow qThrow kThrow
  have bThrow := FThrow.binds (ps := ["bag", "total"]) fun _ _ _ _ _ _ us hl => match us, hl with | [_, _], _ => rfl
  have FGreatest := fun_mk (st := sGreatest) lGreatest qGreatest kGreatest
  have bGreatest := FGreatest.binds (ps := ["points"]) fun _ _ _ _ _ _ us hl => match us, hl with | [_], _ => rfl
  have FSame := fun_mk (st := sSame) lSame qSame kSame
  have bSame := FSame.binds (ps := ["one", "other"]) fun _ _ _ _ _ _ us hl => match us, hl with | [_, _], _ => rfl
  have FIsOf := fun_mk (st := sIsOf) lIsOf qIsOf kIsOf
  have bIsOf := FIsOf.binds (ps := ["bounds", "points"]) fun _ _ _ _ _ _ us hl => match us, hl with | [_, _], _ => rfl
  have FRisen := fun_mk (st := sRisen) lRisen qRisen kRisen
  have bRisen := FRisen.binds (ps := ["points", "tops"]) fun _ _ _ _ _ _ us hl => match us, hl with | [_, _], _ => rfl
  have FPlaces := fun_mk (st := sPlaces) lPlaces qPlaces kPlaces
  have bPlaces := FPlaces.binds (ps := ["bag", "many", "gone"]) fun _ _ _ _ _ _ us hl => match us, hl with | [_, _, _], _ => rfl
  have FMoved := fun_mk (st := sMoved) lMoved qMoved kMoved
  have bMoved := FMoved.binds (ps := ["points", "places"]) fun _ _ _ _ _ _ us hl => match us, hl with | [_, _], _ => rfl
  have FDueNow := fun_mk (st := sDueNow) lDueNow qDueNow kDueNow
  have bDueNow := FDueNow.binds (ps := ["points", "tops", "gone"]) fun _ _ _ _ _ _ us hl => match us, hl with | [_, _, _], _ => rfl
  have FCutTo := fun_mk (st := sCutTo) lCutTo qCutTo kCutTo
  have bCutTo := FCutTo.binds (ps := ["bounds", "tops", "gone"]) fun _ _ _ _ _ _ us hl => match us, hl with | [_, _, _], _ => rfl
  have FLaw := fun_mk (st := sLaw) lLaw qLaw kLaw
  have FMLen := fun_mk (st := cBounds_len) lMLen qMLen kMLen
  have bMLen := FMLen.binds (ps := ["self"]) fun _ _ _ _ _ _ us hl => match us, hl with | [_], _ => rfl
  have FMEq := fun_mk (st := cBounds_eq) lMEq qMEq kMEq
  have bMEq := FMEq.binds (ps := ["self", "other"]) fun _ _ _ _ _ _ us hl => match us, hl with | [_, _], _ => rfl
  have FMAnd := fun_mk (st := cBounds_and) lMAnd qMAnd kMAnd
  have bMAnd := FMAnd.binds (ps := ["self", "other"]) fun _ _ _ _ _ _ us hl => match us, hl with | [_, _], _ => rfl
  have FMCut := fun_mk (st := cBounds_cut) lMCut qMCut kMCut
  have bMCut := FMCut.binds (ps := ["self", "i", "j", "most"]) fun _ _ _ _ _ _ us hl => match us, hl with | [_, _, _, _], _ => rfl
  have FMCon := fun_mk (st := cBounds_contains) lMCon qMCon kMCon
  have bMCon := FMCon.binds (ps := ["self", "value"]) fun _ _ _ _ _ _ us hl => match us, hl with | [_, _], _ => rfl
  have FMLea := fun_mk (st := cBounds_least) lMLea qMLea kMLea
  have bMLea := FMLea.binds (ps := ["self"]) fun _ _ _ _ _ _ us hl => match us, hl with | [_], _ => rfl
  have FMShr := fun_mk (st := cBounds_rshift) lMShr qMShr kMShr
  have bMShr := FMShr.binds (ps := ["self", "time"]) fun _ _ _ _ _ _ us hl => match us, hl with | [_, _], _ => rfl
  have FMRis := fun_mk (st := cBounds_risen) lMRis qMRis kMRis
  have bMRis := FMRis.binds (ps := ["self", "tops"]) fun _ _ _ _ _ _ us hl => match us, hl with | [_, _], _ => rfl
  have FMMov := fun_mk (st := cBounds_moved) lMMov qMMov kMMov
  have bMMov := FMMov.binds (ps := ["self", "places"]) fun _ _ _ _ _ _ us hl => match us, hl with | [_, _], _ => rfl
  have FPRo := fun_mk (st := cBounds_rows) lPRo qPRo kPRo
  have bPRo := FPRo.binds (ps := ["self"]) fun _ _ _ _ _ _ us hl => match us, hl with | [_], _ => rfl
  have FNew := fun_mk (st := cBounds_init) lNew qNew kNew
  have bNew := FNew.binds (ps := ["self", "rows"]) fun _ _ _ _ _ _ us hl => match us, hl with | [_, _], _ => rfl
  have FMZe := fun_mk (st := cBounds_zero) lMZe qMZe kMZe
  have bMZe := FMZe.binds (ps := ["cls", "many"]) fun _ _ _ _ _ _ us hl => match us, hl with | [_, _], _ => rfl
  have FMNi := fun_mk (st := cInvalidNumber_init) lMNi qMNi kMNi
  have bMNi := FMNi.binds (ps := ["self", "value"]) fun _ _ _ _ _ _ us hl => match us, hl with | [_, _], _ => rfl
  have FMUi := fun_mk (st := cUnknownIndex_init) lMUi qMUi kMUi
  have bMUi := FMUi.binds (ps := ["self", "index"]) fun _ _ _ _ _ _ us hl => match us, hl with | [_, _], _ => rfl
  have X : BTxt mg uIsInteger := { len := (PySem.W.mg_none_of KX G zlen), isin := (PySem.W.mg_none_of KX G zisinstance), int := (PySem.W.mg_none_of KX G zint), bool := (PySem.W.mg_none_of KX G zbool), tup := (PySem.W.mg_none_of KX G ztuple), all := (PySem.W.mg_none_of KX G zall), any := (PySem.W.mg_none_of KX G zany), range := (PySem.W.mg_none_of KX G zrange), min := (PySem.W.mg_none_of KX G zmin), ie := ⟨_, (PySem.W.mg_of KX G cIE), tIE, by rw [eIE]⟩, mc := ⟨_, (PySem.W.mg_of KX G cMC), tMC, by rw [eMC]⟩, fi := (PySem.W.mg_of KX G aIsInteger) }
  have TX : TxtA mg uThrow := { len := (PySem.W.mg_none_of KX G zlen), int := (PySem.W.mg_none_of KX G zint), abs := (PySem.W.mg_none_of KX G zabs), max := (PySem.W.mg_none_of KX G zmax), thr := (PySem.W.mg_of KX G aThrow) }
  have SX : STxt mg := { len := (PySem.W.mg_none_of KX G zlen), isin := (PySem.W.mg_none_of KX G zisinstance), int := (PySem.W.mg_none_of KX G zint), bool := (PySem.W.mg_none_of KX G zbool), tup := (PySem.W.mg_none_of KX G ztuple), all := (PySem.W.mg_none_of KX G zall), range := (PySem.W.mg_none_of KX G zrange) }
  have PX : PTxt mg := { len := (PySem.W.mg_none_of KX G zlen), isin := (PySem.W.mg_none_of KX G zisinstance), all := (PySem.W.mg_none_of KX G zall), max := (PySem.W.mg_none_of KX G zmax), tup := (PySem.W.mg_none_of KX G ztuple), range := (PySem.W.mg_none_of KX G zrange), zip := (PySem.W.mg_none_of KX G zzip) }
  have AX : ATxt mg := { range := (PySem.W.mg_none_of KX G zrange), tup := (PySem.W.mg_none_of KX G ztuple), all := (PySem.W.mg_none_of KX G zall), zip := (PySem.W.mg_none_of KX G zzip), sorted := (PySem.W.mg_none_of KX G zsorted), enum := (PySem.W.mg_none_of KX G zenumerate), len := (PySem.W.mg_none_of KX G zlen) }
  have LX : LTxt5 mg := { len := (PySem.W.mg_none_of KX G zlen), range := (PySem.W.mg_none_of KX G zrange), max := (PySem.W.mg_none_of KX G zmax), min := (PySem.W.mg_none_of KX G zmin), tup := (PySem.W.mg_none_of KX G ztuple), all := (PySem.W.mg_none_of KX G zall) }
  unfold b25A at x1
  unfold b25E at x2
  simp only [Bool.and_eq_true] at x1 x2
  obtain ⟨kC, kN, kT, nfC, nfN, nfT, sf⟩ := x1
  obtain ⟨sB, sO, sN, oN, sI, oI, bN, bI, bO, bB⟩ := x2
  have Y : CTxt K mg uC uNew uMEq := ⟨⟨t1, t2, t3, t4⟩, t5, ⟨t7, t8, t9, t10⟩, (PySem.W.mg_of KX G aC), ⟨⟨tMEq, fMEq⟩, t17, t16⟩, t13, t14, t15, isB_eq kC, isB_eq kN, isB_eq kT, nfC, nfN, nfT⟩
  have TB : ErrT K mg "InvalidBounds" uIB := ⟨(PySem.W.mg_of KX G aIB), sB, kIB, isB_eq bB, yIB⟩
  have TO : ErrT K mg "InvalidOperation" uIO := ⟨(PySem.W.mg_of KX G aIO), sO, kIO, isB_eq bO, yIO⟩
  have E2 : Ek.EC K uUI iTail "IndexError.__new__" := ⟨sI, oI, v1, kUI, v2⟩
  have E1 : Ek.EC K uIN rTail "RuntimeError.__new__" := ⟨sN, oN, w1, kIN, w2⟩
  have DL : OO.Dun K uC "__len__" uMLen := ⟨tMLen, fMLen⟩
  have DN : OO.Dun K uC "__contains__" uMCon := ⟨tMCon, fMCon⟩
  have DA : OO.Dun K uC "__and__" uMAnd := ⟨tMAnd, fMAnd⟩
  have DS : OO.Dun K uC "__rshift__" uMShr := ⟨tMShr, fMShr⟩
  have CR : ClX.CRead K uC (.type "type") := ⟨t18, t19⟩
  have CM : ClX.CMet K uC (.type "type") "zero" uMZep uMZe := ⟨t20, ⟨_, rMZe⟩, t21⟩
  refine ⟨fnOf "law" "law" (defArgs sLaw) (defBody sLaw) (defScope sLaw) .none kVLaw dcLaw pmLaw anLaw cdLaw ctLaw, fun s v => .of_eq rfl, fun base _ _ => ?_⟩
  have GNi : FnOk l.prog w K mg base CX0 1 uMNi _ ["self", "value"] (Ek.spInitX uIN "value") := ok_initN FMNi E1 w3 (PySem.W.mg_none_of KX G zRuntimeError) w4
  have EN : ErrN l.prog w K mg base uIN := ⟨"RuntimeError", "BaseException", _, _, _, rTail, ⟨(PySem.W.mg_of KX G aIN), PySem.F.excBase_RuntimeError, ⟨by decide +kernel, by decide +kernel, by decide +kernel, by decide +kernel⟩, E1, isB_eq bN, yIN, ⟨uMNi, _, tMNi, yMNi, GNi, bMNi⟩⟩⟩
  have GUi : FnOk l.prog w K mg base CX0 1 uMUi _ ["self", "index"] (Ek.spInitX uUI "index") := ok_initI FMUi E2 v3 (PySem.W.mg_none_of KX G zIndexError) v4
  have EI : ErrI l.prog w K mg base uUI := ⟨"IndexError", "BaseException", _, _, _, iTail, ⟨(PySem.W.mg_of KX G aUI), PySem.F.excBase_IndexError, ⟨by decide +kernel, by decide +kernel, by decide +kernel, by decide +kernel⟩, E2, isB_eq bI, yUI, ⟨uMUi, _, tMUi, yMUi, GUi, bMUi⟩⟩⟩
  have pR : PropG l.prog w K mg base uC "rows" "_rows" := ⟨uPRop, uPRo, _, ⟨tPRo, gPRo, hPRo, ⟨_, rPRo⟩⟩, fn_getter lPRo qPRo scGet1 rfl rfl Y.cl Y.nR, bPRo⟩
  have GIsInteger : FnOk l.prog w K mg base CX0 1 uIsInteger _ ["value"] (spInt K) := ok_int FIsInteger X
  have GAreIntegers : FnOk l.prog w K mg base CX0 2 uAreIntegers _ ["value", "many"] (spAre K) := ok_are FAreIntegers X FIsInteger bIsInteger
  have GIsBetween : FnOk l.prog w K mg base CX0 2 uIsBetween _ ["value", "least", "most"] (spBet K) := ok_bet FIsBetween ⟨(PySem.W.mg_of KX G aIsInteger), kIsInteger, bIsInteger, GIsInteger⟩
  have GIsRows : FnOk l.prog w K mg base CX0 3 uIsRows _ ["value"] (spIsRows K) := ok_isRows FIsRows X ⟨(PySem.W.mg_of KX G aAreIntegers), kAreIntegers, bAreIntegers, GAreIntegers⟩
  have GZeroRows : FnOk l.prog w K mg base CX0 1 uZeroRows _ ["many"] (spZeroR K) := ok_zeroR FZeroRows
  have GTightRows : FnOk l.prog w K mg base CX0 1 uTightRows _ ["rows"] (spTight K) := ok_tight FTightRows X
  have GHolds : FnOk l.prog w K mg base CX0 1 uHolds _ ["rows", "point"] (spHolds K) := ok_holds FHolds X
  have GBothRows : FnOk l.prog w K mg base CX0 2 uBothRows _ ["rows", "others"] (spBoth K) := ok_both FBothRows X ⟨(PySem.W.mg_of KX G aTightRows), kTightRows, bTightRows, GTightRows⟩
  have GCutRows : FnOk l.prog w K mg base CX0 1 uCutRows _ ["rows", "i", "j", "most"] (spCutR K) := ok_cutR FCutRows X
  have GLaterRows : FnOk l.prog w K mg base CX0 1 uLaterRows _ ["rows", "time"] (spLatR K) := ok_latR FLaterRows X
  have GRisenRows : FnOk l.prog w K mg base CX0 1 uRisenRows _ ["rows", "tops"] (spRisR K) := ok_risR FRisenRows X
  have GMovedRows : FnOk l.prog w K mg base CX0 1 uMovedRows _ ["rows", "places"] (spMovR K) := ok_movR FMovedRows X
  have GArePlaces : FnOk l.prog w K mg base CX0 3 uArePlaces _ ["value", "many"] (spPla K) := ok_pla FArePlaces X (PySem.W.mg_none_of KX G zset) ⟨(PySem.W.mg_of KX G aIsBetween), kIsBetween, bIsBetween, GIsBetween⟩
  have GNew : FnOk l.prog w K mg base (L2.CX l.prog w) 4 uNew _ ["self", "rows"] (spInitB K uC uIB) := ok_initB FNew Y TB ⟨(PySem.W.mg_of KX G aIsRows), kIsRows, bIsRows, GIsRows⟩ ⟨(PySem.W.mg_of KX G aTightRows), kTightRows, bTightRows, GTightRows⟩
  have GMLen : FnOk l.prog w K mg base CX0 1 uMLen _ ["self"] (spLenB uC) := ok_lenB FMLen Y (PySem.W.mg_none_of KX G zlen)
  have GCheckClocks : FnOk l.prog w K mg base (L2.CX l.prog w) 3 uCheckClocks _ ["bounds", "other"] (spCheckX K uC uIO) := ok_checkX FCheckClocks Y TO (PySem.W.mg_none_of KX G zisinstance) (PySem.W.mg_none_of KX G zlen) DL GMLen bMLen
  have GMAnd : FnOk l.prog w K mg base (L2.CX l.prog w) 6 uMAnd _ ["self", "other"] (spAndX K uC uIO) := ok_andX FMAnd Y ⟨(PySem.W.mg_of KX G aCheckClocks), kCheckClocks, bCheckClocks, GCheckClocks⟩ ⟨(PySem.W.mg_of KX G aBothRows), kBothRows, bBothRows, GBothRows⟩ GNew bNew
  have GMCon : FnOk l.prog w K mg base CX0 3 uMCon _ ["self", "value"] (spConB uC) := ok_conB FMCon Y (PySem.W.mg_none_of KX G zlen) DL GMLen bMLen ⟨(PySem.W.mg_of KX G aAreIntegers), kAreIntegers, bAreIntegers, GAreIntegers⟩ ⟨(PySem.W.mg_of KX G aHolds), kHolds, bHolds, GHolds⟩
  have GMCut : FnOk l.prog w K mg base (L2.CX l.prog w) 6 uMCut _ ["self", "i", "j", "most"] (spCutB K uC uUI uIN) := ok_cutB FMCut Y EN EI (PySem.W.mg_none_of KX G zlen) DL GMLen bMLen ⟨(PySem.W.mg_of KX G aIsBetween), kIsBetween, bIsBetween, GIsBetween⟩ ⟨(PySem.W.mg_of KX G aIsInteger), kIsInteger, bIsInteger, GIsInteger⟩ ⟨(PySem.W.mg_of KX G aCutRows), kCutRows, bCutRows, GCutRows⟩ GNew bNew
  have GMZe : FnOk l.prog w K mg base (L2.CX l.prog w) 6 uMZe _ ["cls", "many"] (spZeroB K uC uIN) := ok_zeroB FMZe X Y EN ⟨(PySem.W.mg_of KX G aIsBetween), kIsBetween, bIsBetween, GIsBetween⟩ ⟨(PySem.W.mg_of KX G aZeroRows), kZeroRows, bZeroRows, GZeroRows⟩ GNew bNew
  have GMLea : FnOk l.prog w K mg base CX0 1 uMLea _ ["self"] (spLeast uC) := ok_least FMLea Y (PySem.W.mg_none_of KX G ztuple)
  have GMShr : FnOk l.prog w K mg base (L2.CX l.prog w) 6 uMShr _ ["self", "time"] (spShrB K uC uIN) := ok_shrB FMShr Y EN ⟨(PySem.W.mg_of KX G aIsInteger), kIsInteger, bIsInteger, GIsInteger⟩ ⟨(PySem.W.mg_of KX G aLaterRows), kLaterRows, bLaterRows, GLaterRows⟩ ⟨(PySem.W.mg_of KX G aIsRows), kIsRows, bIsRows, GIsRows⟩ GNew bNew
  have GMRis : FnOk l.prog w K mg base (L2.CX l.prog w) 6 uMRis _ ["self", "tops"] (spRisB K uC uIB) := ok_risB FMRis Y TB (PySem.W.mg_none_of KX G zlen) DL GMLen bMLen ⟨(PySem.W.mg_of KX G aAreIntegers), kAreIntegers, bAreIntegers, GAreIntegers⟩ ⟨(PySem.W.mg_of KX G aRisenRows), kRisenRows, bRisenRows, GRisenRows⟩ GNew bNew
  have GMMov : FnOk l.prog w K mg base (L2.CX l.prog w) 6 uMMov _ ["self", "places"] (spMovB K uC uIB) := ok_movB FMMov Y TB (PySem.W.mg_none_of KX G zlen) DL GMLen bMLen ⟨(PySem.W.mg_of KX G aArePlaces), kArePlaces, bArePlaces, GArePlaces⟩ ⟨(PySem.W.mg_of KX G aMovedRows), kMovedRows, bMovedRows, GMovedRows⟩ GNew bNew
  have GThrow : FnOk l.prog w K mg base CX0 1 uThrow _ ["bag", "total"] (spThrow) := ok_throw FThrow TX
  have GStart : FnOk l.prog w K mg base CX0 1 uStart _ ["script", "at"] (spStart K) := ok_start FStart TX
  have GGreatest : FnOk l.prog w K mg base CX0 1 uGreatest _ ["points"] (spGreat) := ok_great FGreatest PX
  have S2 : At_ l.prog w K mg base CX0 3 "_law_same" uSame _ ["one", "other"] spSame2 := ⟨(PySem.W.mg_of KX G aSame), kSame, bSame, ok_same2 FSame SX (PySem.W.mg_of KX G aSame) bSame⟩
  have S1 : At_ l.prog w K mg base CX0 2 "_law_same" uSame _ ["one", "other"] spSame1 := ⟨(PySem.W.mg_of KX G aSame), kSame, bSame, ok_same1 FSame SX (PySem.W.mg_of KX G aSame) bSame⟩
  have GIsOf : FnOk l.prog w K mg base CX0 4 uIsOf _ ["bounds", "points"] (spIsOf uC) := ok_isOf FIsOf PX Y S2 ⟨(PySem.W.mg_of KX G aGreatest), kGreatest, bGreatest, GGreatest⟩ pR
  have GRisen : FnOk l.prog w K mg base CX0 1 uRisen _ ["points", "tops"] (spRisP) := ok_risP FRisen AX
  have GMoved : FnOk l.prog w K mg base CX0 1 uMoved _ ["points", "places"] (spMovP) := ok_movP FMoved AX
  have GDueNow : FnOk l.prog w K mg base CX0 1 uDueNow _ ["points", "tops", "gone"] (spDue) := ok_due FDueNow AX
  have GCutTo : FnOk l.prog w K mg base CX0 7 uCutTo _ ["bounds", "tops", "gone"] (spCutTo uC) := ok_cutTo FCutTo AX Y ⟨tMCut, fMCut, kMCut⟩ GMCut bMCut
  have GPlaces : FnOk l.prog w K mg base CX0 2 uPlaces _ ["bag", "many", "gone"] (spPl) := ok_pl FPlaces AX ⟨(PySem.W.mg_of KX G aThrow), kThrow, bThrow, GThrow⟩
  exact Bd.ok_law5 FLaw LX Y ⟨(PySem.W.mg_of KX G aStart), kStart, bStart, GStart⟩ ⟨(PySem.W.mg_of KX G aThrow), kThrow, bThrow, GThrow⟩ ⟨(PySem.W.mg_of KX G aDueNow), kDueNow, bDueNow, GDueNow⟩ ⟨(PySem.W.mg_of KX G aCutTo), kCutTo, bCutTo, GCutTo⟩ ⟨(PySem.W.mg_of KX G aIsOf), kIsOf, bIsOf, GIsOf⟩ ⟨(PySem.W.mg_of KX G aPlaces), kPlaces, bPlaces, GPlaces⟩ ⟨(PySem.W.mg_of KX G aMoved), kMoved, bMoved, GMoved⟩ S1 ⟨(PySem.W.mg_of KX G aRisen), kRisen, bRisen, GRisen⟩ CR CM GMZe bMZe ⟨tMMov, fMMov, kMMov⟩ GMMov bMMov ⟨tMRis, fMRis, kMRis⟩ GMRis bMRis ⟨tMLea, fMLea, kMLea⟩ GMLea bMLea DN GMCon bMCon DA sf GMAnd bMAnd DS (binOk_t x3) GMShr bMShr
theorem walk {l : PySem.W.OpenLaw} {q : Program} {loose : List Str} {XP : (Str → Option Value) → Heap → Prop} {YP : World → Heap → Prop} {d : DefRec} {K : Params → PySem.W.Frag} (hn : l.most = some 63) (hdf : d.params.defaults = [])
    (hY : ∀ (w : World) (h : Heap), YP w h → (K w.params).In h)
    (F : ∀ (w : World) (mg : Str → Option Value) (fa : Addr) (h : Heap), (K w.params).In h → h.Ns mainGlobals mg → mg d.name = some (.ref fa) →
      ∃ fd : FuncData, (∀ (s : Shared) (u : Value), BindsTo s fd ⟨[u], []⟩ [("script", u)]) ∧ ∀ base : Heap, (K w.params).In base → base.Ns mainGlobals mg → GnOk l.prog w (K w.params) mg base CX0 8 fa fd ["script"] (Bd.spLaw (K w.params))) :
    PySem.W.WalkO q loose XP YP l.row.toRowW d [] (fun f vs => PySem.call f vs) :=
  Br.walk_ofG (n := 63) (k := 8) (x := "script") (sp := Bd.spLaw) hn (by decide) hdf ⟨rfl, by decide, by decide⟩ hY F fun _ _ a ns hl _ hS => ⟨a, ns, rfl, hS, hl, fun _ => rfl⟩
end Bd

set_option Elab.async false
set_option linter.all false
set_option pp.maxSteps 300
set_option pp.deepTerms false
open PySem PySem.W PyProof.Rows in
set_option maxRecDepth 100000 in
set_option maxHeartbeats 0 in
theorem PySem.Challenge.cw_pushalike_k25_whole_histories_of_bounds_holds : PySem.Challenge.rw_pushalike_k25_whole_histories_of_bounds.Holds := by
  w_on; o_law; k_head; (case hw => w_witness2)
  k_fill
  refine Bd.walk (l := PySem.Challenge.rw_pushalike_k25_whole_histories_of_bounds) rfl rfl (fun w h Y => PySem.W.kIn_of Y) ?F
  case F =>
    intro w mg fa h KX G hmg
    refine' Bd.all_mk KX G hmg ?aIsInteger ?lIsInteger ?qIsInteger ?kIsInteger ?aAreIntegers ?lAreIntegers ?qAreIntegers ?kAreIntegers ?aIsBetween ?lIsBetween ?qIsBetween ?kIsBetween ?aIsRows ?lIsRows ?qIsRows ?kIsRows ?aZeroRows ?lZeroRows ?qZeroRows ?kZeroRows ?aTightRows ?lTightRows ?qTightRows ?kTightRows ?aHolds ?lHolds ?qHolds ?kHolds ?aBothRows ?lBothRows ?qBothRows ?kBothRows ?aCutRows ?lCutRows ?qCutRows ?kCutRows ?aLaterRows ?lLaterRows ?qLaterRows ?kLaterRows ?aRisenRows ?lRisenRows ?qRisenRows ?kRisenRows ?aMovedRows ?lMovedRows ?qMovedRows ?kMovedRows ?aCheckClocks ?lCheckClocks ?qCheckClocks ?kCheckClocks ?aArePlaces ?lArePlaces ?qArePlaces ?kArePlaces ?aStart ?lStart ?qStart ?kStart ?aThrow ?lThrow ?qThrow ?kThrow ?aGreatest ?lGreatest ?qGreatest ?kGreatest ?aSame ?lSame ?qSame ?kSame ?aIsOf ?lIsOf ?qIsOf ?kIsOf ?aRisen ?lRisen ?qRisen ?kRisen ?aPlaces ?lPlaces ?qPlaces ?kPlaces ?aMoved ?lMoved ?qMoved ?kMoved ?aDueNow ?lDueNow ?qDueNow ?kDueNow ?aCutTo ?lCutTo ?qCutTo ?kCutTo ?aLaw ?lLaw ?qLaw ?kLaw ?zlen ?zint ?zbool ?ztuple ?zall ?zany ?zrange ?zisinstance ?zabs ?zlist ?zmax ?zmin ?zzip ?zset ?zsorted ?zenumerate ?zRuntimeError ?zIndexError ?cIE ?eIE ?cMC ?eMC ?aC ?aIN ?aUI ?aIO ?aIB ?t8 ?tMLen ?tMEq ?tMAnd ?tMCut ?tMCon ?tMLea ?tMShr ?tMRis ?tMMov ?tPRo ?rPRo ?tMZe ?rMZe ?tMNi ?tMUi ?lNew ?qNew ?kNew ?lMLen ?qMLen ?kMLen ?fMLen ?lMEq ?qMEq ?kMEq ?fMEq ?lMAnd ?qMAnd ?kMAnd ?fMAnd ?lMCut ?qMCut ?kMCut ?fMCut ?lMCon ?qMCon ?kMCon ?fMCon ?lMLea ?qMLea ?kMLea ?fMLea ?lMShr ?qMShr ?kMShr ?fMShr ?lMRis ?qMRis ?kMRis ?fMRis ?lMMov ?qMMov ?kMMov ?fMMov ?lPRo ?qPRo ?kPRo ?gPRo ?hPRo ?lMZe ?qMZe ?kMZe ?lMNi ?qMNi ?kMNi ?yMNi ?lMUi ?qMUi ?kMUi ?yMUi ?t1 ?t2 ?t3 ?t4 ?t5 ?t7 ?t9 ?t10 ?t13 ?t14 ?t15 ?t16 ?t17 ?t18 ?t19 ?t20 ?t21 ?x1 ?x2 ?x3 ?kIN ?yIN ?kUI ?yUI ?kIO ?yIO ?kIB ?yIB ?w1 ?w2 ?w3 ?w4 ?w5 ?w6 ?w7 ?v1 ?v2 ?v3 ?v4 ?v5 ?v6 ?v7
    (case aIsInteger => k_is)
    (case lIsInteger => k_is)
    (case qIsInteger => k_is)
    (case kIsInteger => k_is)
    (case aAreIntegers => k_is)
    (case lAreIntegers => k_is)
    (case qAreIntegers => k_is)
    (case kAreIntegers => k_is)
    (case aIsBetween => k_is)
    (case lIsBetween => k_is)
    (case qIsBetween => k_is)
    (case kIsBetween => k_is)
    (case aIsRows => k_is)
    (case lIsRows => k_is)
    (case qIsRows => k_is)
    (case kIsRows => k_is)
    (case aZeroRows => k_is)
    (case lZeroRows => k_is)
    (case qZeroRows => k_is)
    (case kZeroRows => k_is)
    (case aTightRows => k_is)
    (case lTightRows => k_is)
    (case qTightRows => k_is)
    (case kTightRows => k_is)
    (case aHolds => k_is)
    (case lHolds => k_is)
    (case qHolds => k_is)
    (case kHolds => k_is)
    (case aBothRows => k_is)
    (case lBothRows => k_is)
    (case qBothRows => k_is)
    (case kBothRows => k_is)
    (case aCutRows => k_is)
    (case lCutRows => k_is)
    (case qCutRows => k_is)
    (case kCutRows => k_is)
    (case aLaterRows => k_is)
    (case lLaterRows => k_is)
    (case qLaterRows => k_is)
    (case kLaterRows => k_is)
    (case aRisenRows => k_is)
    (case lRisenRows => k_is)
    (case qRisenRows => k_is)
    (case kRisenRows => k_is)
    (case aMovedRows => k_is)
    (case lMovedRows => k_is)
    (case qMovedRows => k_is)
    (case kMovedRows => k_is)
    (case aCheckClocks => k_is)
    (case lCheckClocks => k_is)
    (case qCheckClocks => k_is)
    (case kCheckClocks => k_is)
    (case aArePlaces => k_is)
    (case lArePlaces => k_is)
    (case qArePlaces => k_is)
    (case kArePlaces => k_is)
    (case aStart => k_is)
    (case lStart => k_is)
    (case qStart => k_is)
    (case kStart => k_is)
    (case aThrow => k_is)
    (case lThrow => k_is)
    (case qThrow => k_is)
    (case kThrow => k_is)
    (case aGreatest => k_is)
    (case lGreatest => k_is)
    (case qGreatest => k_is)
    (case kGreatest => k_is)
    (case aSame => k_is)
    (case lSame => k_is)
    (case qSame => k_is)
    (case kSame => k_is)
    (case aIsOf => k_is)
    (case lIsOf => k_is)
    (case qIsOf => k_is)
    (case kIsOf => k_is)
    (case aRisen => k_is)
    (case lRisen => k_is)
    (case qRisen => k_is)
    (case kRisen => k_is)
    (case aPlaces => k_is)
    (case lPlaces => k_is)
    (case qPlaces => k_is)
    (case kPlaces => k_is)
    (case aMoved => k_is)
    (case lMoved => k_is)
    (case qMoved => k_is)
    (case kMoved => k_is)
    (case aDueNow => k_is)
    (case lDueNow => k_is)
    (case qDueNow => k_is)
    (case kDueNow => k_is)
    (case aCutTo => k_is)
    (case lCutTo => k_is)
    (case qCutTo => k_is)
    (case kCutTo => k_is)
    (case aLaw => k_is)
    (case lLaw => k_is)
    (case qLaw => k_is)
    (case kLaw => k_is)
    (case zlen => k_is)
    (case zint => k_is)
    (case zbool => k_is)
    (case ztuple => k_is)
    (case zall => k_is)
    (case zany => k_is)
    (case zrange => k_is)
    (case zisinstance => k_is)
    (case zabs => k_is)
    (case zlist => k_is)
    (case zmax => k_is)
    (case zmin => k_is)
    (case zzip => k_is)
    (case zset => k_is)
    (case zsorted => k_is)
    (case zenumerate => k_is)
    (case zRuntimeError => k_is)
    (case zIndexError => k_is)
    (case cIE => k_is)
    (case eIE => first | rfl | decide +kernel)
    (case cMC => k_is)
    (case eMC => first | rfl | decide +kernel)
    (case aC => k_is)
    (case aIN => k_is)
    (case aUI => k_is)
    (case aIO => k_is)
    (case aIB => k_is)
    (case t8 => k_is)
    (case tMLen => k_is)
    (case tMEq => k_is)
    (case tMAnd => k_is)
    (case tMCut => k_is)
    (case tMCon => k_is)
    (case tMLea => k_is)
    (case tMShr => k_is)
    (case tMRis => k_is)
    (case tMMov => k_is)
    (case tPRo => k_is)
    (case rPRo => k_is)
    (case tMZe => k_is)
    (case rMZe => k_is)
    (case tMNi => k_is)
    (case tMUi => k_is)
    (case lNew => k_is)
    (case qNew => k_is)
    (case kNew => k_is)
    (case lMLen => k_is)
    (case qMLen => k_is)
    (case kMLen => k_is)
    (case fMLen => k_is)
    (case lMEq => k_is)
    (case qMEq => k_is)
    (case kMEq => k_is)
    (case fMEq => k_is)
    (case lMAnd => k_is)
    (case qMAnd => k_is)
    (case kMAnd => k_is)
    (case fMAnd => k_is)
    (case lMCut => k_is)
    (case qMCut => k_is)
    (case kMCut => k_is)
    (case fMCut => k_is)
    (case lMCon => k_is)
    (case qMCon => k_is)
    (case kMCon => k_is)
    (case fMCon => k_is)
    (case lMLea => k_is)
    (case qMLea => k_is)
    (case kMLea => k_is)
    (case fMLea => k_is)
    (case lMShr => k_is)
    (case qMShr => k_is)
    (case kMShr => k_is)
    (case fMShr => k_is)
    (case lMRis => k_is)
    (case qMRis => k_is)
    (case kMRis => k_is)
    (case fMRis => k_is)
    (case lMMov => k_is)
    (case qMMov => k_is)
    (case kMMov => k_is)
    (case fMMov => k_is)
    (case lPRo => k_is)
    (case qPRo => k_is)
    (case kPRo => k_is)
    (case gPRo => k_is)
    (case hPRo => k_is)
    (case lMZe => k_is)
    (case qMZe => k_is)
    (case kMZe => k_is)
    (case lMNi => k_is)
    (case qMNi => k_is)
    (case kMNi => k_is)
    (case yMNi => k_is)
    (case lMUi => k_is)
    (case qMUi => k_is)
    (case kMUi => k_is)
    (case yMUi => k_is)
    (case t1 => k_is)
    (case t2 => k_is)
    (case t3 => k_is)
    (case t4 => k_is)
    (case t5 => k_is)
    (case t7 => k_is)
    (case t9 => k_is)
    (case t10 => k_is)
    (case t13 => k_is)
    (case t14 => k_is)
    (case t15 => k_is)
    (case t16 => k_is)
    (case t17 => k_is)
    (case t18 => first | k_is | kernel_rfl)
    (case t19 => first | k_is | kernel_rfl)
    (case t20 => first | k_is | kernel_rfl)
    (case t21 => first | k_is | kernel_rfl)
    (case x1 => kernel_rfl)
    (case x2 => kernel_rfl)
    (case x3 => kernel_rfl)
    (case kIN => k_is)
    (case yIN => k_is)
    (case kUI => k_is)
    (case yUI => k_is)
    (case kIO => k_is)
    (case yIO => k_is)
    (case kIB => k_is)
    (case yIB => k_is)
    (case w1 => k_is)
    (case w2 => k_is)
    (case w3 => first | k_is | kernel_rfl)
    (case w4 => k_is)
    (case w5 => k_is)
    (case w6 => k_is)
    (case w7 => k_is)
    (case v1 => k_is)
    (case v2 => k_is)
    (case v3 => first | k_is | kernel_rfl)
    (case v4 => k_is)
    (case v5 => k_is)
    (case v6 => k_is)
    (case v7 => k_is)
