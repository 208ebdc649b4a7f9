import PyProof.Rows.All
import Wide.All
import OpenK.AllK
import Wide.FinOn
import HandS.ForMost
import HandS.Set
import HandS.SetFor
import HandS.Strs
import HandS.Words
import HandS.Wide
import HandS.Walk
import HandS.IsInst
import HandS.WordsDict
import HandS.Sort
import HandS.More
import HandS.Conv
import HandS.OwnEq
import HandS.HeadHook3
import HandS.Defaults
import PySem.Challenge.RW_pushalike_k01_words
set_option Elab.async false
set_option linter.all false
set_option maxRecDepth 100000
set_option maxHeartbeats 4000000
/-! Sets of texts, with the list of their members: made of a list or a tuple, added to, sorted. -/
namespace TS
open PySem PySem.Spec PyProof.Rows L2
/-- one entry holds the text k -/
def Holds (w : World) (e : Int × Value) (k : Str) : Prop := ∃ tk, e.2 = Value.str k tk ∧ e.1 = hashStr w k
/-- at a stands a set of just the texts ks (no order is told) -/
def SetT (w : World) (h : Heap) (a : Addr) (ks : List Str) : Prop :=
  ∃ o es ep t ms, h.get? a = some o ∧ o.ExactSet ∧ o.data = .set es ep t ∧ Paired (Holds w) es.toList ms ∧ ms.Nodup ∧ ms.Perm ks ∧ es.size < scanBound ∧
    t.fits es.size = true ∧ Ris t.place.toList ∧ (w.params.followText "set-order" = true ∨ t.led = true)
theorem paired_perm {α β : Type} {F : α → β → Prop} {l l' : List α} (p : l'.Perm l) : ∀ {m : List β}, Paired F l m → ∃ m', m'.Perm m ∧ Paired F l' m' := by
  induction p with
  | nil =>
    intro m h
    exact ⟨m, List.Perm.refl _, h⟩
  | cons x _ ih =>
    intro m h
    cases h with
    | cons r t =>
      obtain ⟨m', q, z⟩ := ih t
      exact ⟨_ :: m', q.cons _, .cons r z⟩
  | swap x y l =>
    intro m h
    cases h with
    | cons r t =>
      cases t with
      | cons r2 t2 => exact ⟨_, List.Perm.swap _ _ _, .cons r2 (.cons r t2)⟩
  | trans _ _ ih1 ih2 =>
    intro m h
    obtain ⟨m1, q1, z1⟩ := ih2 h
    obtain ⟨m2, q2, z2⟩ := ih1 z1
    exact ⟨m2, q2.trans q1, z2⟩
section
variable {P : Program} {w : World}
theorem is_iff {e : Int × Value} {m : Str} (h : Holds w e m) (k : Str) : (strKind P w).is k e.2 = true ↔ m = k := by
  obtain ⟨tk, h1, _⟩ := h
  rw [h1]
  show ((m == k) = true) ↔ m = k
  exact beq_iff_eq
theorem elems : ∀ {l : List (Int × Value)} {ms : List Str}, Paired (Holds w) l ms → ElemsOf (strKind P w) l
  | _, _, .nil => fun e he => by cases he
  | _, _, .cons r t => fun e he => by
    rcases List.mem_cons.mp he with z | z
    · subst z
      obtain ⟨tk, h1, h2⟩ := r
      exact ⟨⟨_, by rw [h1]; exact beq_iff_eq.mpr rfl, h2⟩, by rw [h1] <;> rfl⟩
    · exact elems t e z
theorem mem_of : ∀ {l : List (Int × Value)} {ms : List Str}, Paired (Holds w) l ms → ∀ k, k ∈ ms ↔ ∃ e ∈ l, (strKind P w).is k e.2 = true
  | _, _, .nil, k => by simp
  | _, _, .cons r t, k => by
    rw [List.mem_cons, mem_of t k]
    constructor
    · rintro (z | ⟨e, he, q⟩)
      · exact ⟨_, List.mem_cons_self, (is_iff r k).2 z.symm⟩
      · exact ⟨e, List.mem_cons_of_mem _ he, q⟩
    · rintro ⟨e, he, q⟩
      rcases List.mem_cons.mp he with z | z
      · subst z
        exact .inl ((is_iff r k).1 q).symm
      · exact .inr ⟨e, z, q⟩
theorem strs_of : ∀ {l : List (Int × Value)} {ms : List Str}, Paired (Holds w) l ms → StrsAre (l.map (·.2)) ms
  | _, _, .nil => .nil
  | _, _, .cons (a := e) r t => by
    obtain ⟨tk, h1, _⟩ := r
    show StrsAre (e.2 :: _) _
    rw [h1]
    exact .cons _ _ (strs_of t)
theorem strs_perm {vs ws : List Value} (p : ws.Perm vs) : ∀ {ss : List Str}, StrsAre vs ss → ∃ ss', ss'.Perm ss ∧ StrsAre ws ss' := by
  induction p with
  | nil =>
    intro ss h
    exact ⟨ss, List.Perm.refl _, h⟩
  | cons x _ ih =>
    intro ss h
    cases h with
    | cons y t h =>
      obtain ⟨m, q, z⟩ := ih h
      exact ⟨_ :: m, q.cons _, .cons _ _ z⟩
  | swap x y l =>
    intro ss h
    cases h with
    | cons y t h =>
      cases h with
      | cons y2 t2 h => exact ⟨_, List.Perm.swap _ _ _, .cons _ _ (.cons _ _ h)⟩
  | trans _ _ ih1 ih2 =>
    intro ss h
    obtain ⟨m1, q1, z1⟩ := ih2 h
    obtain ⟨m2, q2, z2⟩ := ih1 z1
    exact ⟨m2, q2.trans q1, z2⟩
end
section
variable {P : Program} {w : World} {A : Around} {E : Value → Shared → Prop} {s : Shared} {a : Addr} {ks : List Str}
theorem SetT.at {h h' : Heap} (R : SetT w h a ks) (k : ∀ o, h.get? a = some o → h'.get? a = some o) : SetT w h' a ks := by
  obtain ⟨o, es, ep, t, ms, ho, rest⟩ := R
  exact ⟨o, es, ep, t, ms, k o ho, rest⟩
theorem SetT.perm {h : Heap} {ks' : List Str} (R : SetT w h a ks) (p : ks.Perm ks') : SetT w h a ks' := by
  obtain ⟨o, es, ep, t, ms, ho, hx, hd, hp, nd, pm, rest⟩ := R
  exact ⟨o, es, ep, t, ms, ho, hx, hd, hp, nd, pm.trans p, rest⟩
/-- laid, and laid anew where it is too full -/
theorem laid {g : Bool → Sem Unit} (hg : ∀ (b : Bool) (s1 : Shared) (Q' : Unit → Shared → Prop), Q' () s1 → wpAny (model P w) A (g b) Q' E s1)
    {o : Obj} {es : Array (Int × Value)} {ep : Nat} {t : SetTable} (ho : s.heap.get? a = some o) (hx : o.ExactSet) (hd : o.data = .set es ep t)
    {fs : Array (Int × Value)} {u : SetTable} {ms : List Str} (hp : Paired (Holds w) fs.toList ms) (nd : ms.Nodup) (pm : ms.Perm ks) (small : fs.size < scanBound) (fit : u.fits fs.size = true)
    (ris : Ris u.place.toList) (led : w.params.followText "set-order" = true ∨ u.led = true) {dummy : Bool} {R : Option Bool → Shared → Prop}
    (hR : ∀ h', Heap.SameBut a s.heap h' → SetT w h' a ks → R (some true) { s with heap := h' }) :
    wpAny (model P w) A (do
        storeSet a fs u
        if (!dummy && u.tooFull) = true then do
            g (relayAll u fs (SetTable.grown fs.size)).2.2
            storeSet a (relayAll u fs (SetTable.grown fs.size)).1 (relayAll u fs (SetTable.grown fs.size)).2.1
            pure (some true)
          else pure (some true)) R E s := by
  refine wpAny_bind (wpAny_storeSet_of ho hd ?_ (fits_of_scanBound small))
  have now := store_at (es' := fs) (t' := u) ho hd
  have but := Heap.SameBut.update s.heap a (Obj.putSet fs u)
  split
  · have p2 := relayAll_perm u fs (SetTable.grown fs.size)
    have f2 := relayAll_fits u fs (SetTable.grown fs.size)
    have r2 := relayAll_ris u fs (SetTable.grown fs.size)
    have l2 := relayAll_led u fs (SetTable.grown fs.size)
    generalize relayAll u fs (SetTable.grown fs.size) = Z at p2 f2 r2 l2 ⊢
    obtain ⟨gs, v, gave⟩ := Z
    dsimp only at p2 f2 r2 l2 ⊢
    have size : gs.size = fs.size := by rw [← Array.length_toList, p2.length_eq, Array.length_toList]
    obtain ⟨ms', q1, q2⟩ := paired_perm p2 hp
    refine wpAny_bind (hg _ _ _ (wpAny_bind (wpAny_storeSet_of now rfl ?_ (fits_of_scanBound (by rw [size]; exact small)))))
    have again := store_at (es' := gs) (t' := v) now rfl
    refine wpAny_pure (hR _ (but.trans (Heap.SameBut.update _ a _)) ?_)
    exact ⟨_, gs, _, v, ms', again, hx, rfl, q2, q1.nodup_iff.mpr nd, q1.trans pm, by rw [size]; exact small, f2, r2, led.imp id fun z => by rw [l2]; exact z⟩
  · exact wpAny_pure (hR _ but ⟨_, fs, _, u, ms, now, hx, rfl, hp, nd, pm, small, fit, ris, led⟩)
/-- one text added -/
theorem added {k : Str} {tk : Tok} {Q : Bool → Shared → Prop} (R : SetT w s.heap a ks) (room : ks.length + 1 < scanBound)
    (old : k ∈ ks → ∀ h', Heap.SameBut a s.heap h' → SetT w h' a ks → Q false { s with heap := h' })
    (new : k ∉ ks → ∀ h', Heap.SameBut a s.heap h' → SetT w h' a (k :: ks) → Q true { s with heap := h' }) :
    wpAny (model P w) A (setAddHashed a (.str k tk) ((strKind P w).hash k)) Q E s := by
  have R0 := R
  obtain ⟨o, es, ep, t, ms, ho, hx, hd, hp, nd, pm, small, fit, ris, led⟩ := R
  have key : (strKind P w).is k (.str k tk) = true := beq_iff_eq.mpr rfl
  have scan : (Value.str k tk).scannable = true := rfl
  have el : ElemsOf (strKind P w) es.toList := elems hp
  have cnt : es.size = ks.length := by
    rw [← Array.length_toList, Paired.length hp, pm.length_eq]
  unfold setAddHashed setAddHashedIn
  refine wpAny_holding (wpAny_bind (wpAny_setState_of ho hd fit ?_))
  dsimp only
  rw [byScan_of scan small el]
  simp only [↓reduceIte]
  unfold setAddByScan
  refine wpAny_bind (wpAny_bind (wpAny_rule (wpAny_bind (wpAny_setScan_of key ho hd fit el ?_))))
  cases found : List.findIdx? (fun e => (strKind P w).is k e.2) es.toList with
  | some j =>
    dsimp only
    obtain ⟨hj, pj, _⟩ := List.findIdx?_eq_some_iff_getElem.mp found
    have inn : k ∈ ks := pm.mem_iff.mp ((mem_of (P := P) hp k).2 ⟨es.toList[j], List.getElem_mem hj, pj⟩)
    exact wpAny_pure (wpAny_pure (old inn s.heap (Heap.SameBut.refl a s.heap) R0))
  | none =>
    dsimp only
    have out : k ∉ ms := fun z => by
      obtain ⟨e, he, q⟩ := (mem_of (P := P) hp k).1 z
      have c := List.findIdx?_eq_none_iff.mp found e he
      rw [q] at c
      cases c
    have outk : k ∉ ks := fun z => out (pm.mem_iff.mpr z)
    have way : ∀ (b : Bool) {s1 : Shared} {Q' : Unit → Shared → Prop}, Q' () s1 → wpAny (model P w) A (match b with | true => rule "set.scan.the-table-gave-way" | false => pure ()) Q' E s1 :=
      fun b s1 Q' q => by
        cases b
        · exact wpAny_pure q
        · exact wpAny_rule q
    have p1 := layNew_perm t es ((strKind P w).hash k) (.str k tk)
    have f1 := layNew_fits t es ((strKind P w).hash k) (.str k tk)
    have r1 := layNew_ris t es ((strKind P w).hash k) (.str k tk) ris
    have l1 := layNew_led t es ((strKind P w).hash k) (.str k tk)
    generalize layNew t es ((strKind P w).hash k) (.str k tk) = Z at p1 f1 r1 l1 ⊢
    obtain ⟨fs, u, dummy, gave⟩ := Z
    dsimp only at p1 f1 r1 l1 ⊢
    rw [Array.toList_push] at p1
    have p2 : fs.toList.Perm (((strKind P w).hash k, Value.str k tk) :: es.toList) := p1.trans (List.perm_append_singleton _ _)
    have more : Paired (Holds w) (((strKind P w).hash k, Value.str k tk) :: es.toList) (k :: ms) := .cons ⟨tk, rfl, rfl⟩ hp
    obtain ⟨ms', q1, q2⟩ := paired_perm p2 more
    have nd' : ms'.Nodup := q1.nodup_iff.mpr (List.nodup_cons.mpr ⟨out, nd⟩)
    have pm' : ms'.Perm (k :: ks) := q1.trans (pm.cons k)
    have size : fs.size = ks.length + 1 := by rw [← Array.length_toList, p2.length_eq, List.length_cons, Array.length_toList, cnt]
    have small' : fs.size < scanBound := by rw [size]; exact room
    have led' : w.params.followText "set-order" = true ∨ u.led = true := led.imp id fun z => by rw [l1]; exact z
    refine wpAny_bind (way _ ?_)
    split
    · refine wpAny_bind ?_
      rw [hashByValue_scannable 8 scan]
      refine wpAny_pure ?_
      refine laid (ks := k :: ks) ?_ ho hx hd q2 nd' pm' small' ?_ ?_ ?_ ?_
      · intro b s1 Q' q
        cases b
        · exact wpAny_pure q
        · exact wpAny_rule q
      · first | (split <;> first | exact f1 | exact SetTable.fits_plain_off f1) | exact f1
      · first | (split <;> exact r1) | exact r1
      · first | (split <;> exact led') | exact led'
      · intro h' sb r
        dsimp only
        exact wpAny_pure (new outk h' sb r)
    · refine wpAny_bind (wpAny_pure ?_)
      simp only [↓reduceIte]
      refine laid (ks := k :: ks) ?_ ho hx hd q2 nd' pm' small' f1 r1 led' ?_
      · intro b s1 Q' q
        cases b
        · exact wpAny_pure q
        · exact wpAny_rule q
      · intro h' sb r
        dsimp only
        exact wpAny_pure (new outk h' sb r)

/-- the loop of set(..) over what is walked: its items are the texts xs -/
theorem updates {I : Addr} {fp wr : List Addr} {G : Array GenState → Array GenState → Prop} {n : Nat} {Pv : Nat → Value → Prop} {St : Nat → Shared → Prop} {R : Result → Shared → Prop}
    (W : WalksS P w A.in1 I fp wr G n Pv St) (S : Addr) (away : S ∉ fp) (xs : List Str) (hn : n = xs.length) (room : xs.length + 1 < scanBound) (val : ∀ i v, Pv i v → ∃ k t, xs[i]? = some k ∧ v = .str k t) :
    ∀ (m i : Nat) (s : Shared), n - i = m → i ≤ n → St i s → (∃ ks, (∀ k, k ∈ ks ↔ k ∈ xs.take i) ∧ ks.Nodup ∧ ks.length ≤ i ∧ SetT w s.heap S ks) →
      (∀ s' ks, Moved (S :: wr) G s s' → (∀ k, k ∈ ks ↔ k ∈ xs) → ks.Nodup → ks.length ≤ n → SetT w s'.heap S ks → R (.ok (.ret .none)) s') →
      codeAny (model P w) A (.builtin "set.update.loop" ⟨[.ref S, .ref I], []⟩) R s := by
  have notW : S ∉ wr := fun h => away (W.sub _ h)
  have into : ∀ b ∈ wr, b ∈ S :: wr := fun b hb => List.mem_cons_of_mem _ hb
  intro m
  induction m with
  | zero =>
    intro i s hm hi st ⟨ks, in1, nd1, len1, set1⟩ done
    obtain rfl : i = n := by omega
    refine codeAny_builtin F.entry_set_update_loop ?_
    rw [Around.under_plainId F.plain_set_update_loop _]
    show wpAny _ A.in1 (pyNext (.ref I) >>= _) _ _ s
    refine wpAny_bind (W.done s _ _ st fun s' hmv => ?_)
    show wpAny _ A.in1 (ret Value.none) _ _ s'
    have whole : xs.take i = xs := List.take_of_length_le (by omega)
    rw [whole] at in1
    exact wpAny_pure (done s' ks (hmv.mono into) in1 nd1 len1 (set1.at fun o e => hmv.heap S o notW e))
  | succ m ih =>
    intro i s hm hi st ⟨ks, in1, nd1, len1, set1⟩ done
    have lt : i < n := by omega
    refine codeAny_builtin F.entry_set_update_loop ?_
    rw [Around.under_plainId F.plain_set_update_loop _]
    show wpAny _ A.in1 (pyNext (.ref I) >>= _) _ _ s
    refine wpAny_bind (W.item i s _ _ lt st fun v s' pv st' hmv => ?_)
    obtain ⟨z, t, hz, rfl⟩ := val i v pv
    have set2 : SetT w s'.heap S ks := set1.at fun o e => hmv.heap S o notW e
    show wpAny _ A.in1 (holding [Value.str z t] (setAdd S (.str z t)) >>= _) _ _ s'
    refine wpAny_bind (wpAny_holding ?_)
    unfold setAdd
    have next : ∀ h' ks', Heap.SameBut S s'.heap h' → SetT w h' S ks' → (∀ k, k ∈ ks' ↔ k ∈ xs.take (i + 1)) → ks'.Nodup → ks'.length ≤ i + 1 →
        codeAny (model P w) A (.builtin "set.update.loop" ⟨[.ref S, .ref I], []⟩) R { s' with heap := h', toks := s'.toks + 1 } := fun h' ks' sb r in2 nd2 len2 => by
      refine ih (i + 1) _ (by omega) lt (W.frame _ s' _ _ st' (Nat.le_succ _) fun b hb o e => ?_) ⟨ks', in2, nd2, len2, r⟩ fun s'' ks'' mv in3 nd3 len3 set3 => ?_
      · rw [sb.2 b (fun z : b = S => away (by rw [← z]; exact hb))]
        exact e
      · refine done s'' ks'' (Moved.trans W.gtrans ((hmv.mono into).then_heap (Nat.le_succ _) fun b o hb e => ?_) mv) in3 nd3 len3 set3
        rw [sb.2 b (fun z : b = S => hb (by rw [z]; exact List.mem_cons_self))]
        exact e
    have step : xs.take (i + 1) = xs.take i ++ [z] := by
      rw [List.take_add_one, hz]
      rfl
    refine wpAny_holding (wpAny_bind ((strKind P w).pyHash (k := z) (beq_iff_eq.mpr rfl) ?_))
    refine added (s := { s' with toks := s'.toks + 1 }) set2 (by omega) (fun inn h' sb r => ?_) (fun out h' sb r => ?_)
    · refine wpAny_pure ⟨plainId_quiet F.plain_set_update_loop _, next h' ks sb r (fun k => ?_) nd1 (by omega)⟩
      rw [step, List.mem_append, ← in1 k, List.mem_singleton]
      exact ⟨.inl, fun q => q.elim id fun e => by rw [e]; exact inn⟩
    · refine wpAny_pure ⟨plainId_quiet F.plain_set_update_loop _, next h' (z :: ks) sb r (fun k => ?_) (List.nodup_cons.mpr ⟨out, nd1⟩) (by rw [List.length_cons]; omega)⟩
      rw [step, List.mem_append, ← in1 k, List.mem_singleton, List.mem_cons]
      exact Or.comm
/-- sorted(S), fewer than 64 texts -/
theorem sorts {Q : Value → Shared → Prop} (R : SetT w s.heap a ks) (hh : A.handled = none) (few : ks.length < 64)
    (hQ : ∀ s' p (out : Array Value) (c : Nat) (ys : List Str), (∀ b o, s.heap.get? b = some o → s'.heap.get? b = some o) → s'.gens = s.gens → s'.os = s.os → s.heap.objs.size ≤ p →
      s'.heap.get? p = some (seqObj "list" out c) → StrsAre out.toList ys → ys.Perm ks → sortedS ys = true → ys.Nodup → Q (.ref p) s') :
    wpAny (model P w) A (call (.builtin "sorted") [.ref a]) Q E s := by
  obtain ⟨o, es, ep, t, ms, ho, hx, hd, hp, nd, pm, small, fit, ris, led⟩ := R
  refine Calls.call_function_entry kind_sorted plain_sorted entry_sorted (args_sorted1 _) ?_
  unfold Builtin.«sorted»
  refine wpAny_bind (m := checkCount "sorted" 1 1 _) (wpAny_pure ?_)
  refine wpAny_bind (collect_set (A := A.in1) hh ⟨o, ho, hx.1, hd⟩ fit small ris led fun s1 vs kp hz g1 o1 pv => ?_)
  obtain ⟨ss, q1, q2⟩ := strs_perm pv (strs_of hp)
  have n64 : vs.length < 64 := by
    rw [pv.length_eq, List.length_map, Paired.length hp, pm.length_eq]
    exact few
  refine wpAny_bind (wpAny_newList ?_ (by rw [sizeLine_eq]; omega))
  have at_ : (s1.heap.push (seqObj "list" vs.toArray 0)).get? s1.heap.objs.size = some (seqObj "list" vs.toArray 0) := Heap.get?_push_size _ rfl
  refine wpAny_bind (wpAny_holding (wpAny_call_entry slot_list_sort ⟨_, at_, rfl⟩ entry_list_sort
    (list_sort_treeK strKind_oneLt at_ q2.keysOf (fun v1 v2 rest e => keyKind_strs (by rw [← e]; exact q2)) n64 fun st' b1 b2 => ⟨_, rfl, ?_⟩) (args_list_sort _)))
  obtain ⟨ys, y1, y2, y3⟩ := sorted_out_str q2 b1 b2
  obtain ⟨c, hc⟩ := sortedHeap_at (vs := vs) (out := (arrOf st').map (·.2)) at_
  have all : ys.Perm ms := y2.trans q1
  refine wpAny_pure ⟨_, rfl, hQ _ s1.heap.objs.size _ c ys (fun b u e => ?_) g1 o1 hz hc y1 (all.trans pm) y3 (all.nodup_iff.mpr nd)⟩
  have q := kp b u e
  have lt := Heap.lt_size q
  show (sortedHeap (s1.heap.push (seqObj "list" vs.toArray 0)) s1.heap.objs.size vs _).get? b = some u
  rw [sortedHeap_old (Nat.ne_of_lt lt) (by rw [size_push']; exact Nat.lt_succ_of_lt lt)]
  exact Heap.get?_push_of_some _ q
end
end TS

set_option Elab.async false
set_option linter.all false
set_option maxRecDepth 100000
set_option maxHeartbeats 4000000
/-! set(..) of a tuple or a list of texts. -/
namespace TS
open PySem PySem.Spec PyProof.Rows L2
/-- the object of a new set -/
abbrev newS (w : World) : Obj := { cls := .type "set", dict := none, data := .set #[] 0 (.fresh 0 0 (!w.params.followText "set-order")) }
theorem setT_new {w : World} {h : Heap} {a : Addr} (ho : h.get? a = some (newS w)) : SetT w h a [] :=
  ⟨_, #[], 0, _, [], ho, ⟨rfl, rfl, rfl⟩, rfl, .nil, List.nodup_nil, List.Perm.refl _, (by decide), (by rfl), List.Pairwise.nil, by
    show _ ∨ (!w.params.followText "set-order") = true
    exact match w.params.followText "set-order" with
      | true => .inl rfl
      | false => .inr rfl⟩
theorem strs_len : ∀ {vs : List Value} {ns : List Str}, StrsAre vs ns → vs.length = ns.length
  | _, _, .nil => rfl
  | _, _, .cons _ _ r => congrArg (· + 1) (strs_len r)
theorem str_at : ∀ {vs : List Value} {ns : List Str}, StrsAre vs ns → ∀ (i : Nat) (v : Value), vs[i]? = some v → ∃ k t, ns[i]? = some k ∧ v = .str k t
  | _, _, .nil, i, v, h => by simp at h
  | _, _, .cons n t hr, 0, v, h => ⟨n, t, rfl, by simp at h; exact h.symm⟩
  | _, _, .cons n t hr, i + 1, v, h => str_at hr i v (by simpa using h)
section
variable {P : Program} {w : World} {A : Around} {E : Value → Shared → Prop} {s : Shared}
theorem set_tup {l : Addr} {its : Array Value} (xs : List Str) {Q : Value → Shared → Prop} (hh : A.handled = none) (hl : s.heap.IsTuple l its) (are : StrsAre its.toList xs) (few : xs.length + 1 < scanBound)
    (h : ∀ (h' : Heap) (tk : Nat) (ks : List Str), SetT w h' s.heap.objs.size ks → (∀ k, k ∈ ks ↔ k ∈ xs) → ks.Nodup → ks.length ≤ xs.length → (∀ b o, s.heap.get? b = some o → h'.get? b = some o) → Q (.ref s.heap.objs.size) { s with heap := h', toks := tk }) :
    wpAny (model P w) A (call (.type "set") [.ref l]) Q E s := by
  have size : its.size = xs.length := (Array.length_toList (xs := its)).symm.trans (strs_len are)
  obtain ⟨c, tl, ways⟩ := F.called_set.mro
  have m1 := F.called_set.made
  have m2 := F.called_set.sub
  refine wpAny_call (codeAny_of_tree (show wpAny _ _ (callAny (.type "set") _) _ _ _ from ?_))
  refine wpAny_pure ⟨Code.quiet_builtin _ (by decide +kernel), codeAny_builtin F.entry_type_call (by
    rw [Around.under_plain (weight_type_call_type "set" [.ref l] []) rfl]
    have m3 := F.called_set.notType
    have m4 := F.called_set.canCreate
    have m5 := F.typeCall_set_1 (.ref l)
    repeat (any_goals (first | assumption | wp_step))
    refine codeAny_mono (code_set_led1 (.ref l) (E := E) (Q₁ := fun obj z => obj = .ref s.heap.objs.size ∧ z = { s with heap := s.heap.push (newS w) }) ⟨rfl, rfl⟩) fun r z hr => ?_
    cases r with
    | error e => exact hr
    | ok fl =>
      cases fl with
      | ret obj =>
        obtain ⟨rfl, rfl⟩ := hr
        have n1 : (s.heap.push (newS w)).get? s.heap.objs.size = some (newS w) := Heap.get?_push_size _ rfl
        have n2 : Shared.TypeIs { s with heap := s.heap.push (newS w) } (.ref s.heap.objs.size) "set" := ⟨_, n1, rfl⟩
        have n3 := F.called_set.init.lookup
        have n4 := F.called_set.init.bind (.ref s.heap.objs.size)
        repeat (any_goals (first | assumption | wp_step))
        refine codeAny_mono (codeAny_call_builtin (R := wants (fun r z => r = .none ∧ ∃ h' tk ks, z = { s with heap := h', toks := tk } ∧ SetT w h' s.heap.objs.size ks ∧ (∀ k, k ∈ ks ↔ k ∈ xs) ∧ ks.Nodup ∧ ks.length ≤ xs.length ∧
            (∀ b o, s.heap.get? b = some o → h'.get? b = some o)) E) F.called_set.init.plain F.entry_set_init (check_set_init_1 n2 ?_)) fun r2 z2 hr2 => ?_
        · obtain ⟨ol, hol, hcl, nl, hdl⟩ := hl
          obtain ⟨k1, k2, k3, k4⟩ := ol
          simp only at hcl hdl
          subst hcl
          subst hdl
          have o1 : (s.heap.push (newS w)).get? l = some { cls := .type "tuple", dict := k2, data := .seq its nl, slots := k4 } := Heap.get?_push_of_some _ hol
          have p1 := F.sub_tuple_set
          have p2 := F.sub_tuple_frozenset
          have p3 : (Value.type "tuple" == Value.type "dict") = false := (by decide)
          have o2 : (s.heap.push (newS w)).IsTuple l its := ⟨_, o1, rfl, nl, rfl⟩
          unfold Builtin.«set.__init__» noKeywords Builtin.Frozenset.updateFrom
          generalize hPI : pyIter = PI
          wp_walk
          subst hPI
          refine wpAny_pyIter_tuple o2 (wpAny_bind (wpAny_runValue ?_))
          have below : l < s.heap.objs.size := Heap.lt_size hol
          have quiet : A.in1.in1.in1.handled = none := (by simp [hh])
          have far : l ≠ (s.heap.push (newS w)).objs.size := (by rw [Heap.size_push]; exact Nat.ne_of_lt (Nat.lt_succ_of_lt below))
          have away : s.heap.objs.size ∉ [(s.heap.push (newS w)).objs.size, l] := (by
            rw [Heap.size_push]
            simp only [List.mem_cons, List.not_mem_nil, or_false, not_or]
            exact ⟨Nat.ne_of_lt (Nat.lt_succ_self _), Nat.ne_of_gt below⟩)
          refine updates ((Walks.tuple quiet _ l far its).toS) s.heap.objs.size away xs size few (fun i v hv => str_at are i v (by rw [Array.getElem?_toList]; exact hv)) (its.size - 0) 0 _ (by omega) (Nat.zero_le _)
            ⟨⟨_, Heap.get?_push_size _ rfl, rfl, rfl⟩, o2.push _⟩ ⟨[], (fun k => by simp), List.nodup_nil, Nat.le_refl _, setT_new (Heap.get?_push_of_some _ n1)⟩ ?_
          intro z ks mv in1 nd len set1
          obtain ⟨h', g2, d', tk', os'⟩ := z
          have e1 : g2 = s.gens := mv.gens
          have e2 : d' = s.drawn := mv.drawn
          have e3 : os' = s.os := mv.os
          subst e1
          subst e2
          subst e3
          show wpAny _ _ _ _ _ _
          refine wpAny_pure (show wpAny _ _ (ret Value.none) _ _ _ from wpAny_pure ⟨rfl, h', tk', ks, rfl, set1, in1, nd, by omega, fun b o e => ?_⟩)
          have b0 : b < s.heap.objs.size := Heap.lt_size e
          refine mv.heap b o ?_ (Heap.get?_push_of_some _ (Heap.get?_push_of_some _ e))
          rw [Heap.size_push]
          simp only [List.mem_cons, List.not_mem_nil, or_false, not_or]
          exact ⟨Nat.ne_of_lt b0, Nat.ne_of_lt (Nat.lt_succ_of_lt b0)⟩
        · cases r2 with
          | error e => exact hr2
          | ok fl2 =>
            cases fl2 with
            | ret r =>
              obtain ⟨rfl, h', tk, ks, rfl, q1, q2, q3, q4, q5⟩ := hr2
              repeat (any_goals (first | assumption | wp_step))
              exact h _ _ ks q1 q2 q3 q4 q5
            | _ => exact hr2.elim
      | _ => exact hr.elim)⟩
theorem set_list {l : Addr} {its : Array Value} (xs : List Str) {Q : Value → Shared → Prop} (hh : A.handled = none) (hl : s.heap.IsList l its) (are : StrsAre its.toList xs) (few : xs.length + 1 < scanBound)
    (h : ∀ (h' : Heap) (tk : Nat) (ks : List Str), SetT w h' s.heap.objs.size ks → (∀ k, k ∈ ks ↔ k ∈ xs) → ks.Nodup → ks.length ≤ xs.length → (∀ b o, s.heap.get? b = some o → h'.get? b = some o) → Q (.ref s.heap.objs.size) { s with heap := h', toks := tk }) :
    wpAny (model P w) A (call (.type "set") [.ref l]) Q E s := by
  have size : its.size = xs.length := (Array.length_toList (xs := its)).symm.trans (strs_len are)
  obtain ⟨c, tl, ways⟩ := F.called_set.mro
  have m1 := F.called_set.made
  have m2 := F.called_set.sub
  refine wpAny_call (codeAny_of_tree (show wpAny _ _ (callAny (.type "set") _) _ _ _ from ?_))
  refine wpAny_pure ⟨Code.quiet_builtin _ (by decide +kernel), codeAny_builtin F.entry_type_call (by
    rw [Around.under_plain (weight_type_call_type "set" [.ref l] []) rfl]
    have m3 := F.called_set.notType
    have m4 := F.called_set.canCreate
    have m5 := F.typeCall_set_1 (.ref l)
    repeat (any_goals (first | assumption | wp_step))
    refine codeAny_mono (code_set_led1 (.ref l) (E := E) (Q₁ := fun obj z => obj = .ref s.heap.objs.size ∧ z = { s with heap := s.heap.push (newS w) }) ⟨rfl, rfl⟩) fun r z hr => ?_
    cases r with
    | error e => exact hr
    | ok fl =>
      cases fl with
      | ret obj =>
        obtain ⟨rfl, rfl⟩ := hr
        have n1 : (s.heap.push (newS w)).get? s.heap.objs.size = some (newS w) := Heap.get?_push_size _ rfl
        have n2 : Shared.TypeIs { s with heap := s.heap.push (newS w) } (.ref s.heap.objs.size) "set" := ⟨_, n1, rfl⟩
        have n3 := F.called_set.init.lookup
        have n4 := F.called_set.init.bind (.ref s.heap.objs.size)
        repeat (any_goals (first | assumption | wp_step))
        refine codeAny_mono (codeAny_call_builtin (R := wants (fun r z => r = .none ∧ ∃ h' tk ks, z = { s with heap := h', toks := tk } ∧ SetT w h' s.heap.objs.size ks ∧ (∀ k, k ∈ ks ↔ k ∈ xs) ∧ ks.Nodup ∧ ks.length ≤ xs.length ∧
            (∀ b o, s.heap.get? b = some o → h'.get? b = some o)) E) F.called_set.init.plain F.entry_set_init (check_set_init_1 n2 ?_)) fun r2 z2 hr2 => ?_
        · obtain ⟨ol, hol, hcl, nl, hdl⟩ := hl
          obtain ⟨k1, k2, k3, k4⟩ := ol
          simp only at hcl hdl
          subst hcl
          subst hdl
          have o1 : (s.heap.push (newS w)).get? l = some { cls := .type "list", dict := k2, data := .seq its nl, slots := k4 } := Heap.get?_push_of_some _ hol
          have p1 := F.sub_list_set
          have p2 := F.sub_list_frozenset
          have p3 : (Value.type "list" == Value.type "dict") = false := (by decide)
          have o2 : (s.heap.push (newS w)).IsList l its := ⟨_, o1, rfl, nl, rfl⟩
          unfold Builtin.«set.__init__» noKeywords Builtin.Frozenset.updateFrom
          generalize hPI : pyIter = PI
          wp_walk
          subst hPI
          refine wpAny_pyIter_list o2 (wpAny_bind (wpAny_runValue ?_))
          have below : l < s.heap.objs.size := Heap.lt_size hol
          have quiet : A.in1.in1.in1.handled = none := (by simp [hh])
          have far : l ≠ (s.heap.push (newS w)).objs.size := (by rw [Heap.size_push]; exact Nat.ne_of_lt (Nat.lt_succ_of_lt below))
          have away : s.heap.objs.size ∉ [(s.heap.push (newS w)).objs.size, l] := (by
            rw [Heap.size_push]
            simp only [List.mem_cons, List.not_mem_nil, or_false, not_or]
            exact ⟨Nat.ne_of_lt (Nat.lt_succ_self _), Nat.ne_of_gt below⟩)
          refine updates ((Walks.list quiet _ l far its).toS) s.heap.objs.size away xs size few (fun i v hv => str_at are i v (by rw [Array.getElem?_toList]; exact hv)) (its.size - 0) 0 _ (by omega) (Nat.zero_le _)
            ⟨⟨_, Heap.get?_push_size _ rfl, rfl, rfl⟩, o2.push _⟩ ⟨[], (fun k => by simp), List.nodup_nil, Nat.le_refl _, setT_new (Heap.get?_push_of_some _ n1)⟩ ?_
          intro z ks mv in1 nd len set1
          obtain ⟨h', g2, d', tk', os'⟩ := z
          have e1 : g2 = s.gens := mv.gens
          have e2 : d' = s.drawn := mv.drawn
          have e3 : os' = s.os := mv.os
          subst e1
          subst e2
          subst e3
          show wpAny _ _ _ _ _ _
          refine wpAny_pure (show wpAny _ _ (ret Value.none) _ _ _ from wpAny_pure ⟨rfl, h', tk', ks, rfl, set1, in1, nd, by omega, fun b o e => ?_⟩)
          have b0 : b < s.heap.objs.size := Heap.lt_size e
          refine mv.heap b o ?_ (Heap.get?_push_of_some _ (Heap.get?_push_of_some _ e))
          rw [Heap.size_push]
          simp only [List.mem_cons, List.not_mem_nil, or_false, not_or]
          exact ⟨Nat.ne_of_lt b0, Nat.ne_of_lt (Nat.lt_succ_of_lt b0)⟩
        · cases r2 with
          | error e => exact hr2
          | ok fl2 =>
            cases fl2 with
            | ret r =>
              obtain ⟨rfl, h', tk, ks, rfl, q1, q2, q3, q4, q5⟩ := hr2
              repeat (any_goals (first | assumption | wp_step))
              exact h _ _ ks q1 q2 q3 q4 q5
            | _ => exact hr2.elim
      | _ => exact hr.elim)⟩
end
end TS

set_option Elab.async false
set_option linter.all false
set_option maxRecDepth 100000
set_option maxHeartbeats 4000000
/-! Sets of texts as objects of the hand layer. -/
namespace TS
open PySem PySem.Spec PyProof.Rows L2
/-- a set of just the texts ks -/
def SetS (w : World) (a : Addr) (ks : List Str) : HO := .ext fun h => SetT w h a ks
theorem setS_new {w : World} {P : Program} {H : Hp} {h : Heap} {a : Addr} {ks : List Str} (R : SetT w h a ks) : ObjOk P w H h a (SetS w a ks) := by
  have ⟨o, _, _, _, _, ho, _⟩ := R
  exact ⟨R, ⟨o, ho⟩, fun h1 h2 p k => SetT.at p k⟩
section
variable {X : Cx}
/-- set(..) of texts -/
def rSetS (K : PySem.W.Frag) (w : World) : List V → Hp → VK → Prop := fun vs H Q => ∃ (l : Addr) (xs : List Str), vs = [V.ref l] ∧ (SqL K H l (xs.map V.str) ∨ SqT K H l (xs.map V.str)) ∧ xs.length ≤ 1000 ∧
  ∀ a ks, H a = none → (∀ k, k ∈ ks ↔ k ∈ xs) → ks.Nodup → ks.length ≤ xs.length → Q (.ref a) (upd H a (SetS w a ks))
theorem cr_setS (hc : X.calm = true) : CallR X (.type "set") (rSetS X.K X.w) := by
  intro pins s σ H vs us Q I r h
  obtain ⟨l, xs, rfl, hl, few, q⟩ := h
  rw [Vals.ref1 r]
  have hn : H s.heap.objs.size = none := I.hok.fresh (Nat.le_refl _)
  rcases hl with hl | hl
  · obtain ⟨its, rv, pl, hz⟩ := I.list hl
    exact set_list (P := X.prog) (w := X.w) xs (I.ok.hd hc) pl.isList (by simpa using strs_of_vals rv) (by unfold scanBound; omega) fun h' tk ks R q1 q2 q3 k =>
      ⟨.ref s.heap.objs.size, upd H s.heap.objs.size (SetS X.w s.heap.objs.size ks), I.laid (t' := tk) k (Nat.le_refl _) (setS_new R), rfl, q _ ks hn q1 q2 q3⟩
  · obtain ⟨its, rv, pt, hz⟩ := I.tuple hl
    exact set_tup (P := X.prog) (w := X.w) xs (I.ok.hd hc) (show s.heap.IsTuple l its.toArray from pt) (by simpa using strs_of_vals rv) (by unfold scanBound; omega) fun h' tk ks R q1 q2 q3 k =>
      ⟨.ref s.heap.objs.size, upd H s.heap.objs.size (SetS X.w s.heap.objs.size ks), I.laid (t' := tk) k (Nat.le_refl _) (setS_new R), rfl, q _ ks hn q1 q2 q3⟩
/-- sorted(set) -/
def rSortS (w : World) : List V → Hp → VK → Prop := fun vs H Q => ∃ (a : Addr) (ks : List Str), vs = [V.ref a] ∧ H a = some (SetS w a ks) ∧ ks.length < 64 ∧
  ∀ (ys : List Str) (p : Addr), ys.Perm ks → sortedS ys = true → ys.Nodup → H p = none → Q (.ref p) (upd H p (.lst (ys.map V.str)))
theorem cr_sortS (hc : X.calm = true) : CallR X (.builtin "sorted") (rSortS X.w) := by
  intro pins s σ H vs us Q I r h
  obtain ⟨a, ks, rfl, ha, few, q⟩ := h
  have R : SetT X.w s.heap a ks := (I.hok a _ ha).1
  rw [Vals.ref1 r]
  refine sorts (P := X.prog) R (I.ok.hd hc) few fun s' p out c ys k g o hp hg are pm srt nd => ?_
  have hn : H p = none := I.hok.fresh hp
  have hlen : (ys.map V.str).length ≤ sizeLine := by
    rw [List.length_map, pm.length_eq, sizeLine_eq]
    omega
  have J : Inv X pins σ (upd H p (.lst (ys.map V.str))) { s with heap := s'.heap, gens := s'.gens, drawn := s'.drawn, toks := s'.toks } :=
    I.call (ch := []) (Un.laid k hp hn) (I.hok.laid k hp ⟨hlen, out.toList, c, vals_of_strs are, hg⟩) (by rw [g]; exact I.bare) (fun _ z => nomatch z)
  have e : s' = { s with heap := s'.heap, gens := s'.gens, drawn := s'.drawn, toks := s'.toks } := by
    cases s'
    cases s
    cases o
    exact rfl
  rw [e]
  exact ⟨.ref p, _, J, rfl, q ys p pm srt nd hn⟩
end
end TS

set_option Elab.async false
set_option linter.all false
set_option maxRecDepth 100000
set_option maxHeartbeats 4000000
/-! t + u of any tuples; t[::-1] of a tuple. -/
namespace TO
open PySem PySem.Spec PyProof.Rows L2
def rCatE (K : PySem.W.Frag) : R2 := fun x y H Q => ∃ a b xs ys, x = .ref a ∧ y = .ref b ∧ SqT K H a xs ∧ SqT K H b ys ∧ xs.length + ys.length ≤ sizeLine ∧
  (xs = [] → Q (.ref b) H) ∧ (xs ≠ [] → ys = [] → Q (.ref a) H) ∧ (xs ≠ [] → ys ≠ [] → ∀ p, H p = none → Q (.ref p) (upd H p (.tup (xs ++ ys))))
theorem op_catE {X : Cx} : OpR X (binaryOp .Add) (rCatE X.K) := by
  intro pins s σ H x y v u Q I rx ry h
  obtain ⟨a, b, xs, ys, ex, ey, ha, hb, hz, q0, q1, q2⟩ := h
  by_cases hx : xs = []
  · subst ex ey
    cases rx
    cases ry
    obtain ⟨its, r1, p1, _⟩ := I.tuple ha
    obtain ⟨its2, r2, p2, _⟩ := I.tuple hb
    obtain ⟨⟨c1, d1, t1, l1⟩, ho, hc, n, hd⟩ := id p1
    obtain ⟨⟨c2, d2, t2, l2⟩, ho2, hc2, n2, hd2⟩ := id p2
    simp only at hc hd hc2 hd2
    subst hc hd hc2 hd2
    exact concat_meets ⟨_, ho, rfl⟩ ⟨_, ho2, rfl⟩ noFill_tuple_add seq_tuple_add PySem.F.slot_tuple_add PySem.F.entry_tuple_add (PySem.F.args_tuple_add_2 _ _)
      (tuple_addW0 a b its.toArray its2.toArray n n2 d1 d2 l1 l2 (by simpa using r1.nil_iff.mpr hx)) ⟨ho, ho2, ⟨.ref b, H, I, rfl, q0 hx⟩⟩
  · exact op_catT pins s σ H x y v u Q I rx ry ⟨a, b, xs, ys, ex, ey, ha, hb, hx, hz, q1 hx, q2 hx⟩
section
variable {prog : Program} {w : World} {A : Around} {E : Value → Shared → Prop} {s : Shared}
theorem applied_rev {sl : Addr} {vs : Value} {n : Nat} {Q : Int × Int × Nat → Shared → Prop} (hs : s.heap.IsSliceOf sl .none .none vs) (pk : IsPart vs (some (-1))) (h : Q ((n : Int) - 1, -1, n) s) :
    wpAny (model prog w) A (Builtin.Slice.sliceApplied (.ref sl) (pure (n : Int))) Q E s := by
  obtain ⟨os, hos, hcs, hds⟩ := id hs
  unfold Builtin.Slice.sliceApplied Builtin.Slice.sliceFields
  refine wpAny_bind (wpAny_bind (wpAny_field hos hds (x := .none) rfl (wpAny_bind (wpAny_field hos hds (x := .none) rfl (wpAny_bind (wpAny_field hos hds (x := vs) rfl (wpAny_pure ?_)))))))
  refine wpAny_bind (HT.slicePart_ pk ?_)
  show wpAny _ _ (if ((-1 : Int) == 0) = true then _ else _) _ _ s
  rw [if_neg (by decide)]
  refine wpAny_bind (HT.slicePart_ .none (wpAny_bind (HT.slicePart_ .none (wpAny_bind (wpAny_pure ?_)))))
  show wpAny _ _ (pure ((n : Int) - 1, (-1 : Int), Builtin.Slice.slicePlaces ((n : Int) - 1) (-1) (-1))) _ _ s
  have e : Builtin.Slice.slicePlaces ((n : Int) - 1) (-1) (-1) = n := by
    unfold Builtin.Slice.slicePlaces
    rw [if_neg (by decide)]
    by_cases c : (n : Int) - 1 > -1
    · rw [if_pos c]
      simp
    · rw [if_neg c]
      omega
  rw [e]
  exact wpAny_pure h
theorem fm_congr {α β : Type} {f g : α → Option β} : ∀ {l : List α}, (∀ x ∈ l, f x = g x) → l.filterMap f = l.filterMap g
  | [], _ => rfl
  | x :: r, h => by
    rw [List.filterMap_cons, List.filterMap_cons, h x List.mem_cons_self, fm_congr fun y hy => h y (List.mem_cons_of_mem _ hy)]
theorem pick_rev (xs : Array Value) : ((List.range xs.size).filterMap fun (k : Nat) => xs[((xs.size : Int) - 1 + (k : Int) * (-1)).toNat]?).toArray = xs.toList.reverse.toArray := by
  refine congrArg List.toArray ?_
  refine List.ext_getElem? fun i => ?_
  have all : ((List.range xs.size).filterMap fun (k : Nat) => xs[((xs.size : Int) - 1 + (k : Int) * (-1)).toNat]?) = (List.range xs.size).map fun k => xs.toList.getD (xs.size - 1 - k) Value.none := by
    rw [← List.filterMap_eq_map]
    refine fm_congr fun k hk => ?_
    have hk' : k < xs.size := List.mem_range.mp hk
    have e : ((xs.size : Int) - 1 + (k : Int) * (-1)).toNat = xs.size - 1 - k := by omega
    rw [e]
    have l : xs.size - 1 - k < xs.size := by omega
    simp [List.getD_eq_getElem?_getD, l]
  rw [all, List.getElem?_map]
  by_cases h : i < xs.size
  · rw [List.getElem?_range h, List.getElem?_reverse (by simpa using h)]
    have l : xs.size - 1 - i < xs.size := by omega
    simp [List.getD_eq_getElem?_getD, l]
  · rw [List.getElem?_eq_none (by simpa using h), List.getElem?_eq_none (by simpa using h)]
    rfl
theorem getItem_rev {t sl : Addr} {items : Array Value} {vs : Value} {Q : Value → Shared → Prop} (ht : IsTup s.heap t items) (hs : s.heap.IsSliceOf sl .none .none vs) (pk : IsPart vs (some (-1)))
    (h : Q (.ref s.heap.objs.size) { s with heap := s.heap.push { cls := .type "tuple", data := .seq items.toList.reverse.toArray } }) (hsz : items.size ≤ sizeLine) : wpAny (model prog w) A (getItem (.ref t) (.ref sl)) Q E s := by
  have fits : sizeOk (.seq items.toList.reverse.toArray) := by
    show items.toList.reverse.toArray.size ≤ sizeLine
    rw [List.size_toArray, List.length_reverse, Array.length_toList]
    exact hsz
  obtain ⟨os, hos, hcs, hds⟩ := id hs
  have kind : s.TypeIs (.ref sl) "slice" := ⟨os, hos, hcs⟩
  unfold getItem
  try with_reducible refine wpAny_holding ?_
  first | refine wpAny_bind (wpAny_pure ?_) | skip
  refine wpAny_bind (wpAny_sequenceKey ht.typeIs (by decide) (wpAny_bind (wpAny_callSpecial?_slot (name := Str.ofString "__getitem__") ht.typeIs PyProof.Rows.slot_tuple_getitem
    (wpAny_call_entry PyProof.Rows.slot_tuple_getitem ht.typeIs entry_tuple_getitem ?_ (args_tuple_getitem _ _)))))
  show wpAny _ _ (Builtin.Tuple.tupleItemsOf (.ref t) >>= _) _ _ s
  refine wpAny_bind (tupleItemsOf_ ht (wpAny_bind (wpAny_typeOf kind ?_)))
  rw [if_pos (by decide)]
  refine wpAny_bind (applied_rev hs pk ?_)
  show wpAny _ _ (if ((items.size : Int) - 1 == 0 && (-1 : Int) == 1 && items.size == items.size) = true then _ else _) _ _ s
  rw [if_neg (by simp), pick_rev]
  first
    | exact wpAny_bind (m := Builtin.Tuple.tupleExact _) (wpAny_newObj_type (wpAny_pure ⟨_, rfl, wpAny_pure h⟩) fits)
    | exact wpAny_bind (m := Builtin.Tuple.tupleExact _) (wpAny_newObj_type (wpAny_bind (wpAny_pure (wpAny_pure ⟨_, rfl, wpAny_pure h⟩))) fits)
    | exact wpAny_bind (wpAny_bind (m := Builtin.Tuple.tupleExact _) (wpAny_newObj_type (wpAny_pure (wpAny_pure ⟨_, rfl, wpAny_pure h⟩)) fits))
    | exact wpAny_bind (wpAny_bind (m := Builtin.Tuple.tupleExact _) (wpAny_newObj_type (wpAny_pure ⟨_, rfl, wpAny_pure h⟩) fits))
end
/-- t[::-1] -/
def tRevT (K : PySem.W.Frag) (te : TE) : TE := fun σ H Q => te σ H fun x H1 => ∃ a xs, x = .ref a ∧ SqT K H1 a xs ∧ ∀ p, H1 p = none → Q (.ref p) (upd H1 p (.tup xs.reverse))
theorem pe_revT {X : Cx} {e : Expr} {te : TE} {k : Nat} {p1 p2 p3 pos : Pos} (he : PE X e te) : PE X (.Subscript e (.Slice none none (some (.UnaryOp .USub (.Constant (.int 1) k p1) p2)) p3) pos) (tRevT X.K te) := by
  refine ⟨fun pins s σ H Q I h => Subscript_ (thn (he.run pins s σ H _ I h) fun v s1 ⟨x, H1, I1, r1, q1⟩ => ?_)⟩
  obtain ⟨a, xs, ex, hx, q⟩ := q1
  subst ex
  cases r1
  have last : PO X (some (.UnaryOp .USub (.Constant (.int 1) k p1) p2)) (tPart (tUn (rU fun i => .int (-i)) (tC (.int 1)))) := po_some (pe_un un_neg pe_int)
  refine wpAny_Slice (thn (po_none.run pins s1 σ H1 (fun o H2 => o = none ∧ H2 = H1) I1 ⟨rfl, rfl⟩) fun vl s2 ⟨l, H2, I2, pl, el, e2⟩ => ?_)
  subst el
  subst e2
  refine thn (po_none.run pins s2 σ H2 (fun o H3 => o = none ∧ H3 = H2) I2 ⟨rfl, rfl⟩) fun vu s3 ⟨u, H3, I3, pu, eu, e3⟩ => ?_
  subst eu
  subst e3
  refine thn (last.run pins s3 σ H3 (fun o H4 => o = some (-1) ∧ H4 = H3) I3 ⟨1, rfl, -1, rfl, rfl, rfl⟩) fun vs s4 ⟨o, H4, I4, ps, eo, e4⟩ => ?_
  subst eo
  subst e4
  cases pl
  cases pu
  have I5 : Inv X pins σ H4 { s4 with heap := s4.heap.push { cls := .type "slice", data := .fields #[.none, .none, vs] } } := I4.kept (t' := s4.toks) fun b ob q => Heap.get?_push_of_some _ q
  obtain ⟨its, r, ht, hz⟩ := I5.tuple hx
  have hlen := r.length
  show wpAny (model X.prog X.w) X.A (subscriptTail e (.Slice none none (some (.UnaryOp .USub (.Constant (.int 1) k p1) p2)) p3) (.ref a) (.ref s4.heap.objs.size)) (EP X pins σ Q) X.xe { s4 with heap := s4.heap.push { cls := .type "slice", data := .fields #[.none, .none, vs] } }
  refine tail_any (ops := [.ref a, .ref s4.heap.objs.size]) ht.typeIs PyProof.Rows.slot_tuple_getitem.lookup ?_ (by with_unfolding_all rfl)
  refine getItem_rev ht (Heap.IsSliceOf.new _ .none .none vs) ps ?_ (by rw [List.size_toArray]; omega)
  refine ⟨.ref _, _, I5.laid (t' := s4.toks) (o := .tup xs.reverse) (fun b ob q => Heap.get?_push_of_some _ q) (Nat.le_refl _) ?_, rfl, q _ (I5.hok.fresh (Nat.le_refl _))⟩
  exact ⟨by rw [List.length_reverse]; exact hz, _, r.reverse, IsTup.new _ _⟩
end TO

set_option Elab.async false
namespace Wd
open PySem L2
def topS (i : Nat) : Stmt := PySem.Challenge.pw_pushalike_k01_words.main.body.getD i (.Pass ⟨0, 0, 0, 0⟩)
abbrev sIsInteger : Stmt := topS 9
abbrev sIsBetween : Stmt := topS 10
abbrev sIsLetter : Stmt := topS 11
abbrev sIsLetters : Stmt := topS 12
abbrev sIsName : Stmt := topS 13
abbrev sIsLayout : Stmt := topS 14
abbrev sIsSrcL : Stmt := topS 15
abbrev sIsEvent : Stmt := topS 16
abbrev sIsOutput : Stmt := topS 17
abbrev sIsValues : Stmt := topS 18
abbrev sIsList : Stmt := topS 19
abbrev sIsRowOfEvents : Stmt := topS 28
abbrev sStart : Stmt := topS 30
abbrev sThrow : Stmt := topS 31
abbrev sPick : Stmt := topS 32
abbrev sLetter : Stmt := topS 33
abbrev sLetters : Stmt := topS 34
abbrev sWords : Stmt := topS 35
abbrev sName : Stmt := topS 36
abbrev sLayout : Stmt := topS 37
abbrev sValue : Stmt := topS 38
abbrev sSame : Stmt := topS 39
abbrev sLInt : Stmt := topS 40
abbrev sLLet : Stmt := topS 41
abbrev sLName : Stmt := topS 42
abbrev sLLayout : Stmt := topS 43
abbrev sLEvent : Stmt := topS 44
abbrev sLOutput : Stmt := topS 45
abbrev sLList : Stmt := topS 46
abbrev sCopied : Stmt := topS 47
abbrev sOdd : Stmt := topS 48
abbrev sSpoiled : Stmt := topS 49
abbrev sGood : Stmt := topS 50
abbrev sLaw : Stmt := topS 51
abbrev cUnknownIndex_init : Stmt := inClass (topS 24) 0
abbrev cInvalidNumber_init : Stmt := inClass (topS 25) 0
abbrev cTape_init : Stmt := inClass (topS 27) 0
abbrev cTape_events : Stmt := inClass (topS 27) 1
abbrev cTape_last : Stmt := inClass (topS 27) 2
abbrev cTape_len : Stmt := inClass (topS 27) 3
abbrev cTape_getitem : Stmt := inClass (topS 27) 4
abbrev cTape_iter : Stmt := inClass (topS 27) 5
abbrev cTape_eq : Stmt := inClass (topS 27) 6
abbrev cTape_str : Stmt := inClass (topS 27) 7
abbrev cTape_add : Stmt := inClass (topS 27) 8
abbrev cTape_rshift : Stmt := inClass (topS 27) 9
abbrev cTape_stamps : Stmt := inClass (topS 27) 10
abbrev cTape_upto : Stmt := inClass (topS 27) 11
abbrev cTape_changed : Stmt := inClass (topS 27) 12
abbrev cTape_fits : Stmt := inClass (topS 27) 13
end Wd

set_option Elab.async false
set_option linter.all false
set_option maxRecDepth 100000
set_option maxHeartbeats 4000000
namespace Wd
open PySem L2
/-- all but the objects in B is as it was -/
def Ob (B : List Addr) (H H' : Hp) : Prop := ∀ b o, b ∉ B → H b = some o → H' b = some o
theorem Ob.refl (B : List Addr) (H : Hp) : Ob B H H := fun _ _ _ h => h
theorem Ob.trans {B : List Addr} {H H1 H2 : Hp} (a : Ob B H H1) (b : Ob B H1 H2) : Ob B H H2 := fun c o n h => b c o n (a c o n h)
theorem Ob.same {B : List Addr} {H H1 H2 : Hp} (a : Ob B H H1) (b : Same H1 H2) : Ob B H H2 := fun c o n h => b c o (a c o n h)
theorem Ob.of {B : List Addr} {H H' : Hp} (a : Same H H') : Ob B H H' := fun b o _ h => a b o h
/-- values of a kind of their own: no data -/
structure Own (K : PySem.W.Frag) (T : List Addr → Hp → Addr → Prop) : Prop where
  mono : ∀ {B H H' a}, Ob B H H' → T B H a → T B H' a
  more : ∀ {B H a d}, (∃ kvs, H d = some (.dK kvs)) → T B H a → T (d :: B) H a
  tup : ∀ {B H a xs}, T B H a → H a ≠ some (.tup xs)
  lst : ∀ {B H a xs}, T B H a → H a ≠ some (.lst xs)
  dK : ∀ {B H a xs}, T B H a → H a ≠ some (.dK xs)
  ty : ∀ {B H a}, T B H a → ∃ t, TyX K H (.ref a) t ∧ ∀ n ∈ ["int", "bool", "str", "tuple", "list", "dict"], PySem.W.kitOne K t (.type n) = some false
/-- data over a heap: sizes of at most m, nested less than n deep; nothing of it is an object in B -/
inductive Dat (T : List Addr → Hp → Addr → Prop) (B : List Addr) (H : Hp) (m : Nat) : Nat → V → Prop where
  | non {n} : Dat T B H m (n + 1) .non
  | bl {n} (b : Bool) : Dat T B H m (n + 1) (.bl b)
  | int {n} (i : Int) : Dat T B H m (n + 1) (.int i)
  | str {n} (s : Str) (h : s.length ≤ m) (o : PyData.strOk s = true) : Dat T B H m (n + 1) (.str s)
  | own {n} {a : Addr} (t : T B H a) : Dat T B H m (n + 1) (.ref a)
  | tup {n} {a : Addr} {xs : List V} (ne : a ∉ B) (e : H a = some (.tup xs)) (l : xs.length ≤ m) (p : ∀ x ∈ xs, Dat T B H m n x) : Dat T B H m (n + 1) (.ref a)
  | lst {n} {a : Addr} {xs : List V} (ne : a ∉ B) (e : H a = some (.lst xs)) (l : xs.length ≤ m) (p : ∀ x ∈ xs, Dat T B H m n x) : Dat T B H m (n + 1) (.ref a)
  | dic {n} {a : Addr} {kvs : List (Key × V)} (ne : a ∉ B) (e : H a = some (.dK kvs)) (l : 20 * kvs.length ≤ m) (nd : (kvs.map (·.1)).Nodup)
      (k : ∀ p ∈ kvs, ∃ s : Str, p.1 = Sum.inr s ∧ s.length ≤ m ∧ PyData.strOk s = true) (p : ∀ p ∈ kvs, Dat T B H m n p.2) : Dat T B H m (n + 1) (.ref a)
section
variable {K : PySem.W.Frag} {T : List Addr → Hp → Addr → Prop} {B : List Addr} {H H' : Hp} {m m' n n' : Nat} {v : V}
theorem Dat.mono (O : Own K T) (sb : Ob B H H') (d : Dat T B H m n v) : Dat T B H' m n v := by
  induction d with
  | non => exact .non
  | bl b => exact .bl b
  | int i => exact .int i
  | str s h o => exact .str s h o
  | own t => exact .own (O.mono sb t)
  | tup ne e l p ih => exact .tup ne (sb _ _ ne e) l ih
  | lst ne e l p ih => exact .lst ne (sb _ _ ne e) l ih
  | dic ne e l nd k p ih => exact .dic ne (sb _ _ ne e) l nd k ih
theorem Dat.up (hm : m ≤ m') (d : Dat T B H m n v) : ∀ {n'}, n ≤ n' → Dat T B H m' n' v := by
  induction d with
  | non => intro n' h; obtain ⟨q, rfl⟩ := Nat.exists_eq_succ_of_ne_zero (n := n') (by omega); exact .non
  | bl b => intro n' h; obtain ⟨q, rfl⟩ := Nat.exists_eq_succ_of_ne_zero (n := n') (by omega); exact .bl b
  | int i => intro n' h; obtain ⟨q, rfl⟩ := Nat.exists_eq_succ_of_ne_zero (n := n') (by omega); exact .int i
  | str s z o => intro n' h; obtain ⟨q, rfl⟩ := Nat.exists_eq_succ_of_ne_zero (n := n') (by omega); exact .str s (by omega) o
  | own t => intro n' h; obtain ⟨q, rfl⟩ := Nat.exists_eq_succ_of_ne_zero (n := n') (by omega); exact .own t
  | tup ne e l p ih => intro n' h; obtain ⟨q, rfl⟩ := Nat.exists_eq_succ_of_ne_zero (n := n') (by omega); exact .tup ne e (by omega) fun x hx => ih x hx (by omega)
  | lst ne e l p ih => intro n' h; obtain ⟨q, rfl⟩ := Nat.exists_eq_succ_of_ne_zero (n := n') (by omega); exact .lst ne e (by omega) fun x hx => ih x hx (by omega)
  | dic ne e l nd k p ih =>
    intro n' h; obtain ⟨q, rfl⟩ := Nat.exists_eq_succ_of_ne_zero (n := n') (by omega)
    exact .dic ne e (by omega) nd (fun p hp => let ⟨s, h1, h2, h3⟩ := k p hp; ⟨s, h1, by omega, h3⟩) fun x hx => ih x hx (by omega)
theorem Dat.okS {s : Str} (d : Dat T B H m n (.str s)) : PyData.strOk s = true := by
  cases d with
  | str _ _ o => exact o
theorem ok_sign {z : Str} (h : PyData.strOk z = true) {i c : Nat} (e : z.cps[i]? = some c) : PyData.strOk ⟨#[c]⟩ = true := by
  unfold PyData.strOk at h ⊢
  rw [Array.all_eq_true'] at h
  have := h c (Array.mem_of_getElem? e)
  simpa using this
/-- what does not reach the dict at d -/
theorem Dat.past (O : Own K T) {d : Addr} (hd : ∃ kvs, H d = some (.dK kvs)) (x : Dat T B H m n v) : ¬ Dat T B H m n (.ref d) → Dat T (d :: B) H m n v := by
  induction x with
  | non => exact fun _ => .non
  | bl b => exact fun _ => .bl b
  | int i => exact fun _ => .int i
  | str s h o => exact fun _ => .str s h o
  | own t => exact fun _ => .own (O.more hd t)
  | @tup k a xs ne e l p ih =>
    intro no
    have nd : a ≠ d := fun z => no (z ▸ .tup ne e l p)
    exact .tup (by simp [nd, ne]) e l fun x hx => ih x hx fun q => no (q.up (Nat.le_refl _) (Nat.le_succ _))
  | @lst k a xs ne e l p ih =>
    intro no
    have nd : a ≠ d := fun z => no (z ▸ .lst ne e l p)
    exact .lst (by simp [nd, ne]) e l fun x hx => ih x hx fun q => no (q.up (Nat.le_refl _) (Nat.le_succ _))
  | @dic k a xs ne e l nd ks p ih =>
    intro no
    have nn : a ≠ d := fun z => no (z ▸ .dic ne e l nd ks p)
    exact .dic (by simp [nn, ne]) e l nd ks fun x hx => ih x hx fun q => no (q.up (Nat.le_refl _) (Nat.le_succ _))
/-- the values of a dict do not reach it -/
theorem Dat.kids (O : Own K T) {d : Addr} {kvs : List (Key × V)} (hd : H d = some (.dK kvs)) : ∀ n, Dat T B H m (n + 1) (.ref d) → ∀ p ∈ kvs, Dat T (d :: B) H m n p.2
  | n, x => by
    by_cases h : Dat T B H m n (.ref d)
    · cases n with
      | zero => cases h
      | succ k => exact fun p hp => (Dat.kids O hd k h p hp).up (Nat.le_refl _) (Nat.le_succ _)
    · intro p hp
      cases x with
      | own t => exact absurd hd (O.dK t)
      | tup ne e l q => rw [hd] at e; cases e
      | lst ne e l q => rw [hd] at e; cases e
      | dic ne e l nd ks q =>
        rw [hd] at e
        cases e
        exact (q p hp).past O ⟨_, hd⟩ h
/-- isinstance(v, N) is answered with c -/
def Isi (K : PySem.W.Frag) (H : Hp) (v : V) (N : String) (c : Bool) : Prop := ∃ t, TyX K H v t ∧ PySem.W.kitOne K t (.type N) = some c
theorem isi_ty {a b : String} {r : Bool} (x : TyX K H v (.type a)) (h : kitB a b = some r) : Isi K H v b r := ⟨_, x, kit_ty h⟩
theorem Own.isi (O : Own K T) {a : Addr} (t : T B H a) {N : String} (h : N ∈ ["int", "bool", "str", "tuple", "list", "dict"]) : Isi K H (.ref a) N false :=
  let ⟨u, x, k⟩ := O.ty t; ⟨u, x, k N h⟩
theorem Dat.isTup (O : Own K T) (sb : Ob B H H') (d : Dat T B H m n v) :
    (∃ a xs k, v = .ref a ∧ a ∉ B ∧ H a = some (.tup xs) ∧ H' a = some (.tup xs) ∧ xs.length ≤ m ∧ (∀ x ∈ xs, Dat T B H m k x) ∧ Isi K H' v "tuple" true) ∨
      ((∀ a xs, v = .ref a → H a ≠ some (.tup xs)) ∧ Isi K H' v "tuple" false) := by
  cases d with
  | non => exact .inr ⟨fun a xs h => (nomatch h), isi_ty (.base .non) (by decide)⟩
  | bl b => exact .inr ⟨fun a xs h => (nomatch h), isi_ty (.base (.bl b)) (by decide)⟩
  | int b => exact .inr ⟨fun a xs h => (nomatch h), isi_ty (.base (.int b)) (by decide)⟩
  | str b => exact .inr ⟨fun a xs h => (nomatch h), isi_ty (.base (.str b)) (by decide)⟩
  | own t => exact .inr ⟨fun a xs h => by cases h; exact O.tup t, O.isi (O.mono sb t) (by decide)⟩
  | tup ne e l p => exact .inl ⟨_, _, _, rfl, ne, e, sb _ _ ne e, l, p, isi_ty (.base (.tup (sb _ _ ne e))) (by decide)⟩
  | lst ne e l p => exact .inr ⟨fun a xs h q => (by cases h; rw [e] at q; cases q), isi_ty (.base (.lst (sb _ _ ne e))) (by decide)⟩
  | dic ne e l nd k p => exact .inr ⟨fun a xs h q => (by cases h; rw [e] at q; cases q), isi_ty (.base (.dK (sb _ _ ne e))) (by decide)⟩
theorem Dat.isLst (O : Own K T) (sb : Ob B H H') (d : Dat T B H m n v) :
    (∃ a xs k, v = .ref a ∧ a ∉ B ∧ n = k + 1 ∧ H a = some (.lst xs) ∧ H' a = some (.lst xs) ∧ xs.length ≤ m ∧ (∀ x ∈ xs, Dat T B H m k x) ∧ Isi K H' v "list" true) ∨
      ((∀ a xs, v = .ref a → H a ≠ some (.lst xs)) ∧ Isi K H' v "list" false) := by
  cases d with
  | non => exact .inr ⟨fun a xs h => (nomatch h), isi_ty (.base .non) (by decide)⟩
  | bl b => exact .inr ⟨fun a xs h => (nomatch h), isi_ty (.base (.bl b)) (by decide)⟩
  | int b => exact .inr ⟨fun a xs h => (nomatch h), isi_ty (.base (.int b)) (by decide)⟩
  | str b => exact .inr ⟨fun a xs h => (nomatch h), isi_ty (.base (.str b)) (by decide)⟩
  | own t => exact .inr ⟨fun a xs h => by cases h; exact O.lst t, O.isi (O.mono sb t) (by decide)⟩
  | lst ne e l p => exact .inl ⟨_, _, _, rfl, ne, rfl, e, sb _ _ ne e, l, p, isi_ty (.base (.lst (sb _ _ ne e))) (by decide)⟩
  | tup ne e l p => exact .inr ⟨fun a xs h q => (by cases h; rw [e] at q; cases q), isi_ty (.base (.tup (sb _ _ ne e))) (by decide)⟩
  | dic ne e l nd k p => exact .inr ⟨fun a xs h q => (by cases h; rw [e] at q; cases q), isi_ty (.base (.dK (sb _ _ ne e))) (by decide)⟩
theorem Dat.isDic (O : Own K T) (sb : Ob B H H') (d : Dat T B H m n v) :
    (∃ a kvs k, v = .ref a ∧ a ∉ B ∧ n = k + 1 ∧ H a = some (.dK kvs) ∧ H' a = some (.dK kvs) ∧ 20 * kvs.length ≤ m ∧ (kvs.map (·.1)).Nodup ∧ (∀ p ∈ kvs, ∃ s : Str, p.1 = Sum.inr s ∧ s.length ≤ m ∧ PyData.strOk s = true) ∧ (∀ p ∈ kvs, Dat T B H m k p.2) ∧ Isi K H' v "dict" true) ∨
      ((∀ a xs, v = .ref a → H a ≠ some (.dK xs)) ∧ Isi K H' v "dict" false) := by
  cases d with
  | non => exact .inr ⟨fun a xs h => (nomatch h), isi_ty (.base .non) (by decide)⟩
  | bl b => exact .inr ⟨fun a xs h => (nomatch h), isi_ty (.base (.bl b)) (by decide)⟩
  | int b => exact .inr ⟨fun a xs h => (nomatch h), isi_ty (.base (.int b)) (by decide)⟩
  | str b => exact .inr ⟨fun a xs h => (nomatch h), isi_ty (.base (.str b)) (by decide)⟩
  | own t => exact .inr ⟨fun a xs h => by cases h; exact O.dK t, O.isi (O.mono sb t) (by decide)⟩
  | lst ne e l p => exact .inr ⟨fun a xs h q => (by cases h; rw [e] at q; cases q), isi_ty (.base (.lst (sb _ _ ne e))) (by decide)⟩
  | tup ne e l p => exact .inr ⟨fun a xs h q => (by cases h; rw [e] at q; cases q), isi_ty (.base (.tup (sb _ _ ne e))) (by decide)⟩
  | dic ne e l nd k p => exact .inl ⟨_, _, _, rfl, ne, rfl, e, sb _ _ ne e, l, nd, k, p, isi_ty (.base (.dK (sb _ _ ne e))) (by decide)⟩
theorem Dat.isStr (O : Own K T) (sb : Ob B H H') (d : Dat T B H m n v) :
    (∃ s, v = .str s ∧ s.length ≤ m ∧ Isi K H' v "str" true) ∨ ((∀ s, v ≠ .str s) ∧ Isi K H' v "str" false) := by
  cases d with
  | non => exact .inr ⟨fun a h => (nomatch h), isi_ty (.base .non) (by decide)⟩
  | bl b => exact .inr ⟨fun a h => (nomatch h), isi_ty (.base (.bl b)) (by decide)⟩
  | int b => exact .inr ⟨fun a h => (nomatch h), isi_ty (.base (.int b)) (by decide)⟩
  | str b h => exact .inl ⟨_, rfl, h, isi_ty (.base (.str b)) (by decide)⟩
  | own t => exact .inr ⟨fun a h => (nomatch h), O.isi (O.mono sb t) (by decide)⟩
  | lst ne e l p => exact .inr ⟨fun a h => (nomatch h), isi_ty (.base (.lst (sb _ _ ne e))) (by decide)⟩
  | tup ne e l p => exact .inr ⟨fun a h => (nomatch h), isi_ty (.base (.tup (sb _ _ ne e))) (by decide)⟩
  | dic ne e l nd k p => exact .inr ⟨fun a h => (nomatch h), isi_ty (.base (.dK (sb _ _ ne e))) (by decide)⟩
theorem Dat.isInt (O : Own K T) (sb : Ob B H H') (d : Dat T B H m n v) :
    (∃ i, v = .int i ∧ Isi K H' v "int" true ∧ Isi K H' v "bool" false) ∨ ((∀ i, v ≠ .int i) ∧ ((Isi K H' v "int" true ∧ Isi K H' v "bool" true) ∨ Isi K H' v "int" false)) := by
  cases d with
  | non => exact .inr ⟨fun a h => (nomatch h), .inr (isi_ty (.base .non) (by decide))⟩
  | bl b => exact .inr ⟨fun a h => (nomatch h), .inl ⟨isi_ty (.base (.bl b)) (by decide), isi_ty (.base (.bl b)) (by decide)⟩⟩
  | int b => exact .inl ⟨_, rfl, isi_ty (.base (.int b)) (by decide), isi_ty (.base (.int b)) (by decide)⟩
  | str b => exact .inr ⟨fun a h => (nomatch h), .inr (isi_ty (.base (.str b)) (by decide))⟩
  | own t => exact .inr ⟨fun a h => (nomatch h), .inr (O.isi (O.mono sb t) (by decide))⟩
  | lst ne e l p => exact .inr ⟨fun a h => (nomatch h), .inr (isi_ty (.base (.lst (sb _ _ ne e))) (by decide))⟩
  | tup ne e l p => exact .inr ⟨fun a h => (nomatch h), .inr (isi_ty (.base (.tup (sb _ _ ne e))) (by decide))⟩
  | dic ne e l nd k p => exact .inr ⟨fun a h => (nomatch h), .inr (isi_ty (.base (.dK (sb _ _ ne e))) (by decide))⟩
/-- isinstance(x, N), answered -/
def rIsN (K : PySem.W.Frag) : List V → Hp → VK → Prop := fun xs H Q => ∃ (x : V) (N : String) (c : Bool), xs = [x, .ty N] ∧ Isi K H x N c ∧ Q (.bl c) H
theorem call_isN {X : Cx} : CallR X (.builtin "isinstance") (rIsN X.K) := fun pins s σ H vs us Q I r h => by
  obtain ⟨x, N, c, e, ⟨t, ht, k⟩, q⟩ := h
  exact call_isi pins s σ H vs us Q I r ⟨x, _, t, _, c, e, .ty N, ht, k, q⟩
end
/-! ### what the words mean -/
abbrev ten60 : Int := 10 ^ 60
def IsInt (v : V) : Prop := ∃ i, v = .int i ∧ -ten60 < i ∧ i < ten60
def low (c : Nat) : Prop := 97 ≤ c ∧ c ≤ 122
def IsLet (v : V) : Prop := ∃ c : Nat, v = .str ⟨#[c]⟩ ∧ low c
def words : List Str := ["after", "again", "at", "busy", "changes", "else", "every", "first", "fold", "it", "late", "never", "one",
  "only", "pairs", "pick", "quiet", "source", "spaced", "switch", "then", "told", "until"].map Str.ofString
def NameS (s : Str) : Prop := 1 ≤ s.length ∧ s.length ≤ 8 ∧ (∀ c ∈ s.cps.toList, low c) ∧ s ∉ words
def IsName (v : V) : Prop := ∃ s, v = .str s ∧ NameS s
def letV (cs : List Nat) : List V := cs.map fun c => V.str ⟨#[c]⟩
def Letters (cs : List Nat) : Prop := cs ≠ [] ∧ (∀ c ∈ cs, low c) ∧ cs.Pairwise (· < ·)
def IsLetters (H : Hp) (v : V) : Prop := ∃ a cs, v = .ref a ∧ H a = some (.tup (letV cs)) ∧ Letters cs
def IsSrcL (H : Hp) (v : V) : Prop := ∃ a cs, v = .ref a ∧ H a = some (.tup (letV cs)) ∧ Letters cs ∧ cs.length ≤ 4
def IsLayout (H : Hp) (v : V) : Prop := ∃ a kvs, v = .ref a ∧ H a = some (.dK kvs) ∧ 1 ≤ kvs.length ∧ kvs.length ≤ 4 ∧ ∀ p ∈ kvs, IsName (kV p.1) ∧ IsSrcL H p.2
def IsEvent (H : Hp) (v : V) : Prop := ∃ a t u l w, v = .ref a ∧ H a = some (.tup [t, u, l, w]) ∧ (∃ i, t = .int i ∧ 0 ≤ i ∧ i < ten60) ∧ IsName u ∧ IsLet l ∧ IsInt w
def IsVals (H : Hp) (v : V) : Prop := ∃ a xs, v = .ref a ∧ H a = some (.tup xs) ∧ xs.length ≤ 4 ∧ ∀ x ∈ xs, IsInt x
def IsOutput (H : Hp) (v : V) : Prop := ∃ a l w, v = .ref a ∧ H a = some (.tup [l, w]) ∧ IsLet l ∧ IsVals H w
def vEnd : V := .str (Str.ofString "end")
def IsList (H : Hp) (v : V) : Prop := ∃ a xs, v = .ref a ∧ H a = some (.tup xs) ∧ ∃ ys, (xs = ys ∨ xs = ys ++ [vEnd]) ∧ ∀ y ∈ ys, IsOutput H y
/-- the promise of a function is_..: it says whether P holds -/
def spIs (T : List Addr → Hp → Addr → Prop) (P : Hp → V → Prop) : Sp := fun vs H Q _ => ∃ (v : V) (B : List Addr) (H0 : Hp) (m n : Nat), vs = [v] ∧ Ob B H0 H ∧ m ≤ 1000 ∧ Dat T B H0 m n v ∧ ∀ H' b, Same H H' → (b = true ↔ P H0 v) → Q (.bl b) H'
end Wd

set_option Elab.async false
set_option linter.all false
set_option maxRecDepth 100000
set_option maxHeartbeats 4000000
namespace Wd
open PySem L2
theorem nay {p : Prop} (h : ¬ p) : (false = true ↔ p) := ⟨fun q => Bool.noConfusion q, fun q => (h q).elim⟩
theorem yea {p : Prop} (h : p) : (true = true ↔ p) := ⟨fun _ => h, fun _ => rfl⟩
theorem pe_gcon {X : Cx} {x : Str} {v : V} {pos : Pos} (hg : Gl X x) (h : ∃ u, X.mg x = some u ∧ RelV v u) (hd : (x == ("__debug__" : Str)) = false := by decide) : PE X (.Name x pos) (tC v) := by
  obtain ⟨u, hm, r⟩ := h
  exact pe_glob hg hm r hd
/-- isinstance(e, N) -/
def tIsi (K : PySem.W.Frag) (N : String) (te : TE) : TE := fun σ H Q => te σ H fun x H1 => ∃ c, Isi K H1 x N c ∧ Q (.bl c) H1
theorem pe_isi {X : Cx} {e : Expr} {te : TE} {N : String} {x : Str} {p q pos : Pos} (he : PE X e te) (hi : X.mg "isinstance" = none) (hm : X.mg x = none) (gi : Gl X "isinstance" := by rfl) (gx : Gl X x := by rfl)
    (hv : bootBuiltins x = some (.type N) := by decide +kernel) (hn : x ≠ "__name__" := by decide) (hd : (x == ("__debug__" : Str)) = false := by decide)
    (h1 : starEach [e, .Name x q] X.env = (false, eval e X.env) :: starEach [.Name x q] X.env := by rfl) (h2 : (backTo pos (starEach [.Name x q] X.env)).any (·.1) = false := by rfl) :
    PE X (.Call (.Name "isinstance" p) [e, .Name x q] [] pos) (tIsi X.K N te) := by
  have A := pa_cons (X := X) he (pa_cons (pe_bltn (v := .ty N) gx hm hv rfl hn hd) pa_nil (by rfl)) h1
  refine ⟨fun pins s σ H Q I h => ?_⟩
  refine wpAny_Call_Name_kw (ld_blt I gi hi (show bootBuiltins "isinstance" = some (.builtin "isinstance") by decide +kernel) ?_ (by decide) (by decide))
  refine PyProof.Rows.callWith_builtin1 (thn (A.run pos pins s σ H (fun vs H1 => match vs with
    | [x, .ty M] => ∃ c, Isi X.K H1 x M c ∧ Q (.bl c) H1
    | _ => False) I h) fun us s1 ⟨vs, H1, I1, r1, q1⟩ => ?_) h1 h2
  dsimp only at q1
  split at q1
  · obtain ⟨c, hc, q⟩ := q1
    exact call_isN pins s1 σ H1 _ us Q I1 r1 ⟨_, _, c, rfl, hc, q⟩
  · exact q1.elim
/-- all([..]): the bools of a walk -/
theorem lc_bools {J : It} {n : Nat} {G : Hp → Prop} {Y : Nat → Hp → V → Hp → Prop} (w : Walk J n G Y) (Pi : Nat → Prop) {g : TG} {te : TE} {vs : List Nat} {σ : St} {H1 : Hp} {D : Addr} {Qd : Hp → Prop} (hD : H1 D = none) (hn : n ≤ 1000)
    (hG : ∀ H, Same H1 H → G H)
    (hs : ∀ i x H H' (k : V → Hp → Prop), i < n → Same H1 H → Y i H x H' → (∀ b H4, Same H H4 → (b = true ↔ Pi i) → k (.bl b) H4) → g x (wipe σ vs) H' fun σ2 H2 => wipe σ2 vs = wipe σ vs ∧ te σ2 H2 k)
    (hd : ∀ H (bs : List Bool), Same H1 H → H D = some (.lst (bs.map V.bl)) → (bs.all id = true ↔ ∀ i, i < n → Pi i) → Qd H) :
    ∃ W : Nat → Nat → Hp → Prop, (∃ m, W 0 m (upd H1 D (.lst []))) ∧ ∀ i m H, W i m H →
      (J.stop i H ∧ Qd H) ∨ (J.go i H ∧ ∃ Nx : Hp → Prop, (∀ H', Nx H' → ∃ m', m' < m ∧ W (i + 1) m' H') ∧ ∀ x H', J.yld i H x H' → g x (wipe σ vs) H' fun σ2 H2 => wipe σ2 vs = wipe σ vs ∧ tYes σ2 H2 fun b H3 =>
        if b = true then te σ2 H3 fun y H4 => ∃ acc, H4 D = some (.lst acc) ∧ acc.length < sizeLine ∧ Nx (upd H4 D (.lst (acc ++ [y]))) else Nx H3) := by
  refine lc_it w (fun i H => Same H1 H ∧ ∃ bs : List Bool, bs.length = i ∧ (bs.all id = true ↔ ∀ j, j < i → Pi j) ∧ H D = some (.lst (bs.map V.bl))) ⟨fun b o e => by rw [upd_ne (ne_of_none e hD)]; exact e, [], rfl, by simp, upd_same⟩
    (fun i H _ ⟨s, _⟩ => hG H s) ?_ (fun H ⟨s, bs, l, e, d⟩ => hd H bs s d e)
  rintro i x H H' hi ⟨s, bs, l, e, d⟩ y
  have z := hs i x H H' (fun y H4 => ∃ acc, H4 D = some (.lst acc) ∧ acc.length < sizeLine ∧ (Same H1 (upd H4 D (.lst (acc ++ [y]))) ∧ ∃ bs : List Bool, bs.length = i + 1 ∧ (bs.all id = true ↔ ∀ j, j < i + 1 → Pi j) ∧ (upd H4 D (.lst (acc ++ [y]))) D = some (.lst (bs.map V.bl)))) hi s y ?_
  · exact z
  · intro b H4 s4 hb
    refine ⟨_, s4 _ _ d, ?_, fun c o q => ?_, bs ++ [b], by simp [l], ?_, ?_⟩
    · rw [List.length_map, l]
      exact small1000 (by omega)
    · rw [upd_ne (ne_of_none q hD)]
      exact s4 _ _ (s _ _ q)
    · rw [List.all_append, Bool.and_eq_true, e]
      simp only [List.all_cons, List.all_nil, Bool.and_true, id_eq, hb]
      constructor
      · rintro ⟨h1, h2⟩ j hj
        by_cases q : j = i
        · exact q ▸ h2
        · exact h1 j (by omega)
      · exact fun h => ⟨fun j hj => h j (by omega), h i (by omega)⟩
    · rw [upd_same, List.map_append]
      rfl
end Wd

set_option Elab.async false
set_option linter.all false
set_option maxRecDepth 100000
set_option maxHeartbeats 4000000
namespace Wd
open PySem L2
/-! ### plain facts -/
theorem sign_of {s : Str} (h : s.length = 1) : ∃ c : Nat, s = ⟨#[c]⟩ := by
  obtain ⟨a⟩ := s
  have h' : a.size = 1 := h
  obtain ⟨l⟩ := a
  match l, h' with
  | [c], _ => exact ⟨c, rfl⟩
theorem alpha_mem (c : Nat) : c ∈ (Str.ofString "abcdefghijklmnopqrstuvwxyz").cps.toList ↔ low c := by
  have e : (Str.ofString "abcdefghijklmnopqrstuvwxyz").cps.toList = [97, 98, 99, 100, 101, 102, 103, 104, 105, 106, 107, 108, 109, 110, 111, 112, 113, 114, 115, 116, 117, 118, 119, 120, 121, 122] := by decide +kernel
  rw [e]
  unfold low
  simp only [List.mem_cons, List.not_mem_nil, or_false]
  omega
theorem sign_inj {c d : Nat} (h : (V.str ⟨#[c]⟩) = V.str ⟨#[d]⟩) : c = d := by
  injection h with h
  injection h with h
  injection h with h
  injection h
theorem isLet_sign {c : Nat} : IsLet (.str ⟨#[c]⟩) ↔ low c := ⟨fun ⟨d, e, l⟩ => sign_inj e ▸ l, fun l => ⟨c, rfl, l⟩⟩
theorem sign_lt {c d : Nat} : decide ((⟨#[c]⟩ : Str).cps.toList < (⟨#[d]⟩ : Str).cps.toList) = true ↔ c < d := by
  rw [decide_eq_true_iff]
  show [c] < [d] ↔ c < d
  constructor
  · intro h
    cases h with
    | rel h => exact h
    | cons h => cases h
  · exact fun h => .rel h
theorem lets_of : ∀ {xs : List V}, (∀ x ∈ xs, IsLet x) → ∃ cs, xs = letV cs ∧ ∀ c ∈ cs, low c
  | [], _ => ⟨[], rfl, fun c h => by cases h⟩
  | x :: r, h => by
    obtain ⟨c, e, l⟩ := h x List.mem_cons_self
    obtain ⟨cs, e', l'⟩ := lets_of fun y hy => h y (List.mem_cons_of_mem _ hy)
    refine ⟨c :: cs, by rw [e, e']; rfl, fun d hd => ?_⟩
    rcases List.mem_cons.mp hd with q | q
    · exact q ▸ l
    · exact l' d q
theorem letV_inj : ∀ {cs ds : List Nat}, letV cs = letV ds → cs = ds
  | [], [], _ => rfl
  | [], _ :: _, h => nomatch h
  | _ :: _, [], h => nomatch h
  | c :: cs, d :: ds, h => by
    have h1 : (V.str ⟨#[c]⟩) = V.str ⟨#[d]⟩ := (List.cons.inj h).1
    rw [sign_inj h1, letV_inj (List.cons.inj h).2]
theorem asc_iff {cs : List Nat} : (∀ i, i < cs.length - 1 → ∃ c d, cs[i]? = some c ∧ cs[i + 1]? = some d ∧ c < d) ↔ cs.Pairwise (· < ·) := by
  rw [List.pairwise_iff_getElem]
  constructor
  · intro h i j hi hj hij
    induction j with
    | zero => omega
    | succ j ih =>
      obtain ⟨c, d, h1, h2, h3⟩ := h j (by omega)
      have e1 : cs[j] = c := by
        rw [List.getElem?_eq_getElem (by omega)] at h1
        exact Option.some.inj h1
      have e2 : cs[j + 1] = d := by
        rw [List.getElem?_eq_getElem hj] at h2
        exact Option.some.inj h2
      by_cases q : i = j
      · subst q
        rw [e1, e2]
        exact h3
      · have := ih (by omega) (by omega)
        rw [e2]
        rw [e1] at this
        omega
  · intro h i hi
    exact ⟨_, _, List.getElem?_eq_getElem (by omega), List.getElem?_eq_getElem (by omega), h i (i + 1) (by omega) (by omega) (by omega)⟩
structure WTxt (mg : Str → Option Value) (fI fL : Addr) : Prop where
  len : mg "len" = none
  isin : mg "isinstance" = none
  int : mg "int" = none
  bool : mg "bool" = none
  str : mg "str" = none
  tup : mg "tuple" = none
  dict : mg "dict" = none
  all : mg "all" = none
  range : mg "range" = none
  ie : ∃ u, mg "INTEGER_END" = some u ∧ RelV (.int ten60) u
  ls : ∃ u, mg "LETTERS" = some u ∧ RelV (.str (Str.ofString "abcdefghijklmnopqrstuvwxyz")) u
  mn : ∃ u, mg "MAX_NAME" = some u ∧ RelV (.int 8) u
  ms : ∃ u, mg "MAX_SOURCES" = some u ∧ RelV (.int 4) u
  ml : ∃ u, mg "MAX_SOURCE_LETTERS" = some u ∧ RelV (.int 4) u
  mv : ∃ u, mg "MAX_VALUES" = some u ∧ RelV (.int 4) u
  fi : mg "is_integer" = some (.ref fI)
  fl : mg "is_letter" = some (.ref fL)
section
variable {P : Program} {w : World} {K : PySem.W.Frag} {mg : Str → Option Value} {base : Heap} {T : List Addr → Hp → Addr → Prop} {fI fL : Addr}
theorem scIsInteger : FnScope ["value"] ["value"] (defScope sIsInteger) := ⟨rfl, rfl, rfl, by decide +kernel, rfl, by decide +kernel, by decide +kernel⟩
theorem ok_is_integer (O : Own K T) {f : Addr} {fd : FuncData} (F : Fun K "is_integer" "is_integer" sIsInteger f fd) (X : WTxt mg fI fL) : FnOk P w K mg base CX0 1 f fd ["value"] (spIs T fun _ => IsInt) := by
  refine F.ok scIsInteger (fun vs H Q E h => ?_) (fun cdv A outer s H vs Q E hr h => ?_)
  · obtain ⟨v, B, H0, m, n, rfl, _⟩ := h
    rfl
  · obtain ⟨v, B, H0, m, n, rfl, sb, hm, d, k⟩ := h
    refine ⟨_, pss_one (ps_ret (pe_and (pe_isi (N := "int") (pv 0) X.isin X.int) (pe_and (pe_not (pe_isi (N := "bool") (pv 0) X.isin X.bool)) (pe_one (pe_chain op_lt op_lt (pe_un un_neg (pe_gcon rfl X.ie)) (pv 0) (pe_gcon rfl X.ie)))))), ?_⟩
    have no : (∀ i, v ≠ .int i) → (false = true ↔ IsInt v) := fun h => nay fun ⟨i, e, _⟩ => h i e
    rcases d.isInt O sb with ⟨i, rfl, i1, i2⟩ | ⟨ni, ⟨i1, i2⟩ | i1⟩
    · refine ⟨_, rfl, _, i1, _, rfl, iteT ⟨_, rfl, _, i2, _, rfl, _, rfl, iteT ⟨_, rfl, _, rfl, _, _, rfl, rfl, _, rfl, ?_⟩⟩⟩
      refine ite2 (fun c => ?_) (fun c => ?_)
      · refine ⟨_, _, rfl, rfl, k _ _ (Same.refl _) ?_⟩
        rw [decide_eq_true_iff]
        exact ⟨fun h => ⟨i, rfl, of_decide_eq_true c, h⟩, fun ⟨j, e, _, h⟩ => by cases e; exact h⟩
      · refine k _ _ (Same.refl _) (nay fun ⟨j, e, h, _⟩ => ?_)
        cases e
        exact (c (decide_eq_true h)).elim
    · exact ⟨_, rfl, _, i1, _, rfl, iteT ⟨_, rfl, _, i2, _, rfl, _, rfl, iteF (k _ _ (Same.refl _) (no ni))⟩⟩
    · exact ⟨_, rfl, _, i1, _, rfl, iteF (k _ _ (Same.refl _) (no ni))⟩
theorem scIsLetter : FnScope ["value"] ["value"] (defScope sIsLetter) := ⟨rfl, rfl, rfl, by decide +kernel, rfl, by decide +kernel, by decide +kernel⟩
theorem ok_is_letter (O : Own K T) {f : Addr} {fd : FuncData} (F : Fun K "is_letter" "is_letter" sIsLetter f fd) (X : WTxt mg fI fL) : FnOk P w K mg base CX0 1 f fd ["value"] (spIs T fun _ => IsLet) := by
  refine F.ok scIsLetter (fun vs H Q E h => ?_) (fun cdv A outer s H vs Q E hr h => ?_)
  · obtain ⟨v, B, H0, m, n, rfl, _⟩ := h
    rfl
  · obtain ⟨v, B, H0, m, n, rfl, sb, hm, d, k⟩ := h
    refine ⟨_, pss_one (ps_ret (pe_and (pe_isi (N := "str") (pv 0) X.isin X.str) (pe_and (pe_cmpR op_eq (pe_callB call_len_str (by rfl) X.len PySem.boot_len (pa_cons (pv 0) pa_nil)) pe_int (nomark _)) (pe_one (pe_cmpR op_in_sign (pv 0) (pe_gcon rfl X.ls) (by rfl)))))), ?_⟩
    rcases d.isStr O sb with ⟨z, rfl, hz, i1⟩ | ⟨ni, i1⟩
    · refine ⟨_, rfl, _, i1, _, rfl, iteT ⟨_, rfl, z, rfl, Nat.le_of_lt (small1000 (by omega)), rfl, _, rfl, ?_⟩⟩
      refine ite2 (fun c => ?_) (fun c => ?_)
      · have c' : (V.int z.length) = .int 1 := of_decide_eq_true c
        injection c' with c'
        obtain ⟨a, rfl⟩ := sign_of (s := z) (by omega)
        refine ⟨_, rfl, a, _, rfl, rfl, k _ _ (Same.refl _) ?_⟩
        rw [decide_eq_true_iff]
        exact (alpha_mem a).trans isLet_sign.symm
      · refine k _ _ (Same.refl _) (nay fun ⟨a, e, _⟩ => c ?_)
        cases e
        rfl
    · refine ⟨_, rfl, _, i1, _, rfl, iteF (k _ _ (Same.refl _) (nay fun ⟨a, e, _⟩ => ni _ e))⟩
end
end Wd

set_option Elab.async false
set_option linter.all false
set_option maxRecDepth 100000
set_option maxHeartbeats 4000000
namespace Wd
open PySem L2
theorem all_at {α : Type} {xs : List α} {p : α → Prop} : (∀ i, i < xs.length → ∃ x, xs[i]? = some x ∧ p x) ↔ ∀ x ∈ xs, p x := by
  constructor
  · intro h x hx
    obtain ⟨i, hi, rfl⟩ := List.getElem_of_mem hx
    obtain ⟨y, e, q⟩ := h i hi
    rw [List.getElem?_eq_getElem hi] at e
    exact Option.some.inj e ▸ q
  · exact fun h i hi => ⟨_, List.getElem?_eq_getElem hi, h _ (List.getElem_mem hi)⟩
theorem at_one {α : Type} {xs : List α} {i : Nat} {x : α} {p : α → Prop} (h : xs[i]? = some x) {b : Bool} (hb : b = true ↔ p x) : b = true ↔ ∃ y, xs[i]? = some y ∧ p y :=
  ⟨fun q => ⟨x, h, hb.mp q⟩, fun ⟨y, e, q⟩ => hb.mpr (by rw [h] at e; exact Option.some.inj e ▸ q)⟩
theorem at_nn {α : Type} {xs : List α} {r : Int} {v : α} (h0 : 0 ≤ r) (h : xs[r.toNat]? = some v) : atI xs r = some v := by
  obtain ⟨n, rfl⟩ := Int.eq_ofNat_of_zero_le h0
  exact atI_nat (by simpa using h)
theorem tup_same {H : Hp} {a : Addr} {xs ys : List V} (h : H a = some (.tup xs)) (h' : H a = some (.tup ys)) : xs = ys := by
  rw [h] at h'
  injection h' with h'
  injection h'
theorem dK_same {H : Hp} {a : Addr} {xs ys : List (Key × V)} (h : H a = some (.dK xs)) (h' : H a = some (.dK ys)) : xs = ys := by
  rw [h] at h'
  injection h' with h'
  injection h'
section
variable {P : Program} {w : World} {K : PySem.W.Frag} {mg : Str → Option Value} {base : Heap} {T : List Addr → Hp → Addr → Prop} {fI fL : Addr}
abbrev nIsLetters : List Str := ["value", "letter", "k"]
theorem scIsLetters : FnScope nIsLetters ["value"] (defScope sIsLetters) := ⟨rfl, rfl, rfl, by decide +kernel, rfl, by decide +kernel, by decide +kernel⟩
theorem ok_is_letters (O : Own K T) {f : Addr} {fd fdL : FuncData} (F : Fun K "is_letters" "is_letters" sIsLetters f fd) (X : WTxt mg fI fL) (FL : Fun K "is_letter" "is_letter" sIsLetter fL fdL) (bL : Binds K fdL ["value"] []) :
    FnOk P w K mg base CX0 2 f fd ["value"] (spIs T IsLetters) := by
  have GL : FnOk P w K mg base CX0 1 fL fdL ["value"] (spIs T fun _ => IsLet) := ok_is_letter O FL X
  refine F.ok scIsLetters (fun vs H Q E h => ?_) (fun cdv A outer s H vs Q E hr h => ?_)
  · obtain ⟨v, B, H0, m, n, rfl, _⟩ := h
    rfl
  · obtain ⟨v, B, H0, m, n, rfl, sb, hm, d, k⟩ := h
    refine ⟨_, pss_cons (ps_if (PW.pt (pw_or (pt_not (pt_val (pe_isi (N := "tuple") (pv 0) X.isin X.tup))) (pw_or1 (pt_cmpR op_eq (pe_callB call_len_seq (by rfl) X.len PySem.boot_len (pa_cons (pv 0) pa_nil)) pe_int (nomark _))))) (pss_one (ps_ret pe_bl)) pss_nil)
      (pss_cons (ps_if (pt_not (pt_val (pe_callB (cr_all rfl) (by rfl) X.all (by decide +kernel) (pa_cons (pe_lc (own := [("letter", 1)]) (g := gName 1) (tt := tYes) rfl scIsLetters.nd (pi_tup (pv 0))
          (blkOk_by (N := nIsLetters) (sc := defScope sIsLetters) (by decide +kernel)) (fun _ _ _ _ _ => pg_name (i := 1) scIsLetters.nd rfl (Or.inl rfl)) (fun _ _ _ _ _ => pts_nil)
          (fun _ _ _ _ _ => pe_call GL hr rfl X.fl FL.kp bL .nil pass0 (pa_cons (pv 1) pa_nil))) pa_nil)))) (pss_one (ps_ret pe_bl)) pss_nil)
      (pss_one (ps_ret (pe_callB (cr_all rfl) (by rfl) X.all (by decide +kernel) (pa_cons (pe_lc (own := [("k", 2)]) (g := gName 2) (tt := tYes) rfl scIsLetters.nd
          (pi_range1 rfl X.range (pa_cons (pe_op op_sub (pe_callB call_len_seq (by rfl) X.len PySem.boot_len (pa_cons (pv 0) pa_nil)) pe_int) pa_nil))
          (blkOk_by (N := nIsLetters) (sc := defScope sIsLetters) (by decide +kernel)) (fun _ _ _ _ _ => pg_name (i := 2) scIsLetters.nd rfl (Or.inl rfl)) (fun _ _ _ _ _ => pts_nil)
          (fun _ _ _ _ _ => pe_cmpR op_lt_str (pe_ix (r := rIxT K) ix_tup (pv 0) (pv 2) (fun _ _ => rfl)) (pe_ix (r := rIxT K) ix_tup (pv 0) (pe_op op_add (pv 2) pe_int) (fun _ _ => rfl)) (nomark _))) pa_nil))))), ?_⟩
    rcases d.isTup O sb with ⟨a, xs, j, rfl, na, e0, e1, hl, hk, i1⟩ | ⟨no, i1⟩
    · refine ⟨_, rfl, _, i1, _, rfl, ?_⟩
      refine iteF ⟨_, rfl, a, xs, rfl, .inr (SqT.of e1), rfl, _, rfl, ?_⟩
      refine ite2 (fun c => ?_) (fun c => ?_)
      · refine k _ _ (Same.refl _) (nay fun ⟨b, cs, eb, h, l⟩ => ?_)
        cases eb
        have q : (V.int xs.length) = .int 0 := of_decide_eq_true c
        injection q with q
        obtain rfl : xs = letV cs := tup_same e0 h
        exact l.1 (List.length_eq_zero_iff.mp (by simp [letV] at q; simpa using q))
      · have ne : xs ≠ [] := fun q => c (by rw [q]; rfl)
        refine ⟨_, rfl, a, rfl, ⟨xs, SqT.of e1⟩, fun D hD => ?_⟩
        refine lc_bools (walk_tup (K := K) (xs := xs) (a := a)) (fun i => ∃ x, xs[i]? = some x ∧ IsLet x) hD (by omega) (fun H s => SqT.of (s _ _ e1)) ?_ ?_
        · rintro i x H1 H' kk hi s1 ⟨rfl, hx⟩ h
          exact ⟨rfl, _, rfl, x, B, H0, m, j, rfl, sb.same s1, hm, hk x (List.mem_of_getElem? hx), fun H4 b s4 hb => h b H4 s4 (at_one hx hb)⟩
        · rintro H1 bs s1 hD1 hb
          have e2 := s1 _ _ e1
          refine ⟨D, bs, rfl, SqL.of hD1, _, rfl, ?_⟩
          cases hbs : bs.all id with
          | false =>
            refine iteT (k _ _ s1 (nay fun ⟨b, cs, eb, h, l⟩ => ?_))
            cases eb
            obtain rfl : xs = letV cs := tup_same e0 h
            rw [hbs] at hb
            refine Bool.noConfusion (hb.mpr (all_at.mpr fun x hx => ?_))
            obtain ⟨c, hc, rfl⟩ := List.mem_map.mp hx
            exact ⟨c, rfl, l.2.1 c hc⟩
          | true =>
            obtain ⟨cs, rfl, lo⟩ := lets_of (all_at.mp (hb.mp hbs))
            have lc : (letV cs).length = cs.length := List.length_map _
            refine iteF ⟨_, rfl, a, _, rfl, .inr (SqT.of e2), _, _, rfl, rfl, _, rfl, by omega, by omega, fun D2 hD2 => ?_⟩
            have en : (((letV cs).length : Int) - 1).toNat = cs.length - 1 := by omega
            have na2 : ∀ {H9 : Hp}, Same H1 H9 → H9 a = some (.tup (letV cs)) := fun s => s _ _ e2
            refine lc_bools (walk_range (n := (((letV cs).length : Int) - 1).toNat)) (fun i => ∃ c d, cs[i]? = some c ∧ cs[i + 1]? = some d ∧ c < d) hD2 (by omega) (fun _ _ => trivial) ?_ ?_
            · rintro i x H2 H' kk hi s2 ⟨rfl, rfl⟩ h
              have hi1 : i < cs.length := by omega
              have hi2 : i + 1 < cs.length := by omega
              have g1 : (letV cs)[i]? = some (V.str ⟨#[cs[i]]⟩) := by simp [letV, hi1]
              have g2 : (letV cs)[i + 1]? = some (V.str ⟨#[cs[i + 1]]⟩) := by simp [letV, hi2]
              refine ⟨rfl, _, rfl, _, rfl, a, _, _, _, rfl, rfl, SqT.of (na2 s2), at_nn (by omega) (by rw [show (0 + (i : Int)).toNat = i by omega]; exact g1), ?_⟩
              refine ⟨_, rfl, _, rfl, _, _, rfl, rfl, a, _, _, _, rfl, rfl, SqT.of (na2 s2), at_nn (by omega) (by rw [show (0 + (i : Int) + 1).toNat = i + 1 by omega]; exact g2), ?_⟩
              refine ⟨_, _, rfl, rfl, h _ _ (Same.refl _) (sign_lt.trans ⟨fun q => ⟨_, _, List.getElem?_eq_getElem hi1, List.getElem?_eq_getElem hi2, q⟩, fun ⟨c, d, q1, q2, q⟩ => ?_⟩)⟩
              rw [List.getElem?_eq_getElem hi1] at q1
              rw [List.getElem?_eq_getElem hi2] at q2
              rw [Option.some.inj q1, Option.some.inj q2]
              exact q
            · rintro H2 bs2 s2 hD2' hb2
              rw [en] at hb2
              refine ⟨D2, bs2, rfl, SqL.of hD2', k _ _ (s1.trans s2) ⟨fun q => ⟨a, cs, rfl, e0, fun z => ne (by rw [z]; rfl), lo, asc_iff.mp (hb2.mp q)⟩, fun ⟨b, ds, eb, h, l⟩ => ?_⟩⟩
              cases eb
              obtain rfl : cs = ds := letV_inj (tup_same e0 h)
              exact hb2.mpr (asc_iff.mpr l.2.2)
    · exact ⟨_, rfl, _, i1, _, rfl, iteT (k _ _ (Same.refl _) (nay fun ⟨b, cs, eb, h, _⟩ => no _ _ eb h))⟩
end
end Wd

set_option Elab.async false
set_option linter.all false
set_option maxRecDepth 100000
set_option maxHeartbeats 4000000
namespace Wd
open PySem L2
structure ATxt (K : PySem.W.Frag) (w : World) (mg : Str → Option Value) (d : Addr) (es : Array DictEntry) (n : Nat) : Prop where
  g : ∃ u, mg "ARGUMENTS" = some u ∧ RelV (.ref d) u
  k : KDict K w d es n
  mem : ∀ z : Str, ∃ r, PySem.W.nsIn K d z = some r ∧ (r.isSome = true ↔ z ∈ words ∨ z = Str.ofString "+" ∨ z = Str.ofString "&")
theorem no_plus : ¬ ∀ c ∈ (Str.ofString "+").cps.toList, low c := fun h => by
  have := h 43 (by decide +kernel)
  unfold low at this
  omega
theorem no_amp : ¬ ∀ c ∈ (Str.ofString "&").cps.toList, low c := fun h => by
  have := h 38 (by decide +kernel)
  unfold low at this
  omega
theorem cps_at {z : Str} {p : Nat → Prop} : (∀ i, i < z.cps.size → ∃ c, z.cps[i]? = some c ∧ p c) ↔ ∀ c ∈ z.cps.toList, p c := by
  have q := all_at (xs := z.cps.toList) (p := p)
  rw [Array.length_toList] at q
  simpa using q
theorem chainF {p q : Prop} [Decidable p] [Decidable q] {A B : Prop} (h : ¬ (p ∧ q) → B) (h' : p ∧ q → A) : if p then (if q then A else B) else B := by
  by_cases c : p
  · rw [if_pos c]
    by_cases e : q
    · rw [if_pos e]
      exact h' ⟨c, e⟩
    · rw [if_neg e]
      exact h fun z => e z.2
  · rw [if_neg c]
    exact h fun z => c z.1
section
variable {P : Program} {w : World} {K : PySem.W.Frag} {mg : Str → Option Value} {base : Heap} {T : List Addr → Hp → Addr → Prop} {fI fL : Addr} {dA : Addr} {es : Array DictEntry} {nA : Nat}
abbrev nIsName : List Str := ["value", "sign"]
theorem scIsName : FnScope nIsName ["value"] (defScope sIsName) := ⟨rfl, rfl, rfl, by decide +kernel, rfl, by decide +kernel, by decide +kernel⟩
theorem ok_is_name (O : Own K T) {f : Addr} {fd fdL : FuncData} (F : Fun K "is_name" "is_name" sIsName f fd) (X : WTxt mg fI fL) (Z : ATxt K w mg dA es nA) (FL : Fun K "is_letter" "is_letter" sIsLetter fL fdL) (bL : Binds K fdL ["value"] []) :
    FnOk P w K mg base CX0 2 f fd ["value"] (spIs T fun _ => IsName) := by
  have GL : FnOk P w K mg base CX0 1 fL fdL ["value"] (spIs T fun _ => IsLet) := ok_is_letter O FL X
  refine F.ok scIsName (fun vs H Q E h => ?_) (fun cdv A outer s H vs Q E hr h => ?_)
  · obtain ⟨v, B, H0, m, n, rfl, _⟩ := h
    rfl
  · obtain ⟨v, B, H0, m, n, rfl, sb, hm, d, k⟩ := h
    refine ⟨_, pss_cons (ps_if (PW.pt (pw_or (pt_not (pt_val (pe_isi (N := "str") (pv 0) X.isin X.str))) (pw_or1 (pt_not (pt_chain op_le op_le pe_int (pe_callB call_len_str (by rfl) X.len PySem.boot_len (pa_cons (pv 0) pa_nil)) (pe_gcon rfl X.mn)))))) (pss_one (ps_ret pe_bl)) pss_nil)
      (pss_one (ps_ret (pe_and (pe_callB (cr_all rfl) (by rfl) X.all (by decide +kernel) (pa_cons (pe_lc (own := [("sign", 1)]) (g := gName 1) (tt := tYes) rfl scIsName.nd (pi_str (pv 0))
          (blkOk_by (N := nIsName) (sc := defScope sIsName) (by decide +kernel)) (fun _ _ _ _ _ => pg_name (i := 1) scIsName.nd rfl (Or.inl rfl)) (fun _ _ _ _ _ => pts_nil)
          (fun _ _ _ _ _ => pe_call GL hr rfl X.fl FL.kp bL .nil pass0 (pa_cons (pv 1) pa_nil))) pa_nil))
        (pe_one (pe_cmpR (op_notIn_kd Z.k) (pv 0) (pe_gcon rfl Z.g) (by rfl)))))), ?_⟩
    rcases d.isStr O sb with ⟨z, rfl, hz, i1⟩ | ⟨ni, i1⟩
    · have hz1 : z.length ≤ sizeLine := Nat.le_of_lt (small1000 (by omega))
      refine ⟨_, rfl, _, i1, _, rfl, iteF ⟨_, rfl, z, rfl, hz1, _, _, rfl, rfl, _, rfl, ?_⟩⟩
      have bad : ¬ (1 ≤ z.length ∧ z.length ≤ 8) → ¬ IsName (.str z) := fun h ⟨y, e, q1, q2, _⟩ => by
        cases e
        exact h ⟨q1, q2⟩
      refine ite2 (fun c1 => ?_) (fun c1 => ?_)
      · refine ⟨_, _, rfl, rfl, _, rfl, ?_⟩
        refine ite2 (fun c2 => ?_) (fun c2 => ?_)
        · refine k _ _ (Same.refl _) (nay (bad fun q => ?_))
          simp at c2
          omega
        · have c1' : (1 : Int) ≤ z.length := of_decide_eq_true c1
          have c2' : (z.length : Int) ≤ 8 := by simpa using c2
          refine ⟨_, rfl, _, rfl, fun D hD => ?_⟩
          refine lc_bools (walk_str (z := z)) (fun i => ∃ c, z.cps[i]? = some c ∧ low c) hD (by show z.length ≤ 1000; omega) (fun _ _ => trivial) ?_ ?_
          · rintro i x H1 H' kk hi s1 ⟨rfl, c, hc, rfl⟩ h
            exact ⟨rfl, _, rfl, _, B, H0, 1000, 1, rfl, sb.same s1, Nat.le_refl _, .str _ (by show 1 ≤ 1000; decide) (ok_sign d.okS hc), fun H4 b s4 hb => h b H4 s4 ⟨fun q => ⟨c, hc, isLet_sign.mp (hb.mp q)⟩, fun ⟨y, e, q⟩ => hb.mpr (isLet_sign.mpr (by rw [hc] at e; exact Option.some.inj e ▸ q))⟩⟩
          · rintro H1 bs s1 hD1 hb
            rw [cps_at] at hb
            refine ⟨D, bs, rfl, SqL.of hD1, _, rfl, ?_⟩
            obtain ⟨r, hr1, hr2⟩ := Z.mem z
            cases hbs : bs.all id with
            | false =>
              rw [hbs] at hb
              refine iteF (k _ _ s1 (nay fun ⟨y, e, q1, q2, q3, _⟩ => ?_))
              cases e
              exact Bool.noConfusion (hb.mpr q3)
            | true =>
              have lo := hb.mp hbs
              have pm : (z ∈ words ∨ z = Str.ofString "+" ∨ z = Str.ofString "&") ↔ z ∈ words := ⟨fun q => by
                rcases q with q | rfl | rfl
                · exact q
                · exact (no_plus lo).elim
                · exact (no_amp lo).elim, .inl⟩
              refine iteT ⟨_, rfl, z, r, rfl, rfl, hr1, k _ _ s1 ?_⟩
              rw [pm] at hr2
              rw [Bool.not_eq_true', ← Bool.not_eq_true, hr2]
              exact ⟨fun q => ⟨z, rfl, by omega, by omega, lo, q⟩, fun ⟨y, e, _, _, _, q⟩ => by cases e; exact q⟩
      · refine ⟨_, rfl, iteT (k _ _ (Same.refl _) (nay (bad fun q => c1 ?_)))⟩
        exact decide_eq_true (by omega)
    · exact ⟨_, rfl, _, i1, _, rfl, iteT (k _ _ (Same.refl _) (nay fun ⟨z, e, _⟩ => ni _ e))⟩
end
end Wd

set_option Elab.async false
set_option linter.all false
set_option maxRecDepth 100000
set_option maxHeartbeats 4000000
namespace Wd
open PySem L2
section
variable {P : Program} {w : World} {K : PySem.W.Frag} {mg : Str → Option Value} {base : Heap} {T : List Addr → Hp → Addr → Prop} {fI fL : Addr}
theorem scIsValues : FnScope ["value", "worth"] ["value"] (defScope sIsValues) := ⟨rfl, rfl, rfl, by decide +kernel, rfl, by decide +kernel, by decide +kernel⟩
theorem ok_is_values (O : Own K T) {f : Addr} {fd fdI : FuncData} (F : Fun K "is_values" "is_values" sIsValues f fd) (X : WTxt mg fI fL) (FI : Fun K "is_integer" "is_integer" sIsInteger fI fdI) (bI : Binds K fdI ["value"] []) :
    FnOk P w K mg base CX0 2 f fd ["value"] (spIs T IsVals) := by
  have GI : FnOk P w K mg base CX0 1 fI fdI ["value"] (spIs T fun _ => IsInt) := ok_is_integer O FI X
  refine F.ok scIsValues (fun vs H Q E h => ?_) (fun cdv A outer s H vs Q E hr h => ?_)
  · obtain ⟨v, B, H0, m, n, rfl, _⟩ := h
    rfl
  · obtain ⟨v, B, H0, m, n, rfl, sb, hm, d, k⟩ := h
    refine ⟨_, pss_cons (ps_if (PW.pt (pw_or (pt_not (pt_val (pe_isi (N := "tuple") (pv 0) X.isin X.tup))) (pw_or1 (pt_cmpR op_gt (pe_callB call_len_seq (by rfl) X.len PySem.boot_len (pa_cons (pv 0) pa_nil)) (pe_gcon rfl X.mv) (nomark _))))) (pss_one (ps_ret pe_bl)) pss_nil)
      (pss_one (ps_ret (pe_callB (cr_all rfl) (by rfl) X.all (by decide +kernel) (pa_cons (pe_lc (own := [("worth", 1)]) (g := gName 1) (tt := tYes) rfl scIsValues.nd (pi_tup (pv 0))
          (blkOk_by (N := ["value", "worth"]) (sc := defScope sIsValues) (by decide +kernel)) (fun _ _ _ _ _ => pg_name (i := 1) scIsValues.nd rfl (Or.inl rfl)) (fun _ _ _ _ _ => pts_nil)
          (fun _ _ _ _ _ => pe_call GI hr rfl X.fi FI.kp bI .nil pass0 (pa_cons (pv 1) pa_nil))) pa_nil)))), ?_⟩
    rcases d.isTup O sb with ⟨a, xs, j, rfl, na, e0, e1, hl, hk, i1⟩ | ⟨no, i1⟩
    · refine ⟨_, rfl, _, i1, _, rfl, iteF ⟨_, rfl, a, xs, rfl, .inr (SqT.of e1), _, _, rfl, rfl, _, rfl, ?_⟩⟩
      refine ite2 (fun c => ?_) (fun c => ?_)
      · refine k _ _ (Same.refl _) (nay fun ⟨b, ys, eb, h, l, _⟩ => ?_)
        cases eb
        obtain rfl : xs = ys := tup_same e0 h
        have := of_decide_eq_true c
        omega
      · have c' : xs.length ≤ 4 := by
          simp at c
          omega
        refine ⟨_, rfl, a, rfl, ⟨xs, SqT.of e1⟩, fun D hD => ?_⟩
        refine lc_bools (walk_tup (K := K) (xs := xs) (a := a)) (fun i => ∃ x, xs[i]? = some x ∧ IsInt x) hD (by omega) (fun H s => SqT.of (s _ _ e1)) ?_ ?_
        · rintro i x H1 H' kk hi s1 ⟨rfl, hx⟩ h
          exact ⟨rfl, _, rfl, x, B, H0, m, j, rfl, sb.same s1, hm, hk x (List.mem_of_getElem? hx), fun H4 b s4 hb => h b H4 s4 (at_one hx hb)⟩
        · rintro H1 bs s1 hD1 hb
          rw [all_at] at hb
          refine ⟨D, bs, rfl, SqL.of hD1, k _ _ s1 (hb.trans ⟨fun q => ⟨a, xs, rfl, e0, c', q⟩, fun ⟨b, ys, eb, h, _, q⟩ => ?_⟩)⟩
          cases eb
          obtain rfl : xs = ys := tup_same e0 h
          exact q
    · exact ⟨_, rfl, _, i1, _, rfl, iteT (k _ _ (Same.refl _) (nay fun ⟨b, ys, eb, h, _⟩ => no _ _ eb h))⟩
end
end Wd

set_option Elab.async false
set_option linter.all false
set_option maxRecDepth 100000
set_option maxHeartbeats 4000000
namespace Wd
open PySem L2
section
variable {P : Program} {w : World} {K : PySem.W.Frag} {mg : Str → Option Value} {base : Heap} {T : List Addr → Hp → Addr → Prop} {fI fL fLs fN fS fV fO : Addr} {dA : Addr} {es : Array DictEntry} {nA : Nat}
theorem scIsSrcL : FnScope ["value"] ["value"] (defScope sIsSrcL) := ⟨rfl, rfl, rfl, by decide +kernel, rfl, by decide +kernel, by decide +kernel⟩
theorem ok_is_srcL (O : Own K T) {f : Addr} {fd fdL fdLs : FuncData} (F : Fun K "is_source_letters" "is_source_letters" sIsSrcL f fd) (X : WTxt mg fI fL) (mLs : mg "is_letters" = some (.ref fLs))
    (FL : Fun K "is_letter" "is_letter" sIsLetter fL fdL) (bL : Binds K fdL ["value"] []) (FLs : Fun K "is_letters" "is_letters" sIsLetters fLs fdLs) (bLs : Binds K fdLs ["value"] []) :
    FnOk P w K mg base CX0 3 f fd ["value"] (spIs T IsSrcL) := by
  have G : FnOk P w K mg base CX0 2 fLs fdLs ["value"] (spIs T IsLetters) := ok_is_letters O FLs X FL bL
  refine F.ok scIsSrcL (fun vs H Q E h => ?_) (fun cdv A outer s H vs Q E hr h => ?_)
  · obtain ⟨v, B, H0, m, n, rfl, _⟩ := h
    rfl
  · obtain ⟨v, B, H0, m, n, rfl, sb, hm, d, k⟩ := h
    refine ⟨_, pss_one (ps_ret (pe_and (pe_call G hr rfl mLs FLs.kp bLs .nil pass0 (pa_cons (pv 0) pa_nil)) (pe_one (pe_cmpR op_le (pe_callB call_len_seq (by rfl) X.len PySem.boot_len (pa_cons (pv 0) pa_nil)) (pe_gcon rfl X.ml) (nomark _))))), ?_⟩
    refine ⟨_, rfl, v, B, H0, m, n, rfl, sb, hm, d, fun H1 b s1 hb => ⟨b, rfl, ?_⟩⟩
    cases b with
    | false => exact iteF (k _ _ s1 (nay fun ⟨a, cs, e, h, l, _⟩ => Bool.noConfusion (hb.mpr ⟨a, cs, e, h, l⟩)))
    | true =>
      obtain ⟨a, cs, rfl, h, l⟩ := hb.mp rfl
      have na : a ∉ B := by
        cases d with
        | own t => exact (O.tup t h).elim
        | tup ne e _ _ => exact ne
        | lst ne e _ _ => exact ne
        | dic ne e _ _ _ _ => exact ne
      refine iteT ⟨_, rfl, a, _, rfl, .inr (SqT.of (s1 _ _ (sb _ _ na h))), _, _, rfl, rfl, k _ _ s1 ?_⟩
      rw [decide_eq_true_iff, show (letV cs).length = cs.length from List.length_map _]
      constructor
      · exact fun q => ⟨a, cs, rfl, h, l, by omega⟩
      · rintro ⟨b, ds, eb, h', _, q⟩
        cases eb
        obtain rfl : cs = ds := letV_inj (tup_same h h')
        omega
theorem scIsOutput : FnScope ["value", "letter", "values"] ["value"] (defScope sIsOutput) := ⟨rfl, rfl, rfl, by decide +kernel, rfl, by decide +kernel, by decide +kernel⟩
theorem ok_is_output (O : Own K T) {f : Addr} {fd fdL fdV fdI : FuncData} (F : Fun K "is_output" "is_output" sIsOutput f fd) (X : WTxt mg fI fL) (mV : mg "is_values" = some (.ref fV))
    (FL : Fun K "is_letter" "is_letter" sIsLetter fL fdL) (bL : Binds K fdL ["value"] []) (FI : Fun K "is_integer" "is_integer" sIsInteger fI fdI) (bI : Binds K fdI ["value"] [])
    (FV : Fun K "is_values" "is_values" sIsValues fV fdV) (bV : Binds K fdV ["value"] []) :
    FnOk P w K mg base CX0 3 f fd ["value"] (spIs T IsOutput) := by
  have GL : FnOk P w K mg base CX0 1 fL fdL ["value"] (spIs T fun _ => IsLet) := ok_is_letter O FL X
  have GV : FnOk P w K mg base CX0 2 fV fdV ["value"] (spIs T IsVals) := ok_is_values O FV X FI bI
  refine F.ok scIsOutput (fun vs H Q E h => ?_) (fun cdv A outer s H vs Q E hr h => ?_)
  · obtain ⟨v, B, H0, m, n, rfl, _⟩ := h
    rfl
  · obtain ⟨v, B, H0, m, n, rfl, sb, hm, d, k⟩ := h
    have hr1 : Room 1 _ := hr.mono (by decide)
    refine ⟨_, pss_cons (ps_if (PW.pt (pw_or (pt_not (pt_val (pe_isi (N := "tuple") (pv 0) X.isin X.tup))) (pw_or1 (pt_cmpR op_ne (pe_callB call_len_seq (by rfl) X.len PySem.boot_len (pa_cons (pv 0) pa_nil)) pe_int (nomark _))))) (pss_one (ps_ret pe_bl)) pss_nil)
      (pss_cons (ps_asg (pv 0) (pg_tup rfl (pgs_cons (pg_name (i := 1) scIsOutput.nd rfl (Or.inl rfl)) (pgs_cons (pg_name (i := 2) scIsOutput.nd rfl (Or.inl rfl)) pgs_nil))))
      (pss_one (ps_ret (pe_and (pe_call GL hr1 rfl X.fl FL.kp bL .nil pass0 (pa_cons (pv 1) pa_nil)) (pe_one (pe_call GV hr rfl mV FV.kp bV .nil pass0 (pa_cons (pv 2) pa_nil))))))), ?_⟩
    rcases d.isTup O sb with ⟨a, xs, j, rfl, na, e0, e1, hl, hk, i1⟩ | ⟨no, i1⟩
    · refine ⟨_, rfl, _, i1, _, rfl, iteF ⟨_, rfl, a, xs, rfl, .inr (SqT.of e1), rfl, _, rfl, ?_⟩⟩
      refine ite2 (fun c => ?_) (fun c => ?_)
      · refine k _ _ (Same.refl _) (nay fun ⟨b, l, u, eb, h, _⟩ => ?_)
        cases eb
        obtain rfl := tup_same e0 h
        simp at c
      · have c' : xs.length = 2 := by
          have c2 : (V.int xs.length) = .int 2 := by simpa using c
          injection c2 with c2
          omega
        obtain ⟨l, u, rfl⟩ : ∃ l u, xs = [l, u] := by
          match xs, c' with
          | [l, u], _ => exact ⟨l, u, rfl⟩
        refine ⟨_, rfl, a, _, rfl, SqT.of e1, rfl, _, _, rfl, _, _, rfl, rfl, ?_⟩
        refine ⟨_, rfl, l, B, H0, m, j, rfl, sb, hm, hk l (by simp), fun H1 b1 s1 hb1 => ⟨b1, rfl, ?_⟩⟩
        cases b1 with
        | false =>
          refine iteF (k _ _ s1 (nay fun ⟨b, l', u', eb, h, q, _⟩ => ?_))
          cases eb
          cases tup_same e0 h
          exact Bool.noConfusion (hb1.mpr q)
        | true =>
          refine iteT ⟨_, rfl, u, B, H0, m, j, rfl, sb.same s1, hm, hk u (by simp), fun H2 b2 s2 hb2 => k _ _ (s1.trans s2) (hb2.trans ⟨fun q => ⟨a, l, u, rfl, e0, hb1.mp rfl, q⟩, fun ⟨b, l', u', eb, h, _, q⟩ => ?_⟩)⟩
          cases eb
          cases tup_same e0 h
          exact q
    · exact ⟨_, rfl, _, i1, _, rfl, iteT (k _ _ (Same.refl _) (nay fun ⟨b, l, u, eb, h, _⟩ => no _ _ eb h))⟩
theorem scIsEvent : FnScope ["value", "time", "source", "letter", "worth"] ["value"] (defScope sIsEvent) := ⟨rfl, rfl, rfl, by decide +kernel, rfl, by decide +kernel, by decide +kernel⟩
theorem ok_is_event (O : Own K T) {f : Addr} {fd fdL fdN fdI : FuncData} (F : Fun K "is_event" "is_event" sIsEvent f fd) (X : WTxt mg fI fL) (Z : ATxt K w mg dA es nA) (mN : mg "is_name" = some (.ref fN))
    (FL : Fun K "is_letter" "is_letter" sIsLetter fL fdL) (bL : Binds K fdL ["value"] []) (FI : Fun K "is_integer" "is_integer" sIsInteger fI fdI) (bI : Binds K fdI ["value"] [])
    (FN : Fun K "is_name" "is_name" sIsName fN fdN) (bN : Binds K fdN ["value"] []) :
    FnOk P w K mg base CX0 3 f fd ["value"] (spIs T IsEvent) := by
  have GL : FnOk P w K mg base CX0 1 fL fdL ["value"] (spIs T fun _ => IsLet) := ok_is_letter O FL X
  have GI : FnOk P w K mg base CX0 1 fI fdI ["value"] (spIs T fun _ => IsInt) := ok_is_integer O FI X
  have GN : FnOk P w K mg base CX0 2 fN fdN ["value"] (spIs T fun _ => IsName) := ok_is_name O FN X Z FL bL
  refine F.ok scIsEvent (fun vs H Q E h => ?_) (fun cdv A outer s H vs Q E hr h => ?_)
  · obtain ⟨v, B, H0, m, n, rfl, _⟩ := h
    rfl
  · obtain ⟨v, B, H0, m, n, rfl, sb, hm, d, k⟩ := h
    have hr1 : Room 1 _ := hr.mono (by decide)
    refine ⟨_, pss_cons (ps_if (PW.pt (pw_or (pt_not (pt_val (pe_isi (N := "tuple") (pv 0) X.isin X.tup))) (pw_or1 (pt_cmpR op_ne (pe_callB call_len_seq (by rfl) X.len PySem.boot_len (pa_cons (pv 0) pa_nil)) pe_int (nomark _))))) (pss_one (ps_ret pe_bl)) pss_nil)
      (pss_cons (ps_asg (pv 0) (pg_tup rfl (pgs_cons (pg_name (i := 1) scIsEvent.nd rfl (Or.inl rfl)) (pgs_cons (pg_name (i := 2) scIsEvent.nd rfl (Or.inl rfl)) (pgs_cons (pg_name (i := 3) scIsEvent.nd rfl (Or.inl rfl)) (pgs_cons (pg_name (i := 4) scIsEvent.nd rfl (Or.inl rfl)) pgs_nil))))))
      (pss_one (ps_ret (pe_and (pe_call GI hr1 rfl X.fi FI.kp bI .nil pass0 (pa_cons (pv 1) pa_nil)) (pe_and (pe_cmpR op_ge (pv 1) pe_int (nomark _)) (pe_and (pe_call GN hr rfl mN FN.kp bN .nil pass0 (pa_cons (pv 2) pa_nil))
        (pe_and (pe_call GL hr1 rfl X.fl FL.kp bL .nil pass0 (pa_cons (pv 3) pa_nil)) (pe_one (pe_call GI hr1 rfl X.fi FI.kp bI .nil pass0 (pa_cons (pv 4) pa_nil)))))))))), ?_⟩
    rcases d.isTup O sb with ⟨a, xs, j, rfl, na, e0, e1, hl, hk, i1⟩ | ⟨no, i1⟩
    · refine ⟨_, rfl, _, i1, _, rfl, iteF ⟨_, rfl, a, xs, rfl, .inr (SqT.of e1), rfl, _, rfl, ?_⟩⟩
      refine ite2 (fun c => ?_) (fun c => ?_)
      · refine k _ _ (Same.refl _) (nay fun ⟨b, t, u, l, w', eb, h, _⟩ => ?_)
        cases eb
        obtain rfl := tup_same e0 h
        simp at c
      · have c' : xs.length = 4 := by
          have c2 : (V.int xs.length) = .int 4 := by simpa using c
          injection c2 with c2
          omega
        obtain ⟨t, u, l, y, rfl⟩ : ∃ t u l y, xs = [t, u, l, y] := by
          match xs, c' with
          | [t, u, l, y], _ => exact ⟨t, u, l, y, rfl⟩
        have un : ∀ {p : Prop}, (∀ t' u' l' y', [t, u, l, y] = [t', u', l', y'] → (∃ i, t' = V.int i ∧ 0 ≤ i ∧ i < ten60) → IsName u' → IsLet l' → IsInt y' → p) → IsEvent H0 (.ref a) → p := fun {p} g ⟨b, t', u', l', y', eb, h, q1, q2, q3, q4⟩ => by
          cases eb
          exact g t' u' l' y' (tup_same e0 h) q1 q2 q3 q4
        refine ⟨_, rfl, a, _, rfl, SqT.of e1, rfl, _, _, rfl, _, _, rfl, _, _, rfl, _, _, rfl, rfl, ?_⟩
        refine ⟨_, rfl, t, B, H0, m, j, rfl, sb, hm, hk t (by simp), fun H1 b1 s1 hb1 => ⟨b1, rfl, ?_⟩⟩
        cases b1 with
        | false =>
          refine iteF (k _ _ s1 (nay (un fun t' u' l' y' e ⟨i, ei, i0, i1⟩ _ _ _ => ?_)))
          cases e
          exact Bool.noConfusion (hb1.mpr ⟨i, ei, by omega, i1⟩)
        | true =>
          obtain ⟨i, rfl, i0, i9⟩ := hb1.mp rfl
          refine iteT ⟨_, rfl, _, _, rfl, rfl, _, rfl, ?_⟩
          refine ite2 (fun g => ?_) (fun g => ?_)
          · have g' : 0 ≤ i := of_decide_eq_true g
            refine ⟨_, rfl, u, B, H0, m, j, rfl, sb.same s1, hm, hk u (by simp), fun H2 b2 s2 hb2 => ⟨b2, rfl, ?_⟩⟩
            cases b2 with
            | false =>
              refine iteF (k _ _ (s1.trans s2) (nay (un fun t' u' l' y' e _ q _ _ => ?_)))
              cases e
              exact Bool.noConfusion (hb2.mpr q)
            | true =>
              refine iteT ⟨_, rfl, l, B, H0, m, j, rfl, (sb.same s1).same s2, hm, hk l (by simp), fun H3 b3 s3 hb3 => ⟨b3, rfl, ?_⟩⟩
              cases b3 with
              | false =>
                refine iteF (k _ _ ((s1.trans s2).trans s3) (nay (un fun t' u' l' y' e _ _ q _ => ?_)))
                cases e
                exact Bool.noConfusion (hb3.mpr q)
              | true =>
                refine iteT ⟨_, rfl, y, B, H0, m, j, rfl, ((sb.same s1).same s2).same s3, hm, hk y (by simp), fun H4 b4 s4 hb4 => k _ _ (((s1.trans s2).trans s3).trans s4) (hb4.trans
                  ⟨fun q => ⟨a, _, u, l, y, rfl, e0, ⟨i, rfl, g', i9⟩, hb2.mp rfl, hb3.mp rfl, q⟩, un fun t' u' l' y' e _ _ _ q => ?_⟩)⟩
                cases e
                exact q
          · refine k _ _ s1 (nay (un fun t' u' l' y' e ⟨i', ei, i0', _⟩ _ _ _ => ?_))
            cases e
            cases ei
            exact g (decide_eq_true i0')
    · exact ⟨_, rfl, _, i1, _, rfl, iteT (k _ _ (Same.refl _) (nay fun ⟨b, t, u, l, y, eb, h, _⟩ => no _ _ eb h))⟩
end
end Wd

set_option Elab.async false
set_option linter.all false
set_option maxRecDepth 100000
set_option maxHeartbeats 4000000
namespace Wd
open PySem L2
/-- data == a text -/
def rEqT (T : List Addr → Hp → Addr → Prop) : R2 := fun x y H Q => ∃ B m n z, Dat T B H m n x ∧ y = .str z ∧ ∀ b H', Same H H' → (b = true ↔ x = .str z) → Q (.bl b) H'
theorem val_at {kvs : List (Key × V)} {i : Nat} {k : Key} {v : V} (nd : (kvs.map (·.1)).Nodup) (h : kvs[i]? = some (k, v)) : valV kvs k = some v := by
  induction kvs generalizing i with
  | nil => simp at h
  | cons p r ih =>
    rw [List.map_cons, List.nodup_cons] at nd
    cases i with
    | zero =>
      have e : p = (k, v) := by simpa using h
      subst e
      exact valV_pos rfl
    | succ i =>
      have h' : r[i]? = some (k, v) := by simpa using h
      refine (valV_neg fun e => nd.1 ?_).trans (ih nd.2 h')
      rw [e]
      exact List.mem_map.mpr ⟨_, List.mem_of_getElem? h', rfl⟩
theorem end_out {H : Hp} : ¬ IsOutput H vEnd := fun ⟨_, _, _, e, _⟩ => V.noConfusion e
section
variable {P : Program} {w : World} {K : PySem.W.Frag} {mg : Str → Option Value} {base : Heap} {T : List Addr → Hp → Addr → Prop} {fI fL fLs fN fS fV fO : Addr} {dA : Addr} {es : Array DictEntry} {nA : Nat}
theorem scIsLayout : FnScope ["value", "name"] ["value"] (defScope sIsLayout) := ⟨rfl, rfl, rfl, by decide +kernel, rfl, by decide +kernel, by decide +kernel⟩
theorem ok_is_layout (O : Own K T) {f : Addr} {fd fdL fdLs fdN fdS : FuncData} (F : Fun K "is_layout" "is_layout" sIsLayout f fd) (X : WTxt mg fI fL) (Z : ATxt K w mg dA es nA) (mLs : mg "is_letters" = some (.ref fLs)) (mN : mg "is_name" = some (.ref fN))
    (mS : mg "is_source_letters" = some (.ref fS)) (FL : Fun K "is_letter" "is_letter" sIsLetter fL fdL) (bL : Binds K fdL ["value"] []) (FLs : Fun K "is_letters" "is_letters" sIsLetters fLs fdLs) (bLs : Binds K fdLs ["value"] [])
    (FN : Fun K "is_name" "is_name" sIsName fN fdN) (bN : Binds K fdN ["value"] []) (FS : Fun K "is_source_letters" "is_source_letters" sIsSrcL fS fdS) (bS : Binds K fdS ["value"] []) :
    FnOk P w K mg base CX0 4 f fd ["value"] (spIs T IsLayout) := by
  have GN : FnOk P w K mg base CX0 2 fN fdN ["value"] (spIs T fun _ => IsName) := ok_is_name O FN X Z FL bL
  have GS : FnOk P w K mg base CX0 3 fS fdS ["value"] (spIs T IsSrcL) := ok_is_srcL O FS X mLs FL bL FLs bLs
  refine F.ok scIsLayout (fun vs H Q E h => ?_) (fun cdv A outer s H vs Q E hr h => ?_)
  · obtain ⟨v, B, H0, m, n, rfl, _⟩ := h
    rfl
  · obtain ⟨v, B, H0, m, n, rfl, sb, hm, d, k⟩ := h
    have hr2 : Room 2 _ := hr.mono (by decide)
    refine ⟨_, pss_cons (ps_if (PW.pt (pw_or (pt_not (pt_val (pe_isi (N := "dict") (pv 0) X.isin X.dict))) (pw_or1 (pt_not (pt_chain op_le op_le pe_int (pe_callB call_lenD (by rfl) X.len PySem.boot_len (pa_cons (pv 0) pa_nil)) (pe_gcon rfl X.ms)))))) (pss_one (ps_ret pe_bl)) pss_nil)
      (pss_one (ps_ret (pe_callB (cr_all rfl) (by rfl) X.all (by decide +kernel) (pa_cons (pe_lock (pe_lc (own := [("name", 1)]) (g := gName 1) (tt := tYes) rfl scIsLayout.nd (pi_keys (pv 0))
          (blkOk_by (N := ["value", "name"]) (sc := defScope sIsLayout) (by decide +kernel)) (fun _ _ _ _ _ => pg_name (i := 1) scIsLayout.nd rfl (Or.inl rfl)) (fun _ _ _ _ _ => pts_nil)
          (fun _ _ _ _ _ => pe_and (pe_call GN hr2 rfl mN FN.kp bN .nil pass0 (pa_cons (pv 1) pa_nil)) (pe_one (pe_call GS hr rfl mS FS.kp bS .nil pass0 (pa_cons (pe_dget (hu_of hr) (pv 0) (pv 1) (fun _ _ => rfl)) pa_nil)))))) pa_nil)))), ?_⟩
    rcases d.isDic O sb with ⟨a, kvs, j, rfl, na, rfl, e0, e1, hl, nd, hks, hk, i1⟩ | ⟨no, i1⟩
    · have un : ∀ {p : Prop}, (1 ≤ kvs.length → kvs.length ≤ 4 → (∀ p ∈ kvs, IsName (kV p.1) ∧ IsSrcL H0 p.2) → p) → IsLayout H0 (.ref a) → p := fun {p} g ⟨b, ks, eb, h, q1, q2, q3⟩ => by
        cases eb
        obtain rfl : kvs = ks := dK_same e0 h
        exact g q1 q2 q3
      refine ⟨_, rfl, _, i1, _, rfl, iteF ⟨_, rfl, a, kvs, rfl, e1, _, _, rfl, rfl, _, rfl, ?_⟩⟩
      refine ite2 (fun c1 => ?_) (fun c1 => ?_)
      · refine ⟨_, _, rfl, rfl, _, rfl, ?_⟩
        refine ite2 (fun c2 => ?_) (fun c2 => ?_)
        · refine k _ _ (Same.refl _) (nay (un fun _ q _ => ?_))
          simp at c2
          omega
        · have c1' : (1 : Int) ≤ kvs.length := of_decide_eq_true c1
          have c2' : (kvs.length : Int) ≤ 4 := by simpa using c2
          refine ⟨a, _, e1, True.intro, fun od => ?_⟩
          have kid := Dat.kids O e0 _ d
          have sf : Ob (a :: B) H0 (upd H a (.frz od (.dK kvs))) := fun b o nb e => by
            have q : b ≠ a ∧ b ∉ B := by simpa using nb
            rw [upd_ne q.1]
            exact sb _ _ q.2 e
          have h1 : (upd H a (.frz od (.dK kvs))) a = some (.frz od (.dK kvs)) := upd_same
          generalize hH : upd H a (.frz od (.dK kvs)) = Hf at sf h1
          refine ⟨_, rfl, a, od, rfl, .inl ⟨kvs, h1, fun D hD => ?_⟩⟩
          refine lc_bools (walk_keys (kvs := kvs) (d := a) (o := od)) (fun i => ∃ p, kvs[i]? = some p ∧ (IsName (kV p.1) ∧ IsSrcL H0 p.2)) hD (by omega) (fun H s => s _ _ h1) ?_ ?_
          · rintro i x H1 H' kk hi s1 ⟨rfl, ky, vy, hx, rfl⟩ h
            have hmem := List.mem_of_getElem? hx
            obtain ⟨z, ez, lz, oz⟩ := hks _ hmem
            have ez' : ky = Sum.inr z := ez
            subst ez'
            refine ⟨rfl, _, rfl, .str z, a :: B, H0, m, 1, rfl, sf.same s1, hm, (.str z lz oz), fun H2 b2 s2 hb2 => ⟨b2, rfl, ?_⟩⟩
            cases b2 with
            | false => exact iteF (h _ _ s2 (nay fun ⟨p, hp, q, _⟩ => by rw [hx] at hp; cases hp; exact Bool.noConfusion (hb2.mpr q)))
            | true =>
              refine iteT ⟨_, rfl, _, rfl, a, vy, rfl, ?_, vy, a :: B, H0, m, j, rfl, (sf.same s1).same s2, hm, kid _ hmem, fun H3 b3 s3 hb3 => h _ _ (s2.trans s3) (hb3.trans ⟨fun q => ⟨_, hx, hb2.mp rfl, q⟩, fun ⟨p, hp, _, q⟩ => by rw [hx] at hp; cases hp; exact q⟩)⟩
              rw [← val_at nd hx]
              exact .inl ⟨kvs, Sum.inr z, .inr ⟨od, s2 _ _ (s1 _ _ h1)⟩, rfl, rfl⟩
          · rintro H1 bs s1 hD1 hb
            rw [all_at] at hb
            have e2 := s1 _ _ h1
            have nD : D ≠ a := fun q => by
              rw [q, h1] at hD
              cases hD
            refine ⟨e2, D, bs, rfl, SqL.of ((upd_ne nD).trans hD1), k _ _ (fun b o e => ?_) (hb.trans ⟨fun q => ⟨a, kvs, rfl, e0, by omega, by omega, q⟩, un fun _ _ q => q⟩)⟩
            by_cases q : b = a
            · subst q
              rw [e1] at e
              rw [upd_same]
              exact e
            · rw [upd_ne q]
              refine s1 _ _ ?_
              rw [← hH, upd_ne q]
              exact e
      · refine ⟨_, rfl, iteT (k _ _ (Same.refl _) (nay (un fun q _ _ => c1 ?_)))⟩
        exact decide_eq_true (by omega)
    · exact ⟨_, rfl, _, i1, _, rfl, iteT (k _ _ (Same.refl _) (nay fun ⟨b, ks, eb, h, _⟩ => no _ _ eb h))⟩
theorem scIsList : FnScope ["value", "ended", "outputs", "output"] ["value"] (defScope sIsList) := ⟨rfl, rfl, rfl, by decide +kernel, rfl, by decide +kernel, by decide +kernel⟩
theorem ok_is_list (O : Own K T) {f : Addr} {fd fdL fdV fdI fdO : FuncData} (F : Fun K "is_list" "is_list" sIsList f fd) (X : WTxt mg fI fL) (mV : mg "is_values" = some (.ref fV)) (mO : mg "is_output" = some (.ref fO))
    (FL : Fun K "is_letter" "is_letter" sIsLetter fL fdL) (bL : Binds K fdL ["value"] []) (FI : Fun K "is_integer" "is_integer" sIsInteger fI fdI) (bI : Binds K fdI ["value"] [])
    (FV : Fun K "is_values" "is_values" sIsValues fV fdV) (bV : Binds K fdV ["value"] []) (FO : Fun K "is_output" "is_output" sIsOutput fO fdO) (bO : Binds K fdO ["value"] [])
    (hE : ∀ X : Cx, X.prog = P → X.w = w → X.K = K → X.mg = mg → X.base = base → Room 3 X.A → OpR X (compareOp .Eq) (rEqT T)) :
    FnOk P w K mg base CX0 4 f fd ["value"] (spIs T IsList) := by
  have GO : FnOk P w K mg base CX0 3 fO fdO ["value"] (spIs T IsOutput) := ok_is_output O FO X mV FL bL FI bI FV bV
  refine F.ok scIsList (fun vs H Q E h => ?_) (fun cdv A outer s H vs Q E hr h => ?_)
  · obtain ⟨v, B, H0, m, n, rfl, _⟩ := h
    rfl
  · obtain ⟨v, B, H0, m, n, rfl, sb, hm, d, k⟩ := h
    refine ⟨_, pss_cons (ps_if (pt_not (pt_val (pe_isi (N := "tuple") (pv 0) X.isin X.tup))) (pss_one (ps_ret pe_bl)) pss_nil)
      (pss_cons (ps_set (i := 1) scIsList.nd rfl (Or.inl rfl) (pe_and (pe_cmpR op_gt (pe_callB call_len_seq (by rfl) X.len PySem.boot_len (pa_cons (pv 0) pa_nil)) pe_int (nomark _)) (pe_one (pe_cmpR (hE _ rfl rfl rfl rfl rfl hr) (pe_ix ix_tup (pv 0) (pe_un un_neg pe_int) (fun _ _ => rfl)) pe_str (nomark _)))))
      (pss_cons (ps_set (i := 2) scIsList.nd rfl (Or.inl rfl) (pe_ifExp (pt_val (pv 1)) (pe_slice sl_tup (pv 0) po_none (po_some (pe_un un_neg pe_int))) (pv 0)))
      (pss_one (ps_ret (pe_callB (cr_all rfl) (by rfl) X.all (by decide +kernel) (pa_cons (pe_lc (own := [("output", 3)]) (g := gName 3) (tt := tYes) rfl scIsList.nd (pi_tup (pv 2))
          (blkOk_by (N := ["value", "ended", "outputs", "output"]) (sc := defScope sIsList) (by decide +kernel)) (fun _ _ _ _ _ => pg_name (i := 3) scIsList.nd rfl (Or.inl rfl)) (fun _ _ _ _ _ => pts_nil)
          (fun _ _ _ _ _ => pe_call GO hr rfl mO FO.kp bO .nil pass0 (pa_cons (pv 3) pa_nil))) pa_nil)))))), ?_⟩
    rcases d.isTup O sb with ⟨a, xs, j, rfl, na, e0, e1, hl, hk, i1⟩ | ⟨no, i1⟩
    · have un : ∀ {p : Prop}, (∀ ys, (xs = ys ∨ xs = ys ++ [vEnd]) → (∀ y ∈ ys, IsOutput H0 y) → p) → IsList H0 (.ref a) → p := fun {p} g ⟨b, zs, eb, h, ys, q1, q2⟩ => by
        cases eb
        obtain rfl : xs = zs := tup_same e0 h
        exact g ys q1 q2
      refine ⟨_, rfl, _, i1, _, rfl, iteF ⟨_, rfl, a, xs, rfl, .inr (SqT.of e1), _, _, rfl, rfl, _, rfl, ?_⟩⟩
      refine ite2 (fun c => ?_) (fun c => ?_)
      · have c' : 0 < xs.length := by
          have := of_decide_eq_true c
          omega
        obtain ⟨ws, y, ew⟩ : ∃ ws y, xs = ws ++ [y] := ⟨xs.dropLast, xs.getLast (fun q => by rw [q] at c'; cases c'), (List.dropLast_concat_getLast _).symm⟩
        have lw : xs.length = ws.length + 1 := by rw [ew]; simp
        have ly : xs[ws.length]? = some y := by rw [ew]; simp
        refine ⟨_, rfl, _, rfl, a, xs, -1, y, rfl, rfl, SqT.of e1, ?_, B, m, j, _, (hk y (List.mem_of_getElem? ly)).mono O sb, rfl, fun b H1 s1 hb => ?_⟩
        · have q : atI xs (-1) = xs[ws.length]? := by
            unfold atI ixN
            rw [if_neg (by decide), if_pos (by omega)]
            show xs[((xs.length : Int) + -1).toNat]? = _
            rw [show ((xs.length : Int) + -1).toNat = ws.length by omega]
          rw [q, ly]
        cases b with
        | true =>
          have ey : y = vEnd := hb.mp rfl
          subst ey
          refine ⟨_, rfl, _, rfl, iteT ⟨_, rfl, _, rfl, _, rfl, a, xs, rfl, SqT.of (s1 _ _ e1), ?_, fun p hp => ?_⟩⟩
          · rintro ⟨_, q⟩
            rw [HT.sIx] at q
            rw [if_pos (by decide)] at q
            omega
          · have ec : cutV xs none (some (-1)) = ws := by
              unfold cutV
              rw [HT.sIx_none]
              show (List.drop 0 xs).take ((if (-1 : Int) < 0 then ((-1 : Int) + (xs.length : Int)).toNat else min (-1 : Int).toNat xs.length) - 0) = ws
              rw [if_pos (by decide), show ((-1 : Int) + (xs.length : Int)).toNat - 0 = ws.length by omega, List.drop_zero, ew, List.take_left]
            rw [ec]
            have np : a ≠ p := fun q => by
              rw [← q, s1 _ _ e1] at hp
              cases hp
            have s2 : Same H (upd H1 p (.tup ws)) := fun b o e => by
              rw [upd_ne (ne_of_none (s1 _ _ e) hp)]
              exact s1 _ _ e
            have h2 : (upd H1 p (.tup ws)) p = some (.tup ws) := upd_same
            generalize upd H1 p (.tup ws) = H2 at s2 h2
            refine ⟨_, rfl, p, rfl, ⟨ws, SqT.of h2⟩, fun D hD => ?_⟩
            refine lc_bools (walk_tup (K := K) (xs := ws) (a := p)) (fun i => ∃ x, (ws)[i]? = some x ∧ IsOutput H0 x) hD (by omega) (fun H s => SqT.of (s _ _ h2)) ?_ ?_
            · rintro i x H3 H' kk hi s3 ⟨rfl, hx⟩ h
              exact ⟨rfl, _, rfl, x, B, H0, m, j, rfl, (sb.same s2).same s3, hm, hk x (by rw [ew]; exact List.mem_append_left _ (List.mem_of_getElem? hx)), fun H4 b s4 hb => h b H4 s4 (at_one hx hb)⟩
            · rintro H3 bs s3 hD3 hb
              rw [all_at] at hb
              exact ⟨D, bs, rfl, SqL.of hD3, k _ _ (s2.trans s3) (hb.trans ⟨fun q => ⟨a, xs, rfl, e0, ws, .inr ew, q⟩, un fun ys hy q => hy.elim (fun e => (end_out (q _ (by rw [← e, ew]; simp))).elim) fun e => by rw [ew] at e; rw [(List.append_inj' e rfl).1]; exact q⟩)⟩
        | false =>
          have wh : ∀ ys, xs ≠ ys ++ [vEnd] := fun ys e => by
            rw [ew] at e
            exact Bool.noConfusion (hb.mpr (List.cons.inj (List.append_inj' e rfl).2).1)
          refine ⟨_, rfl, _, rfl, iteF ⟨_, rfl, ?_⟩⟩
          have e2 := s1 _ _ e1
          refine ⟨_, rfl, a, rfl, ⟨xs, SqT.of e2⟩, fun D hD => ?_⟩
          refine lc_bools (walk_tup (K := K) (xs := xs) (a := a)) (fun i => ∃ x, (xs)[i]? = some x ∧ IsOutput H0 x) hD (by omega) (fun H s => SqT.of (s _ _ e2)) ?_ ?_
          · rintro i x H3 H' kk hi s3 ⟨rfl, hx⟩ h
            exact ⟨rfl, _, rfl, x, B, H0, m, j, rfl, (sb.same s1).same s3, hm, hk x (List.mem_of_getElem? hx), fun H4 b s4 hb => h b H4 s4 (at_one hx hb)⟩
          · rintro H3 bs s3 hD3 hb
            rw [all_at] at hb
            exact ⟨D, bs, rfl, SqL.of hD3, k _ _ (s1.trans s3) (hb.trans ⟨fun q => ⟨a, xs, rfl, e0, xs, .inl rfl, q⟩, un fun ys hy q => hy.elim (fun e => e ▸ q) fun e => (wh ys e).elim⟩)⟩
      · have wh : ∀ ys, xs ≠ ys ++ [vEnd] := fun ys e => by
          have q : xs.length = ys.length + 1 := by rw [e]; simp
          exact c (decide_eq_true (by omega))
        refine ⟨_, rfl, _, rfl, iteF ⟨_, rfl, ?_⟩⟩
        refine ⟨_, rfl, a, rfl, ⟨xs, SqT.of e1⟩, fun D hD => ?_⟩
        refine lc_bools (walk_tup (K := K) (xs := xs) (a := a)) (fun i => ∃ x, (xs)[i]? = some x ∧ IsOutput H0 x) hD (by omega) (fun H s => SqT.of (s _ _ e1)) ?_ ?_
        · rintro i x H3 H' kk hi s3 ⟨rfl, hx⟩ h
          exact ⟨rfl, _, rfl, x, B, H0, m, j, rfl, sb.same s3, hm, hk x (List.mem_of_getElem? hx), fun H4 b s4 hb => h b H4 s4 (at_one hx hb)⟩
        · rintro H3 bs s3 hD3 hb
          rw [all_at] at hb
          exact ⟨D, bs, rfl, SqL.of hD3, k _ _ s3 (hb.trans ⟨fun q => ⟨a, xs, rfl, e0, xs, .inl rfl, q⟩, un fun ys hy q => hy.elim (fun e => e ▸ q) fun e => (wh ys e).elim⟩)⟩
    · exact ⟨_, rfl, _, i1, _, rfl, iteT (k _ _ (Same.refl _) (nay fun ⟨b, ks, eb, h, _⟩ => no _ _ eb h))⟩
end
end Wd

set_option Elab.async false
set_option linter.all false
set_option maxRecDepth 100000
set_option maxHeartbeats 4000000
namespace Wd
open PySem L2
/-- [x for .. if not P x]: it is empty where all have P -/
theorem lc_lack {J : It} {n : Nat} {G : Hp → Prop} {Y : Nat → Hp → V → Hp → Prop} (w : Walk J n G Y) (Pi : Nat → Prop) {g : TG} {tt : TT} {te : TE} {vs : List Nat} {σ : St} {H1 : Hp} {D : Addr} {Qd : Hp → Prop} (hD : H1 D = none) (hn : n ≤ 1000)
    (hG : ∀ H, Same H1 H → G H)
    (hs : ∀ i x H H' (k : V → Hp → Prop) (kF : Hp → Prop), i < n → Same H1 H → Y i H x H' → (∀ H3, Same H H3 → ¬ Pi i → k x H3) → (∀ H3, Same H H3 → Pi i → kF H3) → g x (wipe σ vs) H' fun σ2 H2 => wipe σ2 vs = wipe σ vs ∧ tt σ2 H2 fun b H3 => if b = true then te σ2 H3 k else kF H3)
    (hd : ∀ H (zs : List V), Same H1 H → H D = some (.lst zs) → zs.length ≤ n → (zs = [] ↔ ∀ i, i < n → Pi i) → Qd H) :
    ∃ W : Nat → Nat → Hp → Prop, (∃ m, W 0 m (upd H1 D (.lst []))) ∧ ∀ i m H, W i m H →
      (J.stop i H ∧ Qd H) ∨ (J.go i H ∧ ∃ Nx : Hp → Prop, (∀ H', Nx H' → ∃ m', m' < m ∧ W (i + 1) m' H') ∧ ∀ x H', J.yld i H x H' → g x (wipe σ vs) H' fun σ2 H2 => wipe σ2 vs = wipe σ vs ∧ tt σ2 H2 fun b H3 =>
        if b = true then te σ2 H3 fun y H4 => ∃ acc, H4 D = some (.lst acc) ∧ acc.length < sizeLine ∧ Nx (upd H4 D (.lst (acc ++ [y]))) else Nx H3) := by
  refine lc_it w (fun i H => Same H1 H ∧ ∃ zs : List V, zs.length ≤ i ∧ (zs = [] ↔ ∀ j, j < i → Pi j) ∧ H D = some (.lst zs)) ⟨fun b o e => by rw [upd_ne (ne_of_none e hD)]; exact e, [], Nat.le_refl _, by simp, upd_same⟩
    (fun i H _ ⟨s, _⟩ => hG H s) ?_ (fun H ⟨s, zs, l, e, d⟩ => hd H zs s d l e)
  rintro i x H H' hi ⟨s, zs, l, e, d⟩ y
  refine hs i x H H' _ _ hi s y ?_ ?_
  · intro H4 s4 hb
    refine ⟨zs, s4 _ _ d, small1000 (by omega), fun c o q => ?_, zs ++ [x], by simp; omega, ?_, upd_same⟩
    · rw [upd_ne (ne_of_none q hD)]
      exact s4 _ _ (s _ _ q)
    · constructor
      · intro h
        simp at h
      · exact fun h => (hb (h i (by omega))).elim
  · intro H4 s4 hb
    refine ⟨s.trans s4, zs, by omega, e.trans ⟨fun h j hj => ?_, fun h j hj => h j (by omega)⟩, s4 _ _ d⟩
    by_cases q : j = i
    · exact q ▸ hb
    · exact h j (by omega)
theorem inV_words (z : Str) (ws : List Str) : inV (.str z) (ws.map V.str) = true ↔ z ∈ ws := by
  unfold inV
  rw [List.any_eq_true]
  constructor
  · rintro ⟨y, hy, q⟩
    obtain ⟨x, hx, rfl⟩ := List.mem_map.mp hy
    have : (x == z) = true := q
    exact (beq_iff_eq.mp this) ▸ hx
  · exact fun h => ⟨_, List.mem_map.mpr ⟨z, h, rfl⟩, show (z == z) = true from beq_self_eq_true z⟩
theorem flat_strs (ys : List Str) : (ys.map V.str).all flatV = true := by
  rw [List.all_eq_true]
  intro v hv
  obtain ⟨y, _, rfl⟩ := List.mem_map.mp hv
  rfl
def spWords : Sp := fun vs H Q _ => vs = [] ∧ ∀ H' (L : Addr), Same H H' → H L = none → H' L = some (.lst (words.map V.str)) → Q (.ref L) H'
structure LTxt (mg : Str → Option Value) (fW fLI fLL fLN fLO : Addr) : Prop where
  abs : mg "abs" = none
  wrds : mg "_law_words" = some (.ref fW)
  li : mg "_law_is_integer" = some (.ref fLI)
  ll : mg "_law_is_letter" = some (.ref fLL)
  ln : mg "_law_is_name" = some (.ref fLN)
  lo : mg "_law_is_output" = some (.ref fLO)
theorem le_sign {c d : Nat} : (!decide ((⟨#[d]⟩ : Str).cps.toList < (⟨#[c]⟩ : Str).cps.toList)) = true ↔ c ≤ d := by
  rw [Bool.not_eq_true', ← Bool.not_eq_true, sign_lt]
  omega
section
variable {P : Program} {w : World} {K : PySem.W.Frag} {mg : Str → Option Value} {base : Heap} {T : List Addr → Hp → Addr → Prop} {fI fL fW fLI fLL fLN fLO : Addr}
theorem scWords : FnScope ["words"] [] (defScope sWords) := ⟨rfl, rfl, rfl, by decide +kernel, rfl, by decide +kernel, by decide +kernel⟩
theorem ok_words {f : Addr} {fd : FuncData} (F : Fun K "_law_words" "_law_words" sWords f fd) : FnOk P w K mg base CX0 1 f fd [] spWords := by
  refine F.ok scWords (fun vs H Q E h => ?_) (fun cdv A outer s H vs Q E hr h => ?_)
  · obtain ⟨rfl, _⟩ := h
    rfl
  · obtain ⟨rfl, k⟩ := h
    refine ⟨_, pss_cons (ps_set (i := 0) scWords.nd rfl (Or.inl rfl) (pe_lst (pa_cons pe_str (pa_cons pe_str (pa_cons pe_str (pa_cons pe_str (pa_cons pe_str (pa_cons pe_str (pa_cons pe_str (pa_cons pe_str (pa_cons pe_str (pa_cons pe_str (pa_cons pe_str (pa_cons pe_str (pa_cons pe_str pa_nil))))))))))))))) (pss_one (ps_ret (pe_op op_cat (pv 0) (pe_lst (pa_cons pe_str (pa_cons pe_str (pa_cons pe_str (pa_cons pe_str (pa_cons pe_str (pa_cons pe_str (pa_cons pe_str (pa_cons pe_str (pa_cons pe_str (pa_cons pe_str pa_nil)))))))))))))), ?_⟩
    refine ⟨by show 13 ≤ sizeLine; decide, fun l hl => ?_⟩
    refine ⟨_, rfl, by show 10 ≤ sizeLine; decide, fun m hm => ?_⟩
    have hlm : l ≠ m := fun e => by
      rw [e] at hm
      rw [← e, upd_same] at hm
      cases hm
    refine ⟨l, m, _, _, rfl, rfl, (upd_ne hlm).trans upd_same, upd_same, ?_, fun p hp => ?_⟩
    · show 13 + 10 ≤ sizeLine
      decide
    · have hm' : H m = none := by
        rw [upd_ne (Ne.symm hlm)] at hm
        exact hm
      have hpl : p ≠ l := fun z => by
        rw [z, upd_ne hlm, upd_same] at hp
        cases hp
      have hpm : p ≠ m := fun z => by
        rw [z, upd_same] at hp
        cases hp
      have hp' : H p = none := by
        rw [upd_ne hpm, upd_ne hpl] at hp
        exact hp
      refine k _ p (fun b o e => ?_) hp' (upd_same.trans rfl)
      rw [upd_ne (ne_of_none e hp'), upd_ne (ne_of_none e hm'), upd_ne (ne_of_none e hl)]
      exact e
theorem scLInt : FnScope ["value"] ["value"] (defScope sLInt) := ⟨rfl, rfl, rfl, by decide +kernel, rfl, by decide +kernel, by decide +kernel⟩
theorem ok_lint (O : Own K T) {f : Addr} {fd : FuncData} (F : Fun K "_law_is_integer" "_law_is_integer" sLInt f fd) (X : WTxt mg fI fL) (Y : LTxt mg fW fLI fLL fLN fLO) : FnOk P w K mg base CX0 1 f fd ["value"] (spIs T fun _ => IsInt) := by
  refine F.ok scLInt (fun vs H Q E h => ?_) (fun cdv A outer s H vs Q E hr h => ?_)
  · obtain ⟨v, B, H0, m, n, rfl, _⟩ := h
    rfl
  · obtain ⟨v, B, H0, m, n, rfl, sb, hm, d, k⟩ := h
    refine ⟨_, pss_one (ps_ret (pe_and (pe_isi (N := "int") (pv 0) X.isin X.int) (pe_and (pe_not (pe_isi (N := "bool") (pv 0) X.isin X.bool)) (pe_one (pe_cmpR op_lt (pe_callB call_abs (by rfl) Y.abs (by decide +kernel) (pa_cons (pv 0) pa_nil)) (pe_op op_pow pe_int pe_int) (nomark _)))))), ?_⟩
    have no : (∀ i, v ≠ .int i) → (false = true ↔ IsInt v) := fun h => nay fun ⟨i, e, _⟩ => h i e
    rcases d.isInt O sb with ⟨i, rfl, i1, i2⟩ | ⟨ni, ⟨i1, i2⟩ | i1⟩
    · refine ⟨_, rfl, _, i1, _, rfl, iteT ⟨_, rfl, _, i2, _, rfl, _, rfl, iteT ⟨_, rfl, i, rfl, _, _, rfl, rfl, ⟨by decide, by decide, by decide⟩, _, _, rfl, rfl, k _ _ (Same.refl _) ?_⟩⟩⟩
      rw [decide_eq_true_iff]
      have e : (10 : Int) ^ (60 : Int).toNat = ten60 := rfl
      rw [e]
      constructor
      · intro h
        refine ⟨i, rfl, ?_⟩
        by_cases c : i < 0
        · rw [if_pos c] at h
          omega
        · rw [if_neg c] at h
          omega
      · rintro ⟨j, ej, h1, h2⟩
        cases ej
        by_cases c : i < 0
        · rw [if_pos c]
          omega
        · rw [if_neg c]
          omega
    · exact ⟨_, rfl, _, i1, _, rfl, iteT ⟨_, rfl, _, i2, _, rfl, _, rfl, iteF (k _ _ (Same.refl _) (no ni))⟩⟩
    · exact ⟨_, rfl, _, i1, _, rfl, iteF (k _ _ (Same.refl _) (no ni))⟩
theorem scLLet : FnScope ["value"] ["value"] (defScope sLLet) := ⟨rfl, rfl, rfl, by decide +kernel, rfl, by decide +kernel, by decide +kernel⟩
theorem ok_llet (O : Own K T) {f : Addr} {fd : FuncData} (F : Fun K "_law_is_letter" "_law_is_letter" sLLet f fd) (X : WTxt mg fI fL) : FnOk P w K mg base CX0 1 f fd ["value"] (spIs T fun _ => IsLet) := by
  refine F.ok scLLet (fun vs H Q E h => ?_) (fun cdv A outer s H vs Q E hr h => ?_)
  · obtain ⟨v, B, H0, m, n, rfl, _⟩ := h
    rfl
  · obtain ⟨v, B, H0, m, n, rfl, sb, hm, d, k⟩ := h
    refine ⟨_, pss_one (ps_ret (pe_and (pe_isi (N := "str") (pv 0) X.isin X.str) (pe_and (pe_cmpR op_eq (pe_callB call_len_str (by rfl) X.len PySem.boot_len (pa_cons (pv 0) pa_nil)) pe_int (nomark _)) (pe_and (pe_cmpR op_le_str pe_str (pv 0) (nomark _)) (pe_one (pe_cmpR op_le_str (pv 0) pe_str (nomark _))))))), ?_⟩
    rcases d.isStr O sb with ⟨z, rfl, hz, i1⟩ | ⟨ni, i1⟩
    · refine ⟨_, rfl, _, i1, _, rfl, iteT ⟨_, rfl, z, rfl, Nat.le_of_lt (small1000 (by omega)), rfl, _, rfl, ?_⟩⟩
      refine ite2 (fun c => ?_) (fun c => ?_)
      · have c' : (V.int z.length) = .int 1 := of_decide_eq_true c
        injection c' with c'
        obtain ⟨a, rfl⟩ := sign_of (s := z) (by omega)
        refine ⟨_, rfl, _, _, rfl, rfl, _, rfl, ?_⟩
        have e1 : (!decide ((⟨#[a]⟩ : Str).cps.toList < (Str.ofString "a").cps.toList)) = true ↔ 97 ≤ a := le_sign (c := 97) (d := a)
        have e2 : (!decide ((Str.ofString "z").cps.toList < (⟨#[a]⟩ : Str).cps.toList)) = true ↔ a ≤ 122 := le_sign (c := a) (d := 122)
        refine ite2 (fun g => ?_) (fun g => ?_)
        · refine ⟨_, rfl, _, _, rfl, rfl, k _ _ (Same.refl _) (e2.trans ⟨fun q => isLet_sign.mpr ⟨e1.mp g, q⟩, fun q => (isLet_sign.mp q).2⟩)⟩
        · exact k _ _ (Same.refl _) (nay fun q => g (e1.mpr (isLet_sign.mp q).1))
      · refine k _ _ (Same.refl _) (nay fun ⟨a, e, _⟩ => c ?_)
        cases e
        rfl
    · refine ⟨_, rfl, _, i1, _, rfl, iteF (k _ _ (Same.refl _) (nay fun ⟨a, e, _⟩ => ni _ e))⟩
theorem scLName : FnScope ["value", "sign"] ["value"] (defScope sLName) := ⟨rfl, rfl, rfl, by decide +kernel, rfl, by decide +kernel, by decide +kernel⟩
theorem ok_lname (O : Own K T) {f : Addr} {fd fdL fdW : FuncData} (F : Fun K "_law_is_name" "_law_is_name" sLName f fd) (X : WTxt mg fI fL) (Y : LTxt mg fW fLI fLL fLN fLO) (FL : Fun K "_law_is_letter" "_law_is_letter" sLLet fLL fdL) (bL : Binds K fdL ["value"] [])
    (FW : Fun K "_law_words" "_law_words" sWords fW fdW) (bW : Binds K fdW [] []) : FnOk P w K mg base CX0 2 f fd ["value"] (spIs T fun _ => IsName) := by
  have GL : FnOk P w K mg base CX0 1 fLL fdL ["value"] (spIs T fun _ => IsLet) := ok_llet O FL X
  have GW : FnOk P w K mg base CX0 1 fW fdW [] spWords := ok_words FW
  refine F.ok scLName (fun vs H Q E h => ?_) (fun cdv A outer s H vs Q E hr h => ?_)
  · obtain ⟨v, B, H0, m, n, rfl, _⟩ := h
    rfl
  · obtain ⟨v, B, H0, m, n, rfl, sb, hm, d, k⟩ := h
    refine ⟨_, pss_cons (ps_if (PW.pt (pw_or (pt_not (pt_val (pe_isi (N := "str") (pv 0) X.isin X.str))) (pw_or (pt_cmpR op_eq (pe_callB call_len_str (by rfl) X.len PySem.boot_len (pa_cons (pv 0) pa_nil)) pe_int (nomark _))
        (pw_or (pt_cmpR op_gt (pe_callB call_len_str (by rfl) X.len PySem.boot_len (pa_cons (pv 0) pa_nil)) pe_int (nomark _)) (pw_or1 (pt_cmpR op_in_seq (pv 0) (pe_call0 GW hr rfl Y.wrds FW.kp bW .nil pass0) (by rfl))))))) (pss_one (ps_ret pe_bl)) pss_nil)
      (pss_one (ps_ret (pe_cmpR op_eq (pe_callB call_len_seq (by rfl) X.len PySem.boot_len (pa_cons (pe_lc (own := [("sign", 1)]) (g := gName 1) rfl scLName.nd (pi_str (pv 0))
          (blkOk_by (N := ["value", "sign"]) (sc := defScope sLName) (by decide +kernel)) (fun _ _ _ _ _ => pg_name (i := 1) scLName.nd rfl (Or.inl rfl))
          (fun _ _ _ _ _ => pts_one (pt_not (pt_val (pe_call GL hr rfl Y.ll FL.kp bL .nil pass0 (pa_cons (pv 1) pa_nil))))) (fun _ _ _ _ _ => pv 1)) pa_nil)) pe_int (nomark _)))), ?_⟩
    rcases d.isStr O sb with ⟨z, rfl, hz, i1⟩ | ⟨ni, i1⟩
    · have hz1 : z.length ≤ sizeLine := Nat.le_of_lt (small1000 (by omega))
      have bad : ¬ (1 ≤ z.length ∧ z.length ≤ 8 ∧ z ∉ words) → ¬ IsName (.str z) := fun h ⟨y, e, q1, q2, _, q3⟩ => by
        cases e
        exact h ⟨q1, q2, q3⟩
      refine ⟨_, rfl, _, i1, _, rfl, iteF ⟨_, rfl, z, rfl, hz1, rfl, _, rfl, ?_⟩⟩
      refine ite2 (fun c => ?_) (fun c => ?_)
      · have c' : (V.int z.length) = .int 0 := of_decide_eq_true c
        injection c' with c'
        exact k _ _ (Same.refl _) (nay (bad fun q => by omega))
      refine ⟨_, rfl, z, rfl, hz1, _, _, rfl, rfl, _, rfl, ?_⟩
      refine ite2 (fun c2 => ?_) (fun c2 => ?_)
      · have := of_decide_eq_true c2
        exact k _ _ (Same.refl _) (nay (bad fun q => by omega))
      have h0 : z.length ≠ 0 := fun q => c (by rw [q]; rfl)
      have h8 : ¬ (8 : Int) < z.length := fun q => c2 (decide_eq_true q)
      refine ⟨_, rfl, rfl, fun H1 L s1 nL hL => ⟨L, _, rfl, .inl (SqL.of hL), rfl, flat_strs _, _, rfl, ?_⟩⟩
      refine ite2 (fun c3 => ?_) (fun c3 => ?_)
      · exact k _ _ s1 (nay (bad fun q => q.2.2 ((inV_words _ _).mp c3)))
      have nw : z ∉ words := fun q => c3 ((inV_words _ _).mpr q)
      refine ⟨_, rfl, _, rfl, fun D hD => ?_⟩
      refine lc_lack (walk_str (z := z)) (fun i => ∃ c, z.cps[i]? = some c ∧ low c) hD (by show z.length ≤ 1000; omega) (fun _ _ => trivial) ?_ ?_
      · rintro i x H2 H' kk kF hi s2 ⟨rfl, c, hc, rfl⟩ h1 h2
        refine ⟨rfl, _, rfl, _, B, H0, 1000, 1, rfl, (sb.same s1).same s2, Nat.le_refl _, .str _ (by show 1 ≤ 1000; decide) (ok_sign d.okS hc), fun H4 b s4 hb => ⟨_, rfl, ?_⟩⟩
        have hb' : b = true ↔ ∃ c, z.cps[i]? = some c ∧ low c := ⟨fun q => ⟨c, hc, isLet_sign.mp (hb.mp q)⟩, fun ⟨y, e, q⟩ => hb.mpr (isLet_sign.mpr (by rw [hc] at e; exact Option.some.inj e ▸ q))⟩
        cases b with
        | true => exact iteF (h2 _ s4 (hb'.mp rfl))
        | false => exact iteT ⟨_, rfl, h1 _ s4 fun q => Bool.noConfusion (hb'.mpr q)⟩
      · rintro H2 zs s2 hD2 lz hb
        rw [cps_at] at hb
        refine ⟨D, zs, rfl, .inl (SqL.of hD2), rfl, k _ _ (s1.trans s2) ?_⟩
        rw [decide_eq_true_iff]
        constructor
        · intro q
          have q0 : zs = [] := by
            injection q with q
            exact List.length_eq_zero_iff.mp (by omega)
          exact ⟨z, rfl, by omega, by omega, hb.mp q0, nw⟩
        · rintro ⟨y, e, _, _, q, _⟩
          cases e
          rw [hb.mpr q]
          rfl
    · exact ⟨_, rfl, _, i1, _, rfl, iteT (k _ _ (Same.refl _) (nay fun ⟨a, e, _⟩ => ni _ e))⟩
end
end Wd

set_option Elab.async false
set_option linter.all false
set_option maxRecDepth 100000
set_option maxHeartbeats 4000000
namespace Wd
open PySem L2
/-- at each place an output, or the end at the last one -/
def Lst1 (H : Hp) (xs : List V) (i : Nat) : Prop := ∃ x, xs[i]? = some x ∧ ((x = vEnd ∧ i + 1 = xs.length) ∨ IsOutput H x)
theorem isList_iff {H : Hp} {a : Addr} {xs : List V} (e : H a = some (.tup xs)) : IsList H (.ref a) ↔ ∀ i, i < xs.length → Lst1 H xs i := by
  constructor
  · rintro ⟨b, zs, eb, h, ys, q1, q2⟩ i hi
    cases eb
    obtain rfl : xs = zs := tup_same e h
    rcases q1 with rfl | rfl
    · exact ⟨_, List.getElem?_eq_getElem hi, .inr (q2 _ (List.getElem_mem hi))⟩
    · by_cases c : i < ys.length
      · exact ⟨ys[i], by rw [List.getElem?_append_left c, List.getElem?_eq_getElem c], .inr (q2 _ (List.getElem_mem c))⟩
      · have : i = ys.length := by
          rw [List.length_append] at hi
          simp at hi
          omega
        subst this
        exact ⟨vEnd, by simp, .inl ⟨rfl, by simp⟩⟩
  · intro h
    by_cases c : xs = []
    · exact ⟨a, xs, rfl, e, xs, .inl rfl, fun y hy => by rw [c] at hy; cases hy⟩
    · obtain ⟨ws, y, ew⟩ : ∃ ws y, xs = ws ++ [y] := ⟨xs.dropLast, xs.getLast c, (List.dropLast_concat_getLast _).symm⟩
      have lw : xs.length = ws.length + 1 := by rw [ew]; simp
      have low' : ∀ x ∈ ws, IsOutput H x := fun x hx => by
        obtain ⟨i, hi, rfl⟩ := List.getElem_of_mem hx
        obtain ⟨z, hz, q⟩ := h i (by omega)
        rw [ew, List.getElem?_append_left hi, List.getElem?_eq_getElem hi] at hz
        cases hz
        exact q.elim (fun q => by omega) id
      obtain ⟨z, hz, q⟩ := h ws.length (by omega)
      have ez : z = y := by
        rw [ew] at hz
        simpa using hz.symm
      subst ez
      rcases q with ⟨q, _⟩ | q
      · exact ⟨a, xs, rfl, e, ws, .inr (q ▸ ew), low'⟩
      · refine ⟨a, xs, rfl, e, xs, .inl rfl, fun x hx => ?_⟩
        rw [ew] at hx
        rcases List.mem_append.mp hx with hx | hx
        · exact low' x hx
        · rw [List.mem_singleton.mp hx]
          exact q
section
variable {P : Program} {w : World} {K : PySem.W.Frag} {mg : Str → Option Value} {base : Heap} {T : List Addr → Hp → Addr → Prop} {fI fL fW fLI fLL fLN fLO : Addr}
theorem scLEvent : FnScope ["value"] ["value"] (defScope sLEvent) := ⟨rfl, rfl, rfl, by decide +kernel, rfl, by decide +kernel, by decide +kernel⟩
theorem ok_levent (O : Own K T) {f : Addr} {fd fdL fdW fdN fdI : FuncData} (F : Fun K "_law_is_event" "_law_is_event" sLEvent f fd) (X : WTxt mg fI fL) (Y : LTxt mg fW fLI fLL fLN fLO) (FL : Fun K "_law_is_letter" "_law_is_letter" sLLet fLL fdL) (bL : Binds K fdL ["value"] [])
    (FI : Fun K "_law_is_integer" "_law_is_integer" sLInt fLI fdI) (bI : Binds K fdI ["value"] []) (FN : Fun K "_law_is_name" "_law_is_name" sLName fLN fdN) (bN : Binds K fdN ["value"] []) (FW : Fun K "_law_words" "_law_words" sWords fW fdW) (bW : Binds K fdW [] []) :
    FnOk P w K mg base CX0 3 f fd ["value"] (spIs T IsEvent) := by
  have GL : FnOk P w K mg base CX0 1 fLL fdL ["value"] (spIs T fun _ => IsLet) := ok_llet O FL X
  have GI : FnOk P w K mg base CX0 1 fLI fdI ["value"] (spIs T fun _ => IsInt) := ok_lint O FI X Y
  have GN : FnOk P w K mg base CX0 2 fLN fdN ["value"] (spIs T fun _ => IsName) := ok_lname O FN X Y FL bL FW bW
  refine F.ok scLEvent (fun vs H Q E h => ?_) (fun cdv A outer s H vs Q E hr h => ?_)
  · obtain ⟨v, B, H0, m, n, rfl, _⟩ := h
    rfl
  · obtain ⟨v, B, H0, m, n, rfl, sb, hm, d, k⟩ := h
    have hr1 : Room 1 _ := hr.mono (by decide)
    refine ⟨_, pss_cons (ps_if (PW.pt (pw_or (pt_not (pt_val (pe_isi (N := "tuple") (pv 0) X.isin X.tup))) (pw_or (pt_cmpR op_ne (pe_callB call_len_seq (by rfl) X.len PySem.boot_len (pa_cons (pv 0) pa_nil)) pe_int (nomark _))
        (pw_or (pt_not (pt_val (pe_call GI hr1 rfl Y.li FI.kp bI .nil pass0 (pa_cons (pe_ix ix_tup (pv 0) pe_int (fun _ _ => rfl)) pa_nil)))) (pw_or1 (pt_cmpR op_lt (pe_ix ix_tup (pv 0) pe_int (fun _ _ => rfl)) pe_int (nomark _))))))) (pss_one (ps_ret pe_bl)) pss_nil)
      (pss_one (ps_ret (pe_and (pe_call GN hr rfl Y.ln FN.kp bN .nil pass0 (pa_cons (pe_ix ix_tup (pv 0) pe_int (fun _ _ => rfl)) pa_nil)) (pe_and (pe_call GL hr1 rfl Y.ll FL.kp bL .nil pass0 (pa_cons (pe_ix ix_tup (pv 0) pe_int (fun _ _ => rfl)) pa_nil))
        (pe_one (pe_call GI hr1 rfl Y.li FI.kp bI .nil pass0 (pa_cons (pe_ix ix_tup (pv 0) pe_int (fun _ _ => rfl)) pa_nil))))))), ?_⟩
    rcases d.isTup O sb with ⟨a, xs, j, rfl, na, e0, e1, hl, hk, i1⟩ | ⟨no, i1⟩
    · refine ⟨_, rfl, _, i1, _, rfl, iteF ⟨_, rfl, a, xs, rfl, .inr (SqT.of e1), rfl, _, rfl, ?_⟩⟩
      refine ite2 (fun c => ?_) (fun c => ?_)
      · refine k _ _ (Same.refl _) (nay fun ⟨b, t, u, l, w', eb, h, _⟩ => ?_)
        cases eb
        obtain rfl := tup_same e0 h
        simp at c
      · have c' : xs.length = 4 := by
          have c2 : (V.int xs.length) = .int 4 := by simpa using c
          injection c2 with c2
          omega
        obtain ⟨t, u, l, y, rfl⟩ : ∃ t u l y, xs = [t, u, l, y] := by
          match xs, c' with
          | [t, u, l, y], _ => exact ⟨t, u, l, y, rfl⟩
        have un : ∀ {p : Prop}, (∀ t' u' l' y', [t, u, l, y] = [t', u', l', y'] → (∃ i, t' = V.int i ∧ 0 ≤ i ∧ i < ten60) → IsName u' → IsLet l' → IsInt y' → p) → IsEvent H0 (.ref a) → p := fun {p} g ⟨b, t', u', l', y', eb, h, q1, q2, q3, q4⟩ => by
          cases eb
          exact g t' u' l' y' (tup_same e0 h) q1 q2 q3 q4
        refine ⟨_, rfl, a, _, _, t, rfl, rfl, SqT.of e1, atI_nat (j := 0) rfl, t, B, H0, m, j, rfl, sb, hm, hk t (by simp), fun H1 b1 s1 hb1 => ⟨b1, rfl, ?_⟩⟩
        have f1 := s1 _ _ e1
        cases b1 with
        | false =>
          refine iteT (k _ _ s1 (nay (un fun t' u' l' y' e ⟨i, ei, i0, i1⟩ _ _ _ => ?_)))
          cases e
          exact Bool.noConfusion (hb1.mpr ⟨i, ei, by omega, i1⟩)
        | true =>
          obtain ⟨i, rfl, i0, i9⟩ := hb1.mp rfl
          refine iteF ⟨_, rfl, a, _, _, _, rfl, rfl, SqT.of f1, atI_nat (j := 0) rfl, _, _, rfl, rfl, _, rfl, ?_⟩
          refine ite2 (fun g => ?_) (fun g => ?_)
          · have g' : i < 0 := of_decide_eq_true g
            refine k _ _ s1 (nay (un fun t' u' l' y' e ⟨i', ei, i0', _⟩ _ _ _ => ?_))
            cases e
            cases ei
            omega
          · have g' : 0 ≤ i := by
              simp at g
              exact g
            refine ⟨_, rfl, a, _, _, u, rfl, rfl, SqT.of f1, atI_nat (j := 1) rfl, u, B, H0, m, j, rfl, sb.same s1, hm, hk u (by simp), fun H2 b2 s2 hb2 => ⟨b2, rfl, ?_⟩⟩
            have f2 := s2 _ _ f1
            cases b2 with
            | false =>
              refine iteF (k _ _ (s1.trans s2) (nay (un fun t' u' l' y' e _ q _ _ => ?_)))
              cases e
              exact Bool.noConfusion (hb2.mpr q)
            | true =>
              refine iteT ⟨_, rfl, a, _, _, l, rfl, rfl, SqT.of f2, atI_nat (j := 2) rfl, l, B, H0, m, j, rfl, (sb.same s1).same s2, hm, hk l (by simp), fun H3 b3 s3 hb3 => ⟨b3, rfl, ?_⟩⟩
              have f3 := s3 _ _ f2
              cases b3 with
              | false =>
                refine iteF (k _ _ ((s1.trans s2).trans s3) (nay (un fun t' u' l' y' e _ _ q _ => ?_)))
                cases e
                exact Bool.noConfusion (hb3.mpr q)
              | true =>
                refine iteT ⟨_, rfl, a, _, _, y, rfl, rfl, SqT.of f3, atI_nat (j := 3) rfl, y, B, H0, m, j, rfl, ((sb.same s1).same s2).same s3, hm, hk y (by simp), fun H4 b4 s4 hb4 => k _ _ (((s1.trans s2).trans s3).trans s4) (hb4.trans
                  ⟨fun q => ⟨a, _, u, l, y, rfl, e0, ⟨i, rfl, g', i9⟩, hb2.mp rfl, hb3.mp rfl, q⟩, un fun t' u' l' y' e _ _ _ q => ?_⟩)⟩
                cases e
                exact q
    · exact ⟨_, rfl, _, i1, _, rfl, iteT (k _ _ (Same.refl _) (nay fun ⟨b, t, u, l, y, eb, h, _⟩ => no _ _ eb h))⟩
theorem scLOutput : FnScope ["value", "one"] ["value"] (defScope sLOutput) := ⟨rfl, rfl, rfl, by decide +kernel, rfl, by decide +kernel, by decide +kernel⟩
theorem ok_loutput (O : Own K T) {f : Addr} {fd fdL fdI : FuncData} (F : Fun K "_law_is_output" "_law_is_output" sLOutput f fd) (X : WTxt mg fI fL) (Y : LTxt mg fW fLI fLL fLN fLO) (FL : Fun K "_law_is_letter" "_law_is_letter" sLLet fLL fdL) (bL : Binds K fdL ["value"] [])
    (FI : Fun K "_law_is_integer" "_law_is_integer" sLInt fLI fdI) (bI : Binds K fdI ["value"] []) : FnOk P w K mg base CX0 2 f fd ["value"] (spIs T IsOutput) := by
  have GL : FnOk P w K mg base CX0 1 fLL fdL ["value"] (spIs T fun _ => IsLet) := ok_llet O FL X
  have GI : FnOk P w K mg base CX0 1 fLI fdI ["value"] (spIs T fun _ => IsInt) := ok_lint O FI X Y
  refine F.ok scLOutput (fun vs H Q E h => ?_) (fun cdv A outer s H vs Q E hr h => ?_)
  · obtain ⟨v, B, H0, m, n, rfl, _⟩ := h
    rfl
  · obtain ⟨v, B, H0, m, n, rfl, sb, hm, d, k⟩ := h
    refine ⟨_, pss_cons (ps_if (PW.pt (pw_or (pt_not (pt_val (pe_isi (N := "tuple") (pv 0) X.isin X.tup))) (pw_or (pt_cmpR op_ne (pe_callB call_len_seq (by rfl) X.len PySem.boot_len (pa_cons (pv 0) pa_nil)) pe_int (nomark _))
        (pw_or (pt_not (pt_val (pe_isi (N := "tuple") (pe_ix ix_tup (pv 0) pe_int (fun _ _ => rfl)) X.isin X.tup))) (pw_or1 (pt_cmpR op_gt (pe_callB call_len_seq (by rfl) X.len PySem.boot_len (pa_cons (pe_ix ix_tup (pv 0) pe_int (fun _ _ => rfl)) pa_nil)) pe_int (nomark _))))))) (pss_one (ps_ret pe_bl)) pss_nil)
      (pss_one (ps_ret (pe_and (pe_call GL hr rfl Y.ll FL.kp bL .nil pass0 (pa_cons (pe_ix ix_tup (pv 0) pe_int (fun _ _ => rfl)) pa_nil)) (pe_one (pe_callB (cr_all rfl) (by rfl) X.all (by decide +kernel) (pa_cons (pe_lc (own := [("one", 1)]) (g := gName 1) (tt := tYes) rfl scLOutput.nd
          (pi_tup (pe_ix ix_tup (pv 0) pe_int (fun _ _ => rfl))) (blkOk_by (N := ["value", "one"]) (sc := defScope sLOutput) (by decide +kernel)) (fun _ _ _ _ _ => pg_name (i := 1) scLOutput.nd rfl (Or.inl rfl)) (fun _ _ _ _ _ => pts_nil)
          (fun _ _ _ _ _ => pe_call GI hr rfl Y.li FI.kp bI .nil pass0 (pa_cons (pv 1) pa_nil))) pa_nil)))))), ?_⟩
    rcases d.isTup O sb with ⟨a, xs, j, rfl, na, e0, e1, hl, hk, i1⟩ | ⟨no, i1⟩
    · refine ⟨_, rfl, _, i1, _, rfl, iteF ⟨_, rfl, a, xs, rfl, .inr (SqT.of e1), rfl, _, rfl, ?_⟩⟩
      refine ite2 (fun c => ?_) (fun c => ?_)
      · refine k _ _ (Same.refl _) (nay fun ⟨b, l, u, eb, h, _⟩ => ?_)
        cases eb
        obtain rfl := tup_same e0 h
        simp at c
      · have c' : xs.length = 2 := by
          have c2 : (V.int xs.length) = .int 2 := by simpa using c
          injection c2 with c2
          omega
        obtain ⟨l, u, rfl⟩ : ∃ l u, xs = [l, u] := by
          match xs, c' with
          | [l, u], _ => exact ⟨l, u, rfl⟩
        have un : ∀ {p : Prop}, (∀ l' u', [l, u] = [l', u'] → IsLet l' → IsVals H0 u' → p) → IsOutput H0 (.ref a) → p := fun {p} g ⟨b, l', u', eb, h, q1, q2⟩ => by
          cases eb
          exact g l' u' (tup_same e0 h) q1 q2
        refine ⟨_, rfl, a, _, _, u, rfl, rfl, SqT.of e1, atI_nat (j := 1) rfl, ?_⟩
        rcases (hk u (by simp)).isTup O sb with ⟨a2, ys, j2, rfl, na2, e02, e12, hl2, hk2, i2⟩ | ⟨no2, i2⟩
        · refine ⟨_, i2, _, rfl, iteF ⟨_, rfl, a, _, _, _, rfl, rfl, SqT.of e1, atI_nat (j := 1) rfl, a2, ys, rfl, .inr (SqT.of e12), _, _, rfl, rfl, _, rfl, ?_⟩⟩
          refine ite2 (fun g => ?_) (fun g => ?_)
          · refine k _ _ (Same.refl _) (nay (un fun l' u' e _ ⟨b, zs, eb, h, q, _⟩ => ?_))
            cases e
            cases eb
            obtain rfl : ys = zs := tup_same e02 h
            have := of_decide_eq_true g
            omega
          · have g' : ys.length ≤ 4 := by
              simp at g
              omega
            refine ⟨_, rfl, a, _, _, l, rfl, rfl, SqT.of e1, atI_nat (j := 0) rfl, l, B, H0, m, j, rfl, sb, hm, hk l (by simp), fun H1 b1 s1 hb1 => ⟨b1, rfl, ?_⟩⟩
            cases b1 with
            | false =>
              refine iteF (k _ _ s1 (nay (un fun l' u' e q _ => ?_)))
              cases e
              exact Bool.noConfusion (hb1.mpr q)
            | true =>
              have f1 := s1 _ _ e1
              have f2 := s1 _ _ e12
              refine iteT ⟨_, rfl, a, _, _, _, rfl, rfl, SqT.of f1, atI_nat (j := 1) rfl, a2, rfl, ⟨ys, SqT.of f2⟩, fun D hD => ?_⟩
              refine lc_bools (walk_tup (K := K) (xs := ys) (a := a2)) (fun i => ∃ x, ys[i]? = some x ∧ IsInt x) hD (by omega) (fun H s => SqT.of (s _ _ f2)) ?_ ?_
              · rintro i x H3 H' kk hi s3 ⟨rfl, hx⟩ h
                exact ⟨rfl, _, rfl, x, B, H0, m, j2, rfl, (sb.same s1).same s3, hm, hk2 x (List.mem_of_getElem? hx), fun H4 b s4 hb => h b H4 s4 (at_one hx hb)⟩
              · rintro H3 bs s3 hD3 hb
                rw [all_at] at hb
                refine ⟨D, bs, rfl, SqL.of hD3, k _ _ (s1.trans s3) (hb.trans ⟨fun q => ⟨a, l, .ref a2, rfl, e0, hb1.mp rfl, a2, ys, rfl, e02, g', q⟩, un fun l' u' e _ ⟨b, zs, eb, h, _, q⟩ => ?_⟩)⟩
                cases e
                cases eb
                obtain rfl : ys = zs := tup_same e02 h
                exact q
        · refine ⟨_, i2, _, rfl, iteT (k _ _ (Same.refl _) (nay (un fun l' u' e _ ⟨b, zs, eb, h, _⟩ => ?_)))⟩
          cases e
          exact no2 _ _ eb h
    · exact ⟨_, rfl, _, i1, _, rfl, iteT (k _ _ (Same.refl _) (nay fun ⟨b, l, u, eb, h, _⟩ => no _ _ eb h))⟩
theorem scLList : FnScope ["value", "k", "ends"] ["value"] (defScope sLList) := ⟨rfl, rfl, rfl, by decide +kernel, rfl, by decide +kernel, by decide +kernel⟩
theorem ok_llist (O : Own K T) {f : Addr} {fd fdL fdI fdO : FuncData} (F : Fun K "_law_is_list" "_law_is_list" sLList f fd) (X : WTxt mg fI fL) (Y : LTxt mg fW fLI fLL fLN fLO) (FL : Fun K "_law_is_letter" "_law_is_letter" sLLet fLL fdL) (bL : Binds K fdL ["value"] [])
    (FI : Fun K "_law_is_integer" "_law_is_integer" sLInt fLI fdI) (bI : Binds K fdI ["value"] []) (FO : Fun K "_law_is_output" "_law_is_output" sLOutput fLO fdO) (bO : Binds K fdO ["value"] []) : FnOk P w K mg base CX0 3 f fd ["value"] (spIs T IsList) := by
  have GO : FnOk P w K mg base CX0 2 fLO fdO ["value"] (spIs T IsOutput) := ok_loutput O FO X Y FL bL FI bI
  refine F.ok scLList (fun vs H Q E h => ?_) (fun cdv A outer s H vs Q E hr h => ?_)
  · obtain ⟨v, B, H0, m, n, rfl, _⟩ := h
    rfl
  · obtain ⟨v, B, H0, m, n, rfl, sb, hm, d, k⟩ := h
    refine ⟨_, pss_cons (ps_if (pt_not (pt_val (pe_isi (N := "tuple") (pv 0) X.isin X.tup))) (pss_one (ps_ret pe_bl)) pss_nil)
      (pss_cons (ps_for PassesOwn.never rfl (pi_range1 rfl X.range (pa_cons (pe_callB call_len_seq (by rfl) X.len PySem.boot_len (pa_cons (pv 0) pa_nil)) pa_nil)) (pg_name (i := 1) scLList.nd rfl (Or.inl rfl))
        (pss_cons (ps_set (i := 2) scLList.nd rfl (Or.inl rfl) (pe_and (pe_isi (N := "str") (pe_ix ix_tup (pv 0) (pv 1) (fun _ _ => rfl)) X.isin X.str) (pe_and (pe_cmpR op_eq (pe_ix ix_tup (pv 0) (pv 1) (fun _ _ => rfl)) pe_str (nomark _))
            (pe_one (pe_cmpR op_eq (pv 1) (pe_op op_sub (pe_callB call_len_seq (by rfl) X.len PySem.boot_len (pa_cons (pv 0) pa_nil)) pe_int) (nomark _))))))
        (pss_one (ps_if (PW.pt (pw_and (pt_not (pt_val (pv 2))) (pw_and1 (pt_not (pt_val (pe_call GO hr rfl Y.lo FO.kp bO .nil pass0 (pa_cons (pe_ix ix_tup (pv 0) (pv 1) (fun _ _ => rfl)) pa_nil))))))) (pss_one (ps_ret pe_bl)) pss_nil))))
      (pss_one (ps_ret pe_bl))), ?_⟩
    rcases d.isTup O sb with ⟨a, xs, j, rfl, na, e0, e1, hl, hk, i1⟩ | ⟨no, i1⟩
    · refine ⟨_, rfl, _, i1, _, rfl, iteF ⟨_, rfl, a, xs, rfl, .inr (SqT.of e1), _, rfl, by omega, by omega, ?_⟩⟩
      rw [show ((xs.length : Int)).toNat = xs.length from Int.toNat_natCast _]
      refine for_range (lo := 0) (n := xs.length) (fun i σ H' => Same H H' ∧ (∀ t, t < i → Lst1 H0 xs t) ∧ ∃ v1 v2, σ = [some (.ref a), v1, v2]) ⟨Same.refl _, fun t ht => absurd ht (Nat.not_lt_zero _), _, _, rfl⟩ ?_ ?_
      · rintro i σ H1 hi ⟨s1, lo, v1, v2, rfl⟩
        have f1 := s1 _ _ e1
        have gi : xs[i]? = some xs[i] := List.getElem?_eq_getElem hi
        have gi' : atI xs (0 + (i : Int)) = some xs[i] := at_nn (by omega) (by rw [show (0 + (i : Int)).toNat = i by omega]; exact gi)
        have dx := hk xs[i] (List.getElem_mem hi)
        have next : ∀ {H9 : Hp} {v1' v2' : Option V}, Same H H9 → Lst1 H0 xs i → Same H H9 ∧ (∀ t, t < i + 1 → Lst1 H0 xs t) ∧ ∃ v1 v2, [some (V.ref a), v1', v2'] = [some (.ref a), v1, v2] := fun s q => ⟨s, fun t ht => by
          by_cases c : t = i
          · exact c ▸ q
          · exact lo t (by omega), _, _, rfl⟩
        have back : ∀ {H9 : Hp}, Same H H9 → ¬ Lst1 H0 xs i → Q (.bl false) H9 := fun s q => k _ _ s (nay fun h => q ((isList_iff e0).mp h i hi))
        -- not the end
        have rest : ∀ {H9 : Hp}, Same H H9 → ¬ (xs[i] = vEnd ∧ i + 1 = xs.length) → ∀ (b : Bool), (b = true ↔ IsOutput H0 xs[i]) → (b = true ↔ Lst1 H0 xs i) := fun s q b hb => hb.trans ⟨fun z => ⟨_, gi, .inr z⟩, fun ⟨x, hx, z⟩ => by
          rw [gi] at hx
          cases hx
          exact z.elim (fun z => (q z).elim) id⟩
        refine ⟨_, rfl, _, rfl, a, _, _, _, rfl, rfl, SqT.of f1, gi', ?_⟩
        rcases dx.isStr O (sb.same s1) with ⟨z, ez, hz, i2⟩ | ⟨ns, i2⟩
        · have gz : atI xs (0 + (i : Int)) = some (.str z) := by rw [gi', ez]
          refine ⟨_, i2, _, rfl, iteT ⟨_, rfl, _, rfl, a, _, _, .str z, rfl, rfl, SqT.of f1, gz, rfl, _, rfl, ?_⟩⟩
          refine ite2 (fun c => ?_) (fun c => ?_)
          · have c1 : V.str z = vEnd := of_decide_eq_true c
            refine ⟨_, rfl, _, rfl, a, xs, rfl, .inr (SqT.of f1), _, _, rfl, rfl, rfl, ?_⟩
            by_cases e : i + 1 = xs.length
            · rw [show decide (V.int (0 + (i : Int)) = V.int ((xs.length : Int) - 1)) = true from decide_eq_true (by rw [show (0 + (i : Int)) = (xs.length : Int) - 1 by omega])]
              exact ⟨_, rfl, _, rfl, iteF (iteF (next s1 ⟨_, gi, .inl ⟨ez.trans c1, e⟩⟩))⟩
            · rw [show decide (V.int (0 + (i : Int)) = V.int ((xs.length : Int) - 1)) = false from decide_eq_false fun q => by
                injection q with q
                omega]
              have nq : ¬ (xs[i] = vEnd ∧ i + 1 = xs.length) := fun q => e q.2
              refine ⟨_, rfl, _, rfl, iteT ⟨_, rfl, _, rfl, a, _, _, _, rfl, rfl, SqT.of f1, gi', xs[i], B, H0, m, j, rfl, sb.same s1, hm, dx, fun H2 b s2 hb => ⟨_, rfl, ?_⟩⟩⟩
              have hb' := rest (s1.trans s2) nq b hb
              cases b with
              | true => exact iteF (next (s1.trans s2) (hb'.mp rfl))
              | false => exact iteT (back (s1.trans s2) fun q => Bool.noConfusion (hb'.mpr q))
          · have nq : ¬ (xs[i] = vEnd ∧ i + 1 = xs.length) := fun q => c (decide_eq_true (ez.symm.trans q.1))
            refine ⟨_, rfl, _, rfl, iteT ⟨_, rfl, _, rfl, a, _, _, _, rfl, rfl, SqT.of f1, gi', xs[i], B, H0, m, j, rfl, sb.same s1, hm, dx, fun H2 b s2 hb => ⟨_, rfl, ?_⟩⟩⟩
            have hb' := rest (s1.trans s2) nq b hb
            cases b with
            | true => exact iteF (next (s1.trans s2) (hb'.mp rfl))
            | false => exact iteT (back (s1.trans s2) fun q => Bool.noConfusion (hb'.mpr q))
        · refine ⟨_, i2, _, rfl, iteF ?_⟩
          have nq : ¬ (xs[i] = vEnd ∧ i + 1 = xs.length) := fun q => ns _ q.1
          refine ⟨_, rfl, _, rfl, iteT ⟨_, rfl, _, rfl, a, _, _, _, rfl, rfl, SqT.of f1, gi', xs[i], B, H0, m, j, rfl, sb.same s1, hm, dx, fun H2 b s2 hb => ⟨_, rfl, ?_⟩⟩⟩
          have hb' := rest (s1.trans s2) nq b hb
          cases b with
          | true => exact iteF (next (s1.trans s2) (hb'.mp rfl))
          | false => exact iteT (back (s1.trans s2) fun q => Bool.noConfusion (hb'.mpr q))
      · rintro σ H1 ⟨s1, lo, _⟩
        exact k _ _ s1 (yea ((isList_iff e0).mpr lo))
    · exact ⟨_, rfl, _, i1, _, rfl, iteT (k _ _ (Same.refl _) (nay fun ⟨b, ks, eb, h, _⟩ => no _ _ eb h))⟩
end
end Wd

set_option Elab.async false
set_option linter.all false
set_option maxRecDepth 100000
set_option maxHeartbeats 4000000
namespace Wd
open PySem L2
/-! ### lists of texts, compared -/
theorem dpAll_strs (K : PySem.W.Frag) (H : Hp) : ∀ ys : List Str, DpAll K H (ys.map V.str) (ys.map PyData.str)
  | [] => .nil
  | y :: r => .cons (.str y) (dpAll_strs K H r)
theorem dp_strs {K : PySem.W.Frag} {H : Hp} {a : Addr} {ys : List Str} (h : SqL K H a (ys.map V.str)) : Dp K H (.ref a) (.list (ys.map PyData.str)) := .lst h (dpAll_strs K H ys)
theorem depth_strs : ∀ ys : List Str, PyData.depthAll (ys.map PyData.str) = 0
  | [] => rfl
  | y :: r => by
    show max 0 (PyData.depthAll (r.map PyData.str)) = 0
    rw [depth_strs r]
    rfl
theorem lay_strs : ∀ ys : List Str, (∀ y ∈ ys, PyData.strOk y = true) → PyData.canLayAll0 (ys.map PyData.str) = true
  | [], _ => rfl
  | y :: r, h => by
    show (PyData.strOk y && PyData.canLayAll0 (r.map PyData.str)) = true
    rw [h y List.mem_cons_self, lay_strs r fun z hz => h z (List.mem_cons_of_mem _ hz)]
    rfl
theorem shaped_strs {ys : List Str} (h : ∀ y ∈ ys, PyData.strOk y = true) : SeqAt.shaped (.list (ys.map PyData.str)) = true := by
  have e : (PyData.list (ys.map PyData.str)).depth = PyData.depthAll (ys.map PyData.str) + 1 := rfl
  show (PyData.canLayAll0 (ys.map PyData.str) && decide ((PyData.list (ys.map PyData.str)).depth ≤ 64)) = true
  rw [lay_strs ys h, e, depth_strs]
  rfl
theorem eqv_strs : ∀ xs ys : List Str, PyData.eqvAll (xs.map PyData.str) (ys.map PyData.str) = decide (xs = ys)
  | [], [] => rfl
  | [], _ :: _ => rfl
  | _ :: _, [] => rfl
  | x :: r, y :: t => by
    show ((x == y) && PyData.eqvAll (r.map PyData.str) (t.map PyData.str)) = _
    rw [eqv_strs r t, Bool.eq_iff_iff, Bool.and_eq_true, beq_iff_eq, decide_eq_true_iff, decide_eq_true_iff, List.cons.injEq]
/-! ### ascending signs -/
def sgn (c : Nat) : Str := ⟨#[c]⟩
theorem sgn_inj {c d : Nat} (h : sgn c = sgn d) : c = d := sign_inj (congrArg V.str h)
theorem letV_sgn (cs : List Nat) : letV cs = (cs.map sgn).map V.str := by
  rw [List.map_map]
  rfl
theorem sgns_inj : ∀ {cs ds : List Nat}, cs.map sgn = ds.map sgn → cs = ds
  | [], [], _ => rfl
  | [], _ :: _, h => nomatch h
  | _ :: _, [], h => nomatch h
  | c :: cs, d :: ds, h => by
    rw [sgn_inj (List.cons.inj h).1, sgns_inj (List.cons.inj h).2]
theorem sgns_of {cs : List Nat} : ∀ {ys : List Str}, (∀ y ∈ ys, y ∈ cs.map sgn) → ∃ ds : List Nat, ys = ds.map sgn
  | [], _ => ⟨[], rfl⟩
  | y :: r, h => by
    obtain ⟨c, _, e⟩ := List.mem_map.mp (h y List.mem_cons_self)
    obtain ⟨ds, e'⟩ := sgns_of fun z hz => h z (List.mem_cons_of_mem _ hz)
    exact ⟨c :: ds, by rw [e', ← e]; rfl⟩
theorem rising_le : ∀ {d : Nat} {ds : List Nat}, PyProof.Rows.risingS (sgn d) (ds.map sgn) = true → (d :: ds).Pairwise (· ≤ ·)
  | d, [], _ => List.pairwise_singleton _ _
  | d, x :: r, h => by
    have h' : (!PySem.Spec.ltCps [x] [d] && PyProof.Rows.risingS (sgn x) (r.map sgn)) = true := h
    rw [Bool.and_eq_true] at h'
    have ih := rising_le h'.2
    have le : d ≤ x := by
      have q : (!(decide (x < d) || ((x == d) && false))) = true := h'.1
      simp at q
      exact q
    refine List.pairwise_cons.mpr ⟨fun y hy => ?_, ih⟩
    rcases List.mem_cons.mp hy with e | e
    · exact e ▸ le
    · exact Nat.le_trans le ((List.pairwise_cons.mp ih).1 y e)
theorem sorted_le : ∀ {ds : List Nat}, PyProof.Rows.sortedS (ds.map sgn) = true → ds.Pairwise (· ≤ ·)
  | [], _ => List.Pairwise.nil
  | d :: r, h => rising_le h
theorem strict_of : ∀ {ds : List Nat}, ds.Pairwise (· ≤ ·) → ds.Nodup → ds.Pairwise (· < ·)
  | [], _, _ => List.Pairwise.nil
  | d :: r, h, n => by
    rw [List.pairwise_cons] at h
    rw [List.nodup_cons] at n
    refine List.pairwise_cons.mpr ⟨fun y hy => ?_, strict_of h.2 n.2⟩
    have := h.1 y hy
    have : d ≠ y := fun e => n.1 (e ▸ hy)
    omega
theorem asc_eq : ∀ {cs ds : List Nat}, cs.Pairwise (· < ·) → ds.Pairwise (· < ·) → (∀ c, c ∈ cs ↔ c ∈ ds) → cs = ds
  | [], [], _, _, _ => rfl
  | [], d :: _, _, _, h => by
    have := (h d).mpr List.mem_cons_self
    cases this
  | c :: _, [], _, _, h => by
    have := (h c).mp List.mem_cons_self
    cases this
  | c :: r, d :: t, p, q, h => by
    rw [List.pairwise_cons] at p q
    have e : c = d := by
      have h1 := (h c).mp List.mem_cons_self
      have h2 := (h d).mpr List.mem_cons_self
      rcases List.mem_cons.mp h1 with e | m1
      · exact e
      · rcases List.mem_cons.mp h2 with e | m2
        · exact e.symm
        · have := q.1 c m1
          have := p.1 d m2
          omega
    subst e
    rw [asc_eq p.2 q.2 fun x => ⟨fun m => ?_, fun m => ?_⟩]
    · rcases List.mem_cons.mp ((h x).mp (List.mem_cons_of_mem _ m)) with e | m'
      · have := p.1 x m
        omega
      · exact m'
    · rcases List.mem_cons.mp ((h x).mpr (List.mem_cons_of_mem _ m)) with e | m'
      · have := q.1 x m
        omega
      · exact m'
/-- the letters as they stand are the sorted set of them just where they ascend -/
theorem set_asc {cs : List Nat} {ks ys : List Str} (h1 : ∀ k, k ∈ ks ↔ k ∈ cs.map sgn) (pm : ys.Perm ks) (srt : PyProof.Rows.sortedS ys = true) (nd : ys.Nodup) : cs.map sgn = ys ↔ cs.Pairwise (· < ·) := by
  obtain ⟨ds, rfl⟩ := sgns_of (cs := cs) fun y hy => (h1 y).mp (pm.mem_iff.mp hy)
  have nds : ds.Nodup := by
    have := nd
    rw [List.nodup_iff_pairwise_ne, List.pairwise_map] at this
    exact List.nodup_iff_pairwise_ne.mpr (this.imp fun h e => h (congrArg sgn e))
  have pd := strict_of (sorted_le srt) nds
  constructor
  · exact fun e => sgns_inj e ▸ pd
  · intro pc
    rw [asc_eq pc pd fun c => ?_]
    have m1 : ∀ {l : List Nat} {c : Nat}, sgn c ∈ l.map sgn ↔ c ∈ l := fun {l c} => ⟨fun h => by
      obtain ⟨d, hd, e⟩ := List.mem_map.mp h
      exact sgn_inj e ▸ hd, fun h => List.mem_map.mpr ⟨c, h, rfl⟩⟩
    rw [← m1, ← h1, ← pm.mem_iff, m1]
theorem low_ok {c : Nat} (h : low c) : PyData.strOk (sgn c) = true := by
  unfold low at h
  show (#[c].all fun x => decide (x < 0x110000)) = true
  simp
  omega
end Wd

set_option Elab.async false
set_option linter.all false
set_option maxRecDepth 100000
set_option maxHeartbeats 4000000
namespace Wd
open PySem L2
section
variable {P : Program} {w : World} {K : PySem.W.Frag} {mg : Str → Option Value} {base : Heap} {T : List Addr → Hp → Addr → Prop} {fI fL fW fLI fLL fLN fLO : Addr}
abbrev nLLayout : List Str := ["value", "name", "letters", "one"]
theorem scLLayout : FnScope nLLayout ["value"] (defScope sLLayout) := ⟨rfl, rfl, rfl, by decide +kernel, rfl, by decide +kernel, by decide +kernel⟩
theorem ok_llayout (O : Own K T) {f : Addr} {fd fdL fdW fdN : FuncData} (F : Fun K "_law_is_layout" "_law_is_layout" sLLayout f fd) (X : WTxt mg fI fL) (Y : LTxt mg fW fLI fLL fLN fLO) (mli : mg "list" = none) (mset : mg "set" = none) (msor : mg "sorted" = none)
    (FL : Fun K "_law_is_letter" "_law_is_letter" sLLet fLL fdL) (bL : Binds K fdL ["value"] []) (FN : Fun K "_law_is_name" "_law_is_name" sLName fLN fdN) (bN : Binds K fdN ["value"] []) (FW : Fun K "_law_words" "_law_words" sWords fW fdW) (bW : Binds K fdW [] []) :
    FnOk P w K mg base CX0 3 f fd ["value"] (spIs T IsLayout) := by
  have GL : FnOk P w K mg base CX0 1 fLL fdL ["value"] (spIs T fun _ => IsLet) := ok_llet O FL X
  have GN : FnOk P w K mg base CX0 2 fLN fdN ["value"] (spIs T fun _ => IsName) := ok_lname O FN X Y FL bL FW bW
  refine F.ok scLLayout (fun vs H Q E h => ?_) (fun cdv A outer s H vs Q E hr h => ?_)
  · obtain ⟨v, B, H0, m, n, rfl, _⟩ := h
    rfl
  · obtain ⟨v, B, H0, m, n, rfl, sb, hm, d, k⟩ := h
    have hr1 : Room 1 _ := hr.mono (by decide)
    refine ⟨_, pss_cons (ps_if (PW.pt (pw_or (pt_not (pt_val (pe_isi (N := "dict") (pv 0) X.isin X.dict))) (pw_or (pt_cmpR op_eq (pe_callB call_lenD (by rfl) X.len PySem.boot_len (pa_cons (pv 0) pa_nil)) pe_int (nomark _))
        (pw_or1 (pt_cmpR op_gt (pe_callB call_lenD (by rfl) X.len PySem.boot_len (pa_cons (pv 0) pa_nil)) pe_int (nomark _)))))) (pss_one (ps_ret pe_bl)) pss_nil)
      (pss_cons (ps_lock (ps_for PassesOwn.never rfl (pi_keys (pv 0)) (pg_name (i := 1) scLLayout.nd rfl (Or.inl rfl))
        (pss_cons (ps_set (i := 2) scLLayout.nd rfl (Or.inl rfl) (pe_dget (hu_of hr) (pv 0) (pv 1) (fun _ _ => rfl)))
        (pss_cons (ps_if (PW.pt (pw_or (pt_not (pt_val (pe_call GN hr rfl Y.ln FN.kp bN .nil pass0 (pa_cons (pv 1) pa_nil)))) (pw_or (pt_not (pt_val (pe_isi (N := "tuple") (pv 2) X.isin X.tup))) (pw_or (pt_cmpR op_eq (pe_callB call_len_seq (by rfl) X.len PySem.boot_len (pa_cons (pv 2) pa_nil)) pe_int (nomark _))
            (pw_or1 (pt_cmpR op_gt (pe_callB call_len_seq (by rfl) X.len PySem.boot_len (pa_cons (pv 2) pa_nil)) pe_int (nomark _))))))) (pss_one (ps_ret pe_bl)) pss_nil)
        (pss_cons (ps_if (pt_cmpR op_gt (pe_callB call_len_seq (by rfl) X.len PySem.boot_len (pa_cons (pe_lc (own := [("one", 3)]) (g := gName 3) rfl scLLayout.nd (pi_tup (pv 2))
            (blkOk_by (N := nLLayout) (sc := defScope sLLayout) (by decide +kernel)) (fun _ _ _ _ _ => pg_name (i := 3) scLLayout.nd rfl (Or.inl rfl))
            (fun _ _ _ _ _ => pts_one (pt_not (pt_val (pe_call GL hr1 rfl Y.ll FL.kp bL .nil pass0 (pa_cons (pv 3) pa_nil))))) (fun _ _ _ _ _ => pv 3)) pa_nil)) pe_int (nomark _)) (pss_one (ps_ret pe_bl)) pss_nil)
        (pss_one (ps_if (pt_cmpR (op_neD hr.units) (pe_callTy call_list_of (by rfl) mli (by decide +kernel) (pa_cons (pv 2) pa_nil)) (pe_callB (TS.cr_sortS rfl) (by rfl) msor (by decide +kernel) (pa_cons (pe_callTy (TS.cr_setS rfl) (by rfl) mset (by decide +kernel) (pa_cons (pv 2) pa_nil)) pa_nil)) (nomark _)) (pss_one (ps_ret pe_bl)) pss_nil)))))))
      (pss_one (ps_ret pe_bl))), ?_⟩
    rcases d.isDic O sb with ⟨a, kvs, j, rfl, na, rfl, e0, e1, hl, nd, hks, hk, i1⟩ | ⟨no, i1⟩
    · have un : ∀ {p : Prop}, (1 ≤ kvs.length → kvs.length ≤ 4 → (∀ p ∈ kvs, IsName (kV p.1) ∧ IsSrcL H0 p.2) → p) → IsLayout H0 (.ref a) → p := fun {p} g ⟨b, ks, eb, h, q1, q2, q3⟩ => by
        cases eb
        obtain rfl : kvs = ks := dK_same e0 h
        exact g q1 q2 q3
      refine ⟨_, rfl, _, i1, _, rfl, iteF ⟨_, rfl, a, kvs, rfl, e1, rfl, _, rfl, ?_⟩⟩
      refine ite2 (fun c => ?_) (fun c => ?_)
      · have c' : (V.int kvs.length) = .int 0 := of_decide_eq_true c
        injection c' with c'
        exact k _ _ (Same.refl _) (nay (un fun q _ _ => by omega))
      have c1 : kvs.length ≠ 0 := fun q => c (by rw [q]; rfl)
      refine ⟨_, rfl, a, kvs, rfl, e1, _, _, rfl, rfl, _, rfl, ?_⟩
      refine ite2 (fun c => ?_) (fun c => ?_)
      · have := of_decide_eq_true c
        exact k _ _ (Same.refl _) (nay (un fun _ q _ => by omega))
      have c2 : ¬ (4 : Int) < kvs.length := fun q => c (decide_eq_true q)
      refine ⟨a, _, e1, True.intro, fun od => ?_⟩
      have kid := Dat.kids O e0 _ d
      have sf : Ob (a :: B) H0 (upd H a (.frz od (.dK kvs))) := fun b o nb e => by
        have q : b ≠ a ∧ b ∉ B := by simpa using nb
        rw [upd_ne q.1]
        exact sb _ _ q.2 e
      have h1 : (upd H a (.frz od (.dK kvs))) a = some (.frz od (.dK kvs)) := upd_same
      have un2 : ∀ {H9 : Hp}, Same (upd H a (.frz od (.dK kvs))) H9 → Same H (upd H9 a (.dK kvs)) := fun s1 b o e => by
        by_cases q : b = a
        · subst q
          rw [e1] at e
          rw [upd_same]
          exact e
        · rw [upd_ne q]
          refine s1 _ _ ?_
          rw [upd_ne q]
          exact e
      generalize upd H a (.frz od (.dK kvs)) = Hf at sf h1 un2
      refine ⟨_, rfl, a, od, rfl, .inl ⟨kvs, h1, ?_⟩⟩
      refine for_it (walk_keys (kvs := kvs) (d := a) (o := od)) (fun i σ H' => Same Hf H' ∧ (∀ t, t < i → ∃ p, kvs[t]? = some p ∧ (IsName (kV p.1) ∧ IsSrcL H0 p.2)) ∧ ∃ v1 v2 v3, σ = [some (.ref a), v1, v2, v3])
        ⟨Same.refl _, fun t ht => absurd ht (Nat.not_lt_zero _), _, _, _, rfl⟩ (fun i σ H9 _ ⟨s, _⟩ => s _ _ h1) ?_ ?_
      · rintro i x σ H1 H' hi ⟨s1, lo, v1, v2, v3, rfl⟩ ⟨rfl, ky, vy, hx, rfl⟩
        have hmem := List.mem_of_getElem? hx
        obtain ⟨z, ez, lz, oz⟩ := hks _ hmem
        have ez' : ky = Sum.inr z := ez
        subst ez'
        have back : ∀ {H9 : Hp}, Same Hf H9 → ¬ (IsName (.str z) ∧ IsSrcL H0 vy) → H9 a = some (.frz od (.dK kvs)) ∧ Q (.bl false) (upd H9 a (.dK kvs)) := fun s q => ⟨s _ _ h1, k _ _ (un2 s) (nay (un fun _ _ g => q (g _ hmem)))⟩
        have next : ∀ {H9 : Hp} {v1' v2' v3' : Option V}, Same Hf H9 → (IsName (.str z) ∧ IsSrcL H0 vy) → Same Hf H9 ∧ (∀ t, t < i + 1 → ∃ p, kvs[t]? = some p ∧ (IsName (kV p.1) ∧ IsSrcL H0 p.2)) ∧ ∃ v1 v2 v3, [some (V.ref a), v1', v2', v3'] = [some (.ref a), v1, v2, v3] := fun s q =>
          ⟨s, fun t ht => by
            by_cases c : t = i
            · exact c ▸ ⟨_, hx, q⟩
            · exact lo t (by omega), _, _, _, rfl⟩
        refine ⟨_, rfl, _, rfl, a, vy, rfl, ?_, ?_⟩
        · rw [← val_at nd hx]
          exact .inl ⟨kvs, Sum.inr z, .inr ⟨od, s1 _ _ h1⟩, rfl, rfl⟩
        refine ⟨_, rfl, .str z, a :: B, H0, m, 1, rfl, sf.same s1, hm, .str z lz oz, fun H2 b2 s2 hb2 => ⟨b2, rfl, ?_⟩⟩
        have s12 := s1.trans s2
        cases b2 with
        | false => exact iteT (back s12 fun q => Bool.noConfusion (hb2.mpr q.1))
        | true =>
          have nz : IsName (.str z) := hb2.mp rfl
          rcases (kid _ hmem).isTup O (sf.same s12) with ⟨t, xs, j2, et, nt, et0, et2, hlt, hkt, i2⟩ | ⟨no2, i2⟩
          · have et' : vy = .ref t := et
            subst et'
            have unS : ∀ {p : Prop}, (∀ cs, xs = letV cs → Letters cs → cs.length ≤ 4 → p) → IsSrcL H0 (.ref t) → p := fun {p} g ⟨b, cs, eb, h, q1, q2⟩ => by
              cases eb
              exact g cs (tup_same et0 h) q1 q2
            refine iteF ⟨_, rfl, _, i2, _, rfl, iteF ⟨_, rfl, t, xs, rfl, .inr (SqT.of et2), rfl, _, rfl, ?_⟩⟩
            refine ite2 (fun g => ?_) (fun g => ?_)
            · have g' : (V.int xs.length) = .int 0 := of_decide_eq_true g
              injection g' with g'
              refine back s12 fun q => unS (fun cs e l _ => ?_) q.2
              rw [e] at g'
              exact l.1 (List.length_eq_zero_iff.mp (by simp [letV] at g'; simpa using g'))
            have g1 : xs ≠ [] := fun q => g (by rw [q]; rfl)
            refine ⟨_, rfl, t, xs, rfl, .inr (SqT.of et2), _, _, rfl, rfl, _, rfl, ?_⟩
            refine ite2 (fun g => ?_) (fun g => ?_)
            · have g' := of_decide_eq_true g
              refine back s12 fun q => unS (fun cs e _ l => ?_) q.2
              have : xs.length = cs.length := by rw [e]; exact List.length_map _
              omega
            have g2 : ¬ (4 : Int) < xs.length := fun q => g (decide_eq_true q)
            refine ⟨_, rfl, t, rfl, ⟨xs, SqT.of et2⟩, fun D hD => ?_⟩
            refine lc_lack (walk_tup (K := K) (xs := xs) (a := t)) (fun i => ∃ x, xs[i]? = some x ∧ IsLet x) hD (by omega) (fun H s => SqT.of (s _ _ et2)) ?_ ?_
            · rintro i3 x H3 H' kk kF hi3 s3 ⟨rfl, hx3⟩ q1 q2
              refine ⟨rfl, _, rfl, x, a :: B, H0, m, j2, rfl, (sf.same s12).same s3, hm, hkt x (List.mem_of_getElem? hx3), fun H4 b s4 hb => ⟨_, rfl, ?_⟩⟩
              have hb' := at_one (p := IsLet) hx3 hb
              cases b with
              | true => exact iteF (q2 _ s4 (hb'.mp rfl))
              | false => exact iteT ⟨_, rfl, q1 _ s4 fun q => Bool.noConfusion (hb'.mpr q)⟩
            · rintro H3 zs s3 hD3 lz3 hb
              rw [all_at] at hb
              have s13 := s12.trans s3
              have et3 := s3 _ _ et2
              refine ⟨D, zs, rfl, .inl (SqL.of hD3), _, _, rfl, rfl, _, rfl, ?_⟩
              refine ite2 (fun g => ?_) (fun g => ?_)
              · refine back s13 fun q => unS (fun cs e l _ => ?_) q.2
                have zn : zs = [] := hb.mpr fun x hx => by
                  rw [e] at hx
                  obtain ⟨c, hc, rfl⟩ := List.mem_map.mp hx
                  exact ⟨c, rfl, l.2.1 c hc⟩
                rw [zn] at g
                exact absurd g (by decide)
              · have zn : zs = [] := by
                  cases zs with
                  | nil => rfl
                  | cons z0 zr => exact (g (decide_eq_true (by rw [List.length_cons]; omega))).elim
                obtain ⟨cs, rfl, low'⟩ := lets_of (hb.mp zn)
                have lc4 : cs.length ≤ 4 := by
                  have : (letV cs).length = cs.length := List.length_map _
                  omega
                have et4 : H3 t = some (.tup ((cs.map sgn).map V.str)) := by rw [← letV_sgn]; exact et3
                have lcs : (cs.map sgn).length = cs.length := List.length_map _
                refine ⟨_, rfl, t, _, rfl, .inr (SqT.of et4), fun l hl => ?_⟩
                have ntl : t ≠ l := ne_of_none et4 hl
                have et5 : (upd H3 l (.lst ((cs.map sgn).map V.str))) t = some (.tup ((cs.map sgn).map V.str)) := (upd_ne ntl).trans et4
                have el5 : (upd H3 l (.lst ((cs.map sgn).map V.str))) l = some (.lst ((cs.map sgn).map V.str)) := upd_same
                have s5 : Same Hf (upd H3 l (.lst ((cs.map sgn).map V.str))) := fun b o e => by
                  rw [upd_ne (ne_of_none (s13 _ _ e) hl)]
                  exact s13 _ _ e
                generalize upd H3 l (.lst ((cs.map sgn).map V.str)) = H5 at et5 el5 s5
                refine ⟨_, rfl, t, cs.map sgn, rfl, .inr (SqT.of et5), by omega, fun sa ks hsa m1 nd1 l1 => ?_⟩
                refine ⟨sa, ks, rfl, upd_same, by omega, fun ys p pm srt nd2 hp => ?_⟩
                have nlsa : l ≠ sa := ne_of_none el5 hsa
                have npsa : p ≠ sa := fun q => by
                  rw [q, upd_same] at hp
                  cases hp
                have hp5 : H5 p = none := by
                  rw [upd_ne npsa] at hp
                  exact hp
                have nlp : l ≠ p := ne_of_none el5 hp5
                have s7 : Same Hf (upd (upd H5 sa (TS.SetS w sa ks)) p (.lst (ys.map V.str))) := fun b o e => by
                  have e5 := s5 _ _ e
                  rw [upd_ne (ne_of_none e5 hp5), upd_ne (ne_of_none e5 hsa)]
                  exact e5
                have el7 : (upd (upd H5 sa (TS.SetS w sa ks)) p (.lst (ys.map V.str))) l = some (.lst ((cs.map sgn).map V.str)) := by
                  rw [upd_ne nlp, upd_ne nlsa]
                  exact el5
                have ep7 : (upd (upd H5 sa (TS.SetS w sa ks)) p (.lst (ys.map V.str))) p = some (.lst (ys.map V.str)) := upd_same
                have okc : ∀ y ∈ cs.map sgn, PyData.strOk y = true := fun y hy => by
                  obtain ⟨c, hc, rfl⟩ := List.mem_map.mp hy
                  exact low_ok (low' c hc)
                have oky : ∀ y ∈ ys, PyData.strOk y = true := fun y hy => okc y ((m1 y).mp (pm.mem_iff.mp hy))
                have asc := set_asc m1 pm srt nd2
                refine ⟨_, _, dp_strs (SqL.of el7), dp_strs (SqL.of ep7), shaped_strs okc, shaped_strs oky, _, rfl, ?_⟩
                have ev : PyData.eqv (.list ((cs.map sgn).map PyData.str)) (.list (ys.map PyData.str)) = decide (cs.map sgn = ys) := eqv_strs _ _
                rw [ev]
                by_cases e : cs.map sgn = ys
                · rw [decide_eq_true e]
                  exact iteF (next s7 ⟨nz, t, cs, rfl, et0, ⟨fun q => g1 (by rw [q]; rfl), low', asc.mp e⟩, lc4⟩)
                · rw [decide_eq_false e]
                  refine iteT (back s7 fun q => unS (fun ds ed l _ => ?_) q.2)
                  obtain rfl : cs = ds := letV_inj ed
                  exact e (asc.mpr l.2.2)
          · exact iteF ⟨_, rfl, _, i2, _, rfl, iteT (back s12 fun q => by obtain ⟨b, cs, eb, h, _⟩ := q.2; exact no2 _ _ eb h)⟩
      · rintro σ H1 ⟨s1, lo, _⟩
        exact ⟨s1 _ _ h1, k _ _ (un2 s1) (yea ⟨a, kvs, rfl, e0, by omega, by omega, all_at.mp lo⟩)⟩
    · exact ⟨_, rfl, _, i1, _, rfl, iteT (k _ _ (Same.refl _) (nay fun ⟨b, ks, eb, h, _⟩ => no _ _ eb h))⟩
end
end Wd

set_option Elab.async false
set_option linter.all false
set_option maxRecDepth 100000
set_option maxHeartbeats 4000000
namespace Wd
open PySem L2
/-- u, new since Hc, is a copy over H of what v was over Hv; nested less than n deep -/
inductive Cop (T : List Addr → Hp → Addr → Prop) (Hv Hc H : Hp) : Nat → V → V → Prop where
  | non {n} : Cop T Hv Hc H (n + 1) .non .non
  | bl {n} (b : Bool) : Cop T Hv Hc H (n + 1) (.bl b) (.bl b)
  | int {n} (i : Int) : Cop T Hv Hc H (n + 1) (.int i) (.int i)
  | str {n} (s : Str) : Cop T Hv Hc H (n + 1) (.str s) (.str s)
  | own {n} {a : Addr} {B : List Addr} (t : T B Hv a) : Cop T Hv Hc H (n + 1) (.ref a) (.ref a)
  | tup {n} {a b : Addr} {xs ys : List V} (e : Hv a = some (.tup xs)) (nb : Hc b = none) (f : H b = some (.tup ys)) (l : xs.length = ys.length)
      (p : ∀ (i : Nat) (x y : V), xs[i]? = some x → ys[i]? = some y → Cop T Hv Hc H n x y) : Cop T Hv Hc H (n + 1) (.ref a) (.ref b)
  | lst {n} {a b : Addr} {xs ys : List V} (e : Hv a = some (.lst xs)) (nb : Hc b = none) (f : H b = some (.lst ys)) (l : xs.length = ys.length)
      (p : ∀ (i : Nat) (x y : V), xs[i]? = some x → ys[i]? = some y → Cop T Hv Hc H n x y) : Cop T Hv Hc H (n + 1) (.ref a) (.ref b)
  | dic {n} {a b : Addr} {ks ls : List (Key × V)} (e : Hv a = some (.dK ks)) (nb : Hc b = none) (f : H b = some (.dK ls)) (k : ls.map (·.1) = ks.map (·.1))
      (p : ∀ (i : Nat) (x y : Key × V), ks[i]? = some x → ls[i]? = some y → Cop T Hv Hc H n x.2 y.2) : Cop T Hv Hc H (n + 1) (.ref a) (.ref b)
theorem Cop.mono {T : List Addr → Hp → Addr → Prop} {Hv Hc Hc' H H' : Hp} {n : Nat} {v u : V} (st : ∀ b o, Hc b = none → H b = some o → H' b = some o) (dm : ∀ b, Hc b = none → Hc' b = none) (c : Cop T Hv Hc H n v u) : Cop T Hv Hc' H' n v u := by
  induction c with
  | non => exact .non
  | bl b => exact .bl b
  | int i => exact .int i
  | str s => exact .str s
  | own t => exact .own t
  | tup e nb f l p ih => exact .tup e (dm _ nb) (st _ _ nb f) l ih
  | lst e nb f l p ih => exact .lst e (dm _ nb) (st _ _ nb f) l ih
  | dic e nb f k p ih => exact .dic e (dm _ nb) (st _ _ nb f) k ih
/-- a comprehension of new things -/
theorem lc_news {J : It} {n : Nat} {G : Hp → Prop} {Y : Nat → Hp → V → Hp → Prop} (w : Walk J n G Y) (R : Hp → Hp → Nat → V → Prop) {g : TG} {te : TE} {vs : List Nat} {σ : St} {H1 : Hp} {D : Addr} {Qd : Hp → Prop} (hD : H1 D = none) (hn : n ≤ 1000)
    (mo : ∀ Hc Hc' H H' i y, (∀ b o, Hc b = none → H b = some o → H' b = some o) → (∀ b, Hc b = none → Hc' b = none) → R Hc H i y → R Hc' H' i y)
    (hG : ∀ H, Same H1 H → G H)
    (hs : ∀ i x H H' (k : V → Hp → Prop), i < n → Same H1 H → Y i H x H' → (∀ y H4, Same H H4 → R H H4 i y → k y H4) → g x (wipe σ vs) H' fun σ2 H2 => wipe σ2 vs = wipe σ vs ∧ te σ2 H2 k)
    (hd : ∀ H (ys : List V), Same H1 H → H D = some (.lst ys) → ys.length = n → (∀ (i : Nat) (y : V), ys[i]? = some y → R (upd H1 D (.lst [])) H i y) → Qd H) :
    ∃ W : Nat → Nat → Hp → Prop, (∃ m, W 0 m (upd H1 D (.lst []))) ∧ ∀ i m H, W i m H →
      (J.stop i H ∧ Qd H) ∨ (J.go i H ∧ ∃ Nx : Hp → Prop, (∀ H', Nx H' → ∃ m', m' < m ∧ W (i + 1) m' H') ∧ ∀ x H', J.yld i H x H' → g x (wipe σ vs) H' fun σ2 H2 => wipe σ2 vs = wipe σ vs ∧ tYes σ2 H2 fun b H3 =>
        if b = true then te σ2 H3 fun y H4 => ∃ acc, H4 D = some (.lst acc) ∧ acc.length < sizeLine ∧ Nx (upd H4 D (.lst (acc ++ [y]))) else Nx H3) := by
  refine lc_it w (fun i H => Same H1 H ∧ ∃ ys : List V, ys.length = i ∧ (∀ (j : Nat) (y : V), ys[j]? = some y → R (upd H1 D (.lst [])) H j y) ∧ H D = some (.lst ys)) ⟨fun b o e => by rw [upd_ne (ne_of_none e hD)]; exact e, [], rfl, by simp, upd_same⟩
    (fun i H _ ⟨s, _⟩ => hG H s) ?_ (fun H ⟨s, ys, l, e, d⟩ => hd H ys s d l e)
  rintro i x H H' hi ⟨s, ys, l, e, d⟩ y
  refine hs i x H H' _ hi s y ?_
  intro u H4 s4 hr
  have nD : ∀ b, (upd H1 D (.lst [])) b = none → b ≠ D ∧ H1 b = none := fun b hb => by
    have q : b ≠ D := fun z => by
      rw [z, upd_same] at hb
      cases hb
    rw [upd_ne q] at hb
    exact ⟨q, hb⟩
  have iD : ∀ b, H b = none → (upd H1 D (.lst [])) b = none := fun b hb => by
    have q : b ≠ D := fun z => by
      rw [z, d] at hb
      cases hb
    rw [upd_ne q]
    exact s.free hb
  refine ⟨ys, s4 _ _ d, small1000 (by omega), fun c o q => ?_, ys ++ [u], by simp [l], ?_, upd_same⟩
  · rw [upd_ne (ne_of_none q hD)]
    exact s4 _ _ (s _ _ q)
  · intro j z hz
    by_cases c : j < ys.length
    · rw [List.getElem?_append_left c] at hz
      refine mo _ _ _ _ _ _ (fun b o hb eb => ?_) (fun b hb => hb) (e j z hz)
      rw [upd_ne (nD b hb).1]
      exact s4 _ _ eb
    · have ej : j = i := by
        rw [List.getElem?_append_right (by omega)] at hz
        have : j - ys.length < [u].length := by
          rcases Nat.lt_or_ge (j - ys.length) [u].length with h | h
          · exact h
          · rw [List.getElem?_eq_none h] at hz
            cases hz
        simp at this
        omega
      subst ej
      have ez : z = u := by
        rw [← l] at hz
        simpa using hz.symm
      subst ez
      refine mo _ _ _ _ _ _ (fun b o hb eb => ?_) iD hr
      rw [upd_ne (nD b (iD b hb)).1]
      exact eb
theorem merge_nodup : ∀ {more kvs : List (Key × V)}, ((kvs ++ more).map (·.1)).Nodup → mergeK kvs more = kvs ++ more
  | [], kvs, _ => (List.append_nil kvs).symm
  | p :: r, kvs, h => by
    have np : ¬ (kvs.any fun kv => decide (kv.1 = p.1)) = true := fun q => by
      obtain ⟨x, hx, e⟩ := List.any_eq_true.mp q
      rw [List.map_append, List.nodup_append] at h
      exact h.2.2 _ (List.mem_map.mpr ⟨x, hx, rfl⟩) _ (List.mem_map.mpr ⟨p, List.mem_cons_self, rfl⟩) (of_decide_eq_true e)
    show mergeK (putK kvs p.1 p.2) r = _
    have e : putK kvs p.1 p.2 = kvs ++ [p] := by
      unfold putK
      rw [if_neg np]
    rw [e, merge_nodup (by rw [List.append_assoc]; exact h), List.append_assoc]
    rfl
theorem pairs_of {φ : Addr → Key × V → Key × V → Prop} : ∀ {ys : List V} {kvs : List (Key × V)}, ys.length = kvs.length → (∀ (i : Nat) (y : V), ys[i]? = some y → ∃ p u kv, y = .ref p ∧ kvs[i]? = some kv ∧ φ p kv (kv.1, u)) →
    ∃ (ps : List Addr) (ls : List (Key × V)), ys = ps.map V.ref ∧ ls.map (·.1) = kvs.map (·.1) ∧ Paired (fun p l => ∃ kv, φ p kv l) ps ls ∧ ∀ (i : Nat) (x y : Key × V), kvs[i]? = some x → ls[i]? = some y → ∃ p, φ p x y
  | [], [], _, _ => ⟨[], [], rfl, rfl, .nil, fun i x y h => by simp at h⟩
  | [], _ :: _, h, _ => nomatch h
  | _ :: _, [], h, _ => nomatch h
  | y :: r, kv :: t, h, hy => by
    obtain ⟨p, u, kv', e1, e2, e3⟩ := hy 0 y rfl
    have e2' : kv = kv' := Option.some.inj e2
    subst e2'
    obtain ⟨ps, ls, q1, q2, q3, q4⟩ := pairs_of (ys := r) (kvs := t) (Nat.succ.inj h) fun i z hz => hy (i + 1) z (by simpa using hz)
    refine ⟨p :: ps, (kv.1, u) :: ls, by rw [q1, e1]; rfl, by rw [List.map_cons, List.map_cons, q2], .cons ⟨kv, e3⟩ q3, fun i x z h1 h2 => ?_⟩
    cases i with
    | zero =>
      have a1 : kv = x := by simpa using h1
      have a2 : (kv.1, u) = z := by simpa using h2
      exact ⟨p, a1 ▸ a2 ▸ e3⟩
    | succ i => exact q4 i x z (by simpa using h1) (by simpa using h2)
def spCopied (T : List Addr → Hp → Addr → Prop) (n : Nat) : Sp := fun vs H Q _ => ∃ (v : V) (B : List Addr) (Hv : Hp) (m : Nat), vs = [v] ∧ Ob B Hv H ∧ m ≤ 1000 ∧ Dat T B Hv m n v ∧
  ∀ H' u, Same H H' → Cop T Hv H H' n v u → Q u H'
section
variable {P : Program} {w : World} {K : PySem.W.Frag} {mg : Str → Option Value} {base : Heap} {T : List Addr → Hp → Addr → Prop} {fI fL : Addr}
abbrev nCopied : List Str := ["value", "key", "one"]
theorem scCopied : FnScope nCopied ["value"] (defScope sCopied) := ⟨rfl, rfl, rfl, by decide +kernel, rfl, by decide +kernel, by decide +kernel⟩
theorem ok_copied (O : Own K T) {f : Addr} {fd : FuncData} (F : Fun K "_law_copied" "_law_copied" sCopied f fd) (X : WTxt mg fI fL) (mli : mg "list" = none) (mc : mg "_law_copied" = some (.ref f)) (b : Binds K fd ["value"] []) :
    ∀ n, FnOk P w K mg base CX0 (n + 1) f fd ["value"] (spCopied T n)
  | 0 => by
    refine F.ok scCopied (fun vs H Q E h => ?_) (fun cdv A outer s H vs Q E hr h => ?_)
    · obtain ⟨v, B, Hv, m, rfl, _⟩ := h
      rfl
    · obtain ⟨v, B, Hv, m, rfl, sb, hm, d, k⟩ := h
      cases d
  | n + 1 => by
    have G : FnOk P w K mg base CX0 (n + 1) f fd ["value"] (spCopied T n) := ok_copied O F X mli mc b n
    refine F.ok scCopied (fun vs H Q E h => ?_) (fun cdv A outer s H vs Q E hr h => ?_)
    · obtain ⟨v, B, Hv, m, rfl, _⟩ := h
      rfl
    · obtain ⟨v, B, Hv, m, rfl, sb, hm, d, k⟩ := h
      refine ⟨_, pss_cons (ps_if (pt_val (pe_isi (N := "dict") (pv 0) X.isin X.dict)) (pss_one (ps_ret (pe_callTy (call_dictP rfl) (by rfl) X.dict (by decide +kernel) (pa_cons (pe_lock (pe_lc (own := [("key", 1)]) (g := gName 1) (tt := tYes) rfl scCopied.nd (pi_keys (pv 0))
            (blkOk_by (N := nCopied) (sc := defScope sCopied) (by decide +kernel)) (fun _ _ _ _ _ => pg_name (i := 1) scCopied.nd rfl (Or.inl rfl)) (fun _ _ _ _ _ => pts_nil)
            (fun _ _ _ _ _ => pe_tup (pa_cons (pv 1) (pa_cons (pe_call G hr rfl mc F.kp b .nil pass0 (pa_cons (pe_dget (hu_of hr) (pv 0) (pv 1) (fun _ _ => rfl)) pa_nil)) pa_nil))))) pa_nil)))) pss_nil)
        (pss_cons (ps_if (pt_val (pe_isi (N := "list") (pv 0) X.isin mli)) (pss_one (ps_ret (pe_lc (own := [("one", 2)]) (g := gName 2) (tt := tYes) rfl scCopied.nd (pi_list (pv 0))
            (blkOk_by (N := nCopied) (sc := defScope sCopied) (by decide +kernel)) (fun _ _ _ _ _ => pg_name (i := 2) scCopied.nd rfl (Or.inl rfl)) (fun _ _ _ _ _ => pts_nil)
            (fun _ _ _ _ _ => pe_call G hr rfl mc F.kp b .nil pass0 (pa_cons (pv 2) pa_nil))))) pss_nil)
        (pss_cons (ps_if (pt_val (pe_isi (N := "tuple") (pv 0) X.isin X.tup)) (pss_one (ps_ret (pe_callTy call_tuple_of (by rfl) X.tup (by decide +kernel) (pa_cons (pe_lc (own := [("one", 2)]) (g := gName 2) (tt := tYes) rfl scCopied.nd (pi_tup (pv 0))
            (blkOk_by (N := nCopied) (sc := defScope sCopied) (by decide +kernel)) (fun _ _ _ _ _ => pg_name (i := 2) scCopied.nd rfl (Or.inl rfl)) (fun _ _ _ _ _ => pts_nil)
            (fun _ _ _ _ _ => pe_call G hr rfl mc F.kp b .nil pass0 (pa_cons (pv 2) pa_nil))) pa_nil)))) pss_nil)
        (pss_one (ps_ret (pv 0))))), ?_⟩
      have fin : ∀ {u : V}, Isi K H v "dict" false → Isi K H v "list" false → Isi K H v "tuple" false → Cop T Hv H H (n + 1) v v → True := fun _ _ _ _ => trivial
      rcases d.isDic O sb with ⟨a, kvs, j, rfl, na, ej, e0, e1, hl, nd, hks, hk, i1⟩ | ⟨no1, i1⟩
      · cases ej
        refine ⟨_, rfl, _, i1, _, rfl, iteT ⟨a, _, e1, True.intro, fun od => ?_⟩⟩
        have kid := Dat.kids O e0 _ d
        have sf : Ob (a :: B) Hv (upd H a (.frz od (.dK kvs))) := fun b o nb e => by
          have q : b ≠ a ∧ b ∉ B := by simpa using nb
          rw [upd_ne q.1]
          exact sb _ _ q.2 e
        have h1 : (upd H a (.frz od (.dK kvs))) a = some (.frz od (.dK kvs)) := upd_same
        have un2 : ∀ {H9 : Hp}, Same (upd H a (.frz od (.dK kvs))) H9 → Same H (upd H9 a (.dK kvs)) := fun s1 b o e => by
          by_cases q : b = a
          · subst q
            rw [e1] at e
            rw [upd_same]
            exact e
          · rw [upd_ne q]
            refine s1 _ _ ?_
            rw [upd_ne q]
            exact e
        have un3 : ∀ b, (upd H a (.frz od (.dK kvs))) b = none → b ≠ a ∧ H b = none := fun b hb => by
          have q : b ≠ a := fun z => by
            rw [z, upd_same] at hb
            cases hb
          rw [upd_ne q] at hb
          exact ⟨q, hb⟩
        generalize upd H a (.frz od (.dK kvs)) = Hf at sf h1 un2 un3
        refine ⟨_, rfl, a, od, rfl, .inl ⟨kvs, h1, fun D hD => ?_⟩⟩
        refine lc_news (walk_keys (kvs := kvs) (d := a) (o := od)) (fun Hc H' i y => ∃ p u kv, y = .ref p ∧ Hc p = none ∧ kvs[i]? = some kv ∧ H' p = some (.tup [kV kv.1, u]) ∧ Cop T Hv Hc H' n kv.2 u) hD (by omega) ?_ (fun H s => s _ _ h1) ?_ ?_
        · rintro Hc Hc' Ha Hb i y a1 a2 ⟨p, u, kv, q1, q2, q3, q4, q5⟩
          exact ⟨p, u, kv, q1, a2 _ q2, q3, a1 _ _ q2 q4, q5.mono a1 a2⟩
        · rintro i x H2 H' kk hi s2 ⟨rfl, ky, vy, hx, rfl⟩ q
          have hmem := List.mem_of_getElem? hx
          refine ⟨rfl, _, rfl, _, rfl, _, rfl, a, vy, rfl, ?_, vy, a :: B, Hv, m, rfl, sf.same s2, hm, kid _ hmem, fun H3 u s3 c3 => ?_⟩
          · rw [← val_at nd hx]
            exact .inl ⟨kvs, ky, .inr ⟨od, s2 _ _ h1⟩, rfl, rfl⟩
          · refine ⟨(by show 2 ≤ sizeLine; decide), fun p hp => q _ _ (fun b o e => ?_) ⟨p, u, (ky, vy), rfl, s3.free hp, hx, upd_same, c3.mono (fun b o _ e => ?_) fun _ z => z⟩⟩
            · rw [upd_ne (ne_of_none (s3 _ _ e) hp)]
              exact s3 _ _ e
            · rw [upd_ne (ne_of_none e hp)]
              exact e
        · rintro H2 ys s2 hD2 ly hy
          have nDa : D ≠ a := fun z => by
            rw [z, h1] at hD
            cases hD
          have e2 := s2 _ _ h1
          obtain ⟨ps, ls, q1, q2, q3, q4⟩ := pairs_of (φ := fun p kv l => (upd Hf D (.lst [])) p = none ∧ H2 p = some (.tup [kV l.1, l.2]) ∧ Cop T Hv (upd Hf D (.lst [])) H2 n kv.2 l.2) ly fun i y hi =>
            let ⟨p, u, kv, z1, z2, z3, z4, z5⟩ := hy i y hi
            ⟨p, u, kv, z1, z3, z2, z4, z5⟩
          have nds : (ls.map (·.1)).Nodup := q2 ▸ nd
          have fr : ∀ b, (upd Hf D (.lst [])) b = none → b ≠ a ∧ H b = none := fun b hb => by
            have q : b ≠ D := fun z => by
              rw [z, upd_same] at hb
              cases hb
            rw [upd_ne q] at hb
            exact un3 b hb
          refine ⟨e2, D, ps, ls, rfl, SqL.of ((upd_ne nDa).trans (q1 ▸ hD2)), L2.Paired.mapP q3 fun p l ⟨kv, z1, z2, _⟩ => SqT.of ((upd_ne (fr p z1).1).trans z2), fun q hq => ?_⟩
          rw [show mergeK [] ls = ls from (merge_nodup (kvs := []) nds)]
          have s3 : Same H (upd (upd H2 a (.dK kvs)) q (.dK ls)) := fun b o e => by
            have e' := un2 s2 _ _ e
            rw [upd_ne (ne_of_none e' hq)]
            exact e'
          refine k _ _ s3 (.dic e0 ((un2 s2).free hq) upd_same q2 fun i x y h1' h2' => ?_)
          obtain ⟨p, _, _, c⟩ := q4 i x y h1' h2'
          refine c.mono (fun b o hb e => ?_) fun b hb => (fr b hb).2
          have e' : (upd H2 a (.dK kvs)) b = some o := (upd_ne (fr b hb).1).trans e
          rw [upd_ne (ne_of_none e' hq)]
          exact e'
      · refine ⟨_, rfl, _, i1, _, rfl, iteF ?_⟩
        rcases d.isLst O sb with ⟨a, xs, j, rfl, na, ej, e0, e1, hl, hk, i2⟩ | ⟨no2, i2⟩
        · cases ej
          refine ⟨_, rfl, _, i2, _, rfl, iteT ⟨_, rfl, a, rfl, ⟨xs, SqL.of e1⟩, fun D hD => ?_⟩⟩
          refine lc_news (walk_list (K := K) (xs := xs) (a := a)) (fun Hc H' i y => ∃ x, xs[i]? = some x ∧ Cop T Hv Hc H' n x y) hD (by omega) ?_ (fun H s => SqL.of (s _ _ e1)) ?_ ?_
          · rintro Hc Hc' Ha Hb i y a1 a2 ⟨x, q1, q2⟩
            exact ⟨x, q1, q2.mono a1 a2⟩
          · rintro i x H2 H' kk hi s2 ⟨rfl, hx⟩ q
            exact ⟨rfl, _, rfl, x, B, Hv, m, rfl, sb.same s2, hm, hk x (List.mem_of_getElem? hx), fun H3 u s3 c3 => q _ _ s3 ⟨x, hx, c3⟩⟩
          · rintro H2 ys s2 hD2 ly hy
            refine k _ _ s2 (.lst e0 hD hD2 ly.symm fun i x y h1 h2 => ?_)
            obtain ⟨x', hx', c⟩ := hy i y h2
            rw [h1] at hx'
            cases hx'
            exact c.mono (fun b o _ e => e) fun b hb => by
              have q : b ≠ D := fun z => by
                rw [z, upd_same] at hb
                cases hb
              rw [upd_ne q] at hb
              exact hb
        · refine ⟨_, rfl, _, i2, _, rfl, iteF ?_⟩
          cases d with
          | @tup _ a xs ne e0 hl hk =>
            have e1 := sb _ _ ne e0
            refine ⟨_, rfl, _, isi_ty (.base (.tup e1)) (by decide), _, rfl, iteT ⟨_, rfl, a, rfl, ⟨xs, SqT.of e1⟩, fun D hD => ?_⟩⟩
            refine lc_news (walk_tup (K := K) (xs := xs) (a := a)) (fun Hc H' i y => ∃ x, xs[i]? = some x ∧ Cop T Hv Hc H' n x y) hD (by omega) ?_ (fun H s => SqT.of (s _ _ e1)) ?_ ?_
            · rintro Hc Hc' Ha Hb i y a1 a2 ⟨x, q1, q2⟩
              exact ⟨x, q1, q2.mono a1 a2⟩
            · rintro i x H2 H' kk hi s2 ⟨rfl, hx⟩ q
              exact ⟨rfl, _, rfl, x, B, Hv, m, rfl, sb.same s2, hm, hk x (List.mem_of_getElem? hx), fun H3 u s3 c3 => q _ _ s3 ⟨x, hx, c3⟩⟩
            · rintro H2 ys s2 hD2 ly hy
              refine ⟨D, ys, rfl, .inl ⟨SqL.of hD2, fun q hq => ?_⟩⟩
              have s3 : Same H (upd H2 q (.tup ys)) := fun b o e => by
                have e' := s2 _ _ e
                rw [upd_ne (ne_of_none e' hq)]
                exact e'
              refine k _ _ s3 (.tup e0 (s2.free hq) upd_same ly.symm fun i x y h1 h2 => ?_)
              obtain ⟨x', hx', c⟩ := hy i y h2
              rw [h1] at hx'
              cases hx'
              refine c.mono (fun b o _ e => ?_) fun b hb => ?_
              · rw [upd_ne (ne_of_none e hq)]
                exact e
              · have q : b ≠ D := fun z => by
                  rw [z, upd_same] at hb
                  cases hb
                rw [upd_ne q] at hb
                exact hb
          | lst ne e l p => exact (no2 _ _ rfl e).elim
          | dic ne e l nd ks p => exact (no1 _ _ rfl e).elim
          | non => exact ⟨_, rfl, _, isi_ty (.base .non) (by decide), _, rfl, iteF ⟨_, rfl, k _ _ (Same.refl _) .non⟩⟩
          | bl b => exact ⟨_, rfl, _, isi_ty (.base (.bl b)) (by decide), _, rfl, iteF ⟨_, rfl, k _ _ (Same.refl _) (.bl b)⟩⟩
          | int b => exact ⟨_, rfl, _, isi_ty (.base (.int b)) (by decide), _, rfl, iteF ⟨_, rfl, k _ _ (Same.refl _) (.int b)⟩⟩
          | str b => exact ⟨_, rfl, _, isi_ty (.base (.str b)) (by decide), _, rfl, iteF ⟨_, rfl, k _ _ (Same.refl _) (.str b)⟩⟩
          | own t => exact ⟨_, rfl, _, O.isi (O.mono sb t) (by decide), _, rfl, iteF ⟨_, rfl, k _ _ (Same.refl _) (.own t)⟩⟩
end
end Wd

set_option Elab.async false
set_option linter.all false
set_option maxRecDepth 100000
set_option maxHeartbeats 4000000
namespace Wd
open PySem L2
/-! ### sorted texts -/
theorem cps_anti : ∀ {a b : List Nat}, PySem.Spec.ltCps a b = false → PySem.Spec.ltCps b a = false → a = b
  | [], [], _, _ => rfl
  | [], _ :: _, h, _ => nomatch h
  | _ :: _, [], _, h => nomatch h
  | a :: r, b :: t, h1, h2 => by
    have h1' : (decide (a < b) || ((a == b) && PySem.Spec.ltCps r t)) = false := h1
    have h2' : (decide (b < a) || ((b == a) && PySem.Spec.ltCps t r)) = false := h2
    have e : a = b := by
      simp at h1' h2'
      omega
    subst e
    simp at h1' h2'
    rw [cps_anti h1' h2']
theorem cps_trans : ∀ {a b c : List Nat}, PySem.Spec.ltCps b a = false → PySem.Spec.ltCps c b = false → PySem.Spec.ltCps c a = false
  | [], _, [], _, _ => rfl
  | [], [], _ :: _, _, h => h
  | [], _ :: _, _ :: _, _, _ => rfl
  | _ :: _, [], _, h, _ => nomatch h
  | _ :: _, _ :: _, [], _, h => nomatch h
  | a :: r, b :: t, c :: u, h1, h2 => by
    have h1' : (decide (b < a) || ((b == a) && PySem.Spec.ltCps t r)) = false := h1
    have h2' : (decide (c < b) || ((c == b) && PySem.Spec.ltCps u t)) = false := h2
    show (decide (c < a) || ((c == a) && PySem.Spec.ltCps u r)) = false
    simp at h1' h2' ⊢
    refine ⟨by omega, fun e => ?_⟩
    subst e
    have e2 : b = c := by omega
    subst e2
    exact cps_trans (h1'.2 rfl) (h2'.2 rfl)
theorem str_ext {a b : Str} (h : a.cps.toList = b.cps.toList) : a = b := by
  obtain ⟨⟨a⟩⟩ := a
  obtain ⟨⟨b⟩⟩ := b
  have h' : a = b := h
  rw [h']
def leS (a b : Str) : Prop := PySem.Spec.ltCps b.cps.toList a.cps.toList = false
theorem rising_leS : ∀ {d : Str} {ds : List Str}, PyProof.Rows.risingS d ds = true → (d :: ds).Pairwise leS
  | d, [], _ => List.pairwise_singleton _ _
  | d, x :: r, h => by
    have h' : (!PySem.Spec.ltCps x.cps.toList d.cps.toList && PyProof.Rows.risingS x r) = true := h
    rw [Bool.and_eq_true, Bool.not_eq_true'] at h'
    have ih := rising_leS h'.2
    refine List.pairwise_cons.mpr ⟨fun y hy => ?_, ih⟩
    rcases List.mem_cons.mp hy with e | e
    · exact e ▸ h'.1
    · exact cps_trans h'.1 ((List.pairwise_cons.mp ih).1 y e)
theorem sorted_leS : ∀ {ds : List Str}, PyProof.Rows.sortedS ds = true → ds.Pairwise leS
  | [], _ => List.Pairwise.nil
  | d :: r, h => rising_leS h
theorem leS_eq : ∀ {cs ds : List Str}, cs.Pairwise leS → ds.Pairwise leS → cs.Perm ds → cs = ds
  | [], ds, _, _, h => (List.nil_perm.mp h).symm ▸ rfl
  | c :: r, [], _, _, h => nomatch (List.perm_nil.mp h)
  | c :: r, d :: t, p, q, h => by
    have p' := List.pairwise_cons.mp p
    have q' := List.pairwise_cons.mp q
    have e : c = d := by
      rcases List.mem_cons.mp (h.mem_iff.mp List.mem_cons_self) with e | m1
      · exact e
      · rcases List.mem_cons.mp (h.mem_iff.mpr List.mem_cons_self) with e | m2
        · exact e.symm
        · exact str_ext (cps_anti (q'.1 c m1) (p'.1 d m2))
    subst e
    rw [leS_eq p'.2 q'.2 (List.Perm.cons_inv h)]
theorem sorted_eq {cs ds ks : List Str} (p1 : cs.Perm ks) (s1 : PyProof.Rows.sortedS cs = true) (p2 : ds.Perm ks) (s2 : PyProof.Rows.sortedS ds = true) : cs = ds :=
  leS_eq (sorted_leS s1) (sorted_leS s2) (p1.trans p2.symm)
/-! ### things by index, lists and tuples -/
def rIxLT (K : PySem.W.Frag) : R2 := fun x y H Q => ∃ p xs i v, x = .ref p ∧ y = .int i ∧ (SqL K H p xs ∨ SqT K H p xs) ∧ atI xs i = some v ∧ Q v H
theorem ix_lt {X : Cx} : IxR X (rIxLT X.K) := by
  intro value slice pins s σ H x y v u Q I rx ry h hs
  obtain ⟨p, xs, i, z, e1, e2, hq, he, q⟩ := h
  rcases hq with hq | hq
  · exact ix_list value slice pins s σ H x y v u Q I rx ry ⟨p, xs, i, z, e1, e2, hq, he, q⟩ hs
  · exact ix_tup value slice pins s σ H x y v u Q I rx ry ⟨p, xs, i, z, e1, e2, hq, he, q⟩ hs
/-- isinstance(v, (tuple, list)) -/
def IsSeq (K : PySem.W.Frag) (H : Hp) (v : V) (c : Bool) : Prop := ∃ t, TyX K H v t ∧ PySem.W.kitAny K t [.type "tuple", .type "list"] = some c
theorem isSeq_ty {K : PySem.W.Frag} {H : Hp} {v : V} {a : String} {x y c : Bool} (h : TyX K H v (.type a)) (h1 : kitB a "tuple" = some x) (h2 : kitB a "list" = some y) (e : c = (x || y)) : IsSeq K H v c := by
  subst e
  exact ⟨_, h, kitAny_cons (kit_ty h1) (fun q => kitAny_cons (kit_ty h2) (fun q2 => by rw [q, q2]; exact kitAny_nil) fun q2 => by rw [q2, Bool.or_true]) fun q => by rw [q, Bool.true_or]⟩
/-- a value that is no list, no tuple and no dict -/
structure Leaf (K : PySem.W.Frag) (H : Hp) (v : V) : Prop where
  seq : IsSeq K H v false
  dict : Isi K H v "dict" false
  bool : ∃ c, Isi K H v "bool" c
section
variable {K : PySem.W.Frag} {T : List Addr → Hp → Addr → Prop} {B : List Addr} {H H' : Hp} {m m' n n' : Nat} {v : V}
theorem leaf_non : Leaf K H .non := ⟨isSeq_ty (.base .non) (x := false) (y := false) (by decide) (by decide) rfl, isi_ty (.base .non) (by decide), _, isi_ty (.base .non) (r := false) (by decide)⟩
theorem leaf_bl (b : Bool) : Leaf K H (.bl b) := ⟨isSeq_ty (.base (.bl b)) (x := false) (y := false) (by decide) (by decide) rfl, isi_ty (.base (.bl b)) (by decide), _, isi_ty (.base (.bl b)) (r := true) (by decide)⟩
theorem leaf_int (b : Int) : Leaf K H (.int b) := ⟨isSeq_ty (.base (.int b)) (x := false) (y := false) (by decide) (by decide) rfl, isi_ty (.base (.int b)) (by decide), _, isi_ty (.base (.int b)) (r := false) (by decide)⟩
theorem leaf_str (b : Str) : Leaf K H (.str b) := ⟨isSeq_ty (.base (.str b)) (x := false) (y := false) (by decide) (by decide) rfl, isi_ty (.base (.str b)) (by decide), _, isi_ty (.base (.str b)) (r := false) (by decide)⟩
theorem leaf_own (O : Own K T) {a : Addr} (t : T B H a) : Leaf K H (.ref a) := by
  obtain ⟨u, hu, k⟩ := O.ty t
  exact ⟨⟨u, hu, kitAny_cons (k "tuple" (by decide)) (fun _ => kitAny_cons (k "list" (by decide)) (fun _ => kitAny_nil) fun q => Bool.noConfusion q) fun q => Bool.noConfusion q⟩, ⟨u, hu, k "dict" (by decide)⟩, _, ⟨u, hu, k "bool" (by decide)⟩⟩
end
/-- equality of a thing of one's own kind with itself -/
def rEqO (T : List Addr → Hp → Addr → Prop) : R2 := fun x y H Q => ∃ B a, x = .ref a ∧ y = .ref a ∧ T B H a ∧ ∀ H', Same H H' → Q (.bl true) H'
/-- two lists or two tuples -/
structure Seq2 (T : List Addr → Hp → Addr → Prop) (K : PySem.W.Frag) (B : List Addr) (Hv Hc H0 H : Hp) (m n : Nat) (a b : Addr) (xs ys : List V) : Prop where
  len : xs.length = ys.length
  few : xs.length ≤ m
  dat : ∀ x ∈ xs, Dat T B Hv m n x
  cop : ∀ (i : Nat) (x y : V), xs[i]? = some x → ys[i]? = some y → Cop T Hv Hc H0 n x y
  sq : ∀ H9, Same H H9 → (SqL K H9 a xs ∨ SqT K H9 a xs) ∧ (SqL K H9 b ys ∨ SqT K H9 b ys) ∧ IsSeq K H9 (.ref a) true ∧ Isi K H9 (.ref a) "dict" false ∧ Isi K H9 (.ref b) "dict" false
  ty : ∃ ct cl, ∀ H9, Same H H9 → Isi K H9 (.ref a) "tuple" ct ∧ Isi K H9 (.ref b) "tuple" ct ∧ Isi K H9 (.ref a) "list" cl ∧ Isi K H9 (.ref b) "list" cl
theorem three {K : PySem.W.Frag} {T : List Addr → Hp → Addr → Prop} (O : Own K T) {B : List Addr} {Hv Hc H0 H : Hp} {m n : Nat} {v u : V} (sb : Ob B Hv H) (d : Dat T B Hv m (n + 1) v) (cp : Cop T Hv Hc H0 (n + 1) v u) (stand : ∀ b o, Hc b = none → H0 b = some o → H b = some o) :
    (∃ a b kvs ls, v = .ref a ∧ u = .ref b ∧ a ∉ B ∧ Hv a = some (.dK kvs) ∧ Hc b = none ∧ H b = some (.dK ls) ∧ 20 * kvs.length ≤ m ∧ (kvs.map (·.1)).Nodup ∧ (∀ p ∈ kvs, ∃ s : Str, p.1 = Sum.inr s ∧ s.length ≤ m ∧ PyData.strOk s = true) ∧ ls.map (·.1) = kvs.map (·.1) ∧
      ∀ (i : Nat) (x y : Key × V), kvs[i]? = some x → ls[i]? = some y → Cop T Hv Hc H0 n x.2 y.2) ∨
    (∃ a b xs ys, v = .ref a ∧ u = .ref b ∧ Seq2 T K B Hv Hc H0 H m n a b xs ys) ∨
    (u = v ∧ ∀ H9, Same H H9 → Leaf K H9 v ∧ (scal v v = true ∨ ∃ a, v = .ref a ∧ T B H9 a)) := by
  cases d with
  | non => cases cp; exact .inr (.inr ⟨rfl, fun H9 s => ⟨leaf_non, .inl rfl⟩⟩)
  | bl b => cases cp; exact .inr (.inr ⟨rfl, fun H9 s => ⟨leaf_bl b, .inl rfl⟩⟩)
  | int b => cases cp; exact .inr (.inr ⟨rfl, fun H9 s => ⟨leaf_int b, .inl rfl⟩⟩)
  | str b => cases cp; exact .inr (.inr ⟨rfl, fun H9 s => ⟨leaf_str b, .inl rfl⟩⟩)
  | own t =>
    cases cp with
    | own _ => exact .inr (.inr ⟨rfl, fun H9 s => ⟨leaf_own O (O.mono (sb.same s) t), .inr ⟨_, rfl, O.mono (sb.same s) t⟩⟩⟩)
    | tup e => exact (O.tup t e).elim
    | lst e => exact (O.lst t e).elim
    | dic e => exact (O.dK t e).elim
  | @tup _ a xs ne e l p =>
    cases cp with
    | own t => exact (O.tup t e).elim
    | @tup _ _ b _ ys e' nb f le cs =>
      obtain rfl := tup_same e e'
      have f' := stand _ _ nb f
      refine .inr (.inl ⟨a, b, xs, ys, rfl, rfl, le, l, p, cs, fun H9 s => ?_, true, false, fun H9 s => ?_⟩)
      · have g := s _ _ (sb _ _ ne e)
        exact ⟨.inr (SqT.of g), .inr (SqT.of (s _ _ f')), isSeq_ty (.base (.tup g)) (x := true) (y := false) (by decide) (by decide) rfl, isi_ty (.base (.tup g)) (by decide), isi_ty (.base (.tup (s _ _ f'))) (by decide)⟩
      · have g := s _ _ (sb _ _ ne e)
        exact ⟨isi_ty (.base (.tup g)) (by decide), isi_ty (.base (.tup (s _ _ f'))) (by decide), isi_ty (.base (.tup g)) (by decide), isi_ty (.base (.tup (s _ _ f'))) (by decide)⟩
    | lst e' => rw [e] at e'; cases e'
    | dic e' => rw [e] at e'; cases e'
  | @lst _ a xs ne e l p =>
    cases cp with
    | own t => exact (O.lst t e).elim
    | @lst _ _ b xs' ys e' nb f le cs =>
      have ex : xs = xs' := by
        rw [e] at e'
        injection e' with e'
        injection e'
      subst ex
      have f' := stand _ _ nb f
      refine .inr (.inl ⟨a, b, xs, ys, rfl, rfl, le, l, p, cs, fun H9 s => ?_, false, true, fun H9 s => ?_⟩)
      · have g := s _ _ (sb _ _ ne e)
        exact ⟨.inl (SqL.of g), .inl (SqL.of (s _ _ f')), isSeq_ty (.base (.lst g)) (x := false) (y := true) (by decide) (by decide) rfl, isi_ty (.base (.lst g)) (by decide), isi_ty (.base (.lst (s _ _ f'))) (by decide)⟩
      · have g := s _ _ (sb _ _ ne e)
        exact ⟨isi_ty (.base (.lst g)) (by decide), isi_ty (.base (.lst (s _ _ f'))) (by decide), isi_ty (.base (.lst g)) (by decide), isi_ty (.base (.lst (s _ _ f'))) (by decide)⟩
    | tup e' => rw [e] at e'; cases e'
    | dic e' => rw [e] at e'; cases e'
  | @dic _ a kvs ne e l nd ks p =>
    cases cp with
    | own t => exact (O.dK t e).elim
    | tup e' => rw [e] at e'; cases e'
    | lst e' => rw [e] at e'; cases e'
    | @dic _ _ b kvs' ls e' nb f kk cs =>
      obtain rfl : kvs = kvs' := dK_same e e'
      exact .inl ⟨a, b, kvs, ls, rfl, rfl, ne, e, nb, stand _ _ nb f, l, nd, ks, kk, cs⟩
theorem keys_of : ∀ {kvs : List (Key × V)} {m : Nat}, (∀ p ∈ kvs, ∃ s : Str, p.1 = Sum.inr s ∧ s.length ≤ m ∧ PyData.strOk s = true) → ∃ ks : List Str, kvs.map (·.1) = ks.map Sum.inr ∧ ks.length = kvs.length ∧ ∀ k ∈ ks, PyData.strOk k = true
  | [], _, _ => ⟨[], rfl, rfl, fun k h => nomatch h⟩
  | p :: r, m, h => by
    obtain ⟨s, e, _, o⟩ := h p List.mem_cons_self
    obtain ⟨ks, e2, l, o2⟩ := keys_of (m := m) fun q hq => h q (List.mem_cons_of_mem _ hq)
    refine ⟨s :: ks, by rw [List.map_cons, List.map_cons, e, e2], by rw [List.length_cons, List.length_cons, l], fun k hk => ?_⟩
    rcases List.mem_cons.mp hk with z | z
    · exact z ▸ o
    · exact o2 k z
def spSame (T : List Addr → Hp → Addr → Prop) (n : Nat) : Sp := fun vs H Q _ => ∃ (v u : V) (B : List Addr) (Hv Hc H0 : Hp) (m : Nat), vs = [v, u] ∧ Ob B Hv H ∧ m ≤ 1000 ∧ Dat T B Hv m n v ∧ Cop T Hv Hc H0 n v u ∧
  (∀ b o, Hc b = none → H0 b = some o → H b = some o) ∧ (∀ b, Hc b = none → Hv b = none) ∧ ∀ H', Same H H' → Q (.bl true) H'
section
variable {P : Program} {w : World} {K : PySem.W.Frag} {mg : Str → Option Value} {base : Heap} {T : List Addr → Hp → Addr → Prop} {fI fL : Addr}
abbrev nSame : List Str := ["one", "other", "key", "k"]
theorem scSame : FnScope nSame ["one", "other"] (defScope sSame) := ⟨rfl, rfl, rfl, by decide +kernel, rfl, by decide +kernel, by decide +kernel⟩
theorem ok_same (O : Own K T) {f : Addr} {fd : FuncData} (F : Fun K "_law_same" "_law_same" sSame f fd) (X : WTxt mg fI fL) (mli : mg "list" = none) (msor : mg "sorted" = none) (mc : mg "_law_same" = some (.ref f)) (b : Binds K fd ["one", "other"] [])
    (hO : ∀ X : Cx, X.prog = P → X.w = w → X.K = K → X.mg = mg → X.base = base → Room 2 X.A → OpR X (compareOp .Eq) (rEqO T)) :
    ∀ n, FnOk P w K mg base CX0 (n + 3) f fd ["one", "other"] (spSame T n)
  | 0 => by
    refine F.ok scSame (fun vs H Q E h => ?_) (fun cdv A outer s H vs Q E hr h => ?_)
    · obtain ⟨v, u, B, Hv, Hc, H0, m, rfl, _⟩ := h
      rfl
    · obtain ⟨v, u, B, Hv, Hc, H0, m, rfl, sb, hm, d, _⟩ := h
      cases d
  | n + 1 => by
    have G : FnOk P w K mg base CX0 (n + 3) f fd ["one", "other"] (spSame T n) := ok_same O F X mli msor mc b hO n
    refine F.ok scSame (fun vs H Q E h => ?_) (fun cdv A outer s H vs Q E hr h => ?_)
    · obtain ⟨v, u, B, Hv, Hc, H0, m, rfl, _⟩ := h
      rfl
    · obtain ⟨v, u, B, Hv, Hc, H0, m, rfl, sb, hm, d, cp, stand, new, k⟩ := h
      have hr0 : Room 2 _ := hr.mono (by omega)
      refine ⟨_, pss_cons (ps_if (PW.pt (pw_or (pt_val (pe_isi (N := "dict") (pv 0) X.isin X.dict)) (pw_or1 (pt_val (pe_isi (N := "dict") (pv 1) X.isin X.dict)))))
          (pss_cons (ps_if (PW.pt (pw_or (pt_not (pt_val (pe_isi (N := "dict") (pv 0) X.isin X.dict))) (pw_or (pt_not (pt_val (pe_isi (N := "dict") (pv 1) X.isin X.dict)))
              (pw_or1 (pt_cmpR (op_neD hr.units) (pe_callB (call_sortedD rfl) (by rfl) msor (by decide +kernel) (pa_cons (pv 0) pa_nil)) (pe_callB (call_sortedD rfl) (by rfl) msor (by decide +kernel) (pa_cons (pv 1) pa_nil)) (nomark _)))))) (pss_one (ps_ret pe_bl)) pss_nil)
          (pss_one (ps_ret (pe_callB (cr_all rfl) (by rfl) X.all (by decide +kernel) (pa_cons (pe_lock (pe_lc (own := [("key", 2)]) (g := gName 2) (tt := tYes) rfl scSame.nd (pi_keys (pv 0))
            (blkOk_by (N := nSame) (sc := defScope sSame) (by decide +kernel)) (fun _ _ _ _ _ => pg_name (i := 2) scSame.nd rfl (Or.inl rfl)) (fun _ _ _ _ _ => pts_nil)
            (fun _ _ _ _ _ => pe_call G hr rfl mc F.kp b .nil pass0 (pa_cons (pe_dget (hu_of hr) (pv 0) (pv 2) (fun _ _ => rfl)) (pa_cons (pe_dget (hu_of hr) (pv 1) (pv 2) (fun _ _ => rfl)) pa_nil))))) pa_nil))))) pss_nil)
        (pss_cons (ps_if (PW.pt (pw_or (pt_val (pe_callB call_isiT (by rfl) X.isin (by decide +kernel) (pa_cons (pv 0) (pa_cons (pe_tup (pa_cons (pe_bltn (v := .ty "tuple") (by rfl) X.tup (by decide +kernel) rfl) (pa_cons (pe_bltn (v := .ty "list") (by rfl) mli (by decide +kernel) rfl) pa_nil))) pa_nil))))
            (pw_or1 (pt_val (pe_callB call_isiT (by rfl) X.isin (by decide +kernel) (pa_cons (pv 1) (pa_cons (pe_tup (pa_cons (pe_bltn (v := .ty "tuple") (by rfl) X.tup (by decide +kernel) rfl) (pa_cons (pe_bltn (v := .ty "list") (by rfl) mli (by decide +kernel) rfl) pa_nil))) pa_nil)))))))
          (pss_cons (ps_if (PW.pt (pw_or (pt_cmpR op_ne (pe_isi (N := "tuple") (pv 0) X.isin X.tup) (pe_isi (N := "tuple") (pv 1) X.isin X.tup) (nomark _)) (pw_or1 (pt_cmpR op_ne (pe_isi (N := "list") (pv 0) X.isin mli) (pe_isi (N := "list") (pv 1) X.isin mli) (nomark _))))) (pss_one (ps_ret pe_bl)) pss_nil)
          (pss_one (ps_ret (pe_and (pe_cmpR op_eq (pe_callB call_len_seq (by rfl) X.len PySem.boot_len (pa_cons (pv 0) pa_nil)) (pe_callB call_len_seq (by rfl) X.len PySem.boot_len (pa_cons (pv 1) pa_nil)) (nomark _))
            (pe_one (pe_callB (cr_all rfl) (by rfl) X.all (by decide +kernel) (pa_cons (pe_lc (own := [("k", 3)]) (g := gName 3) (tt := tYes) rfl scSame.nd
            (pi_range1 rfl X.range (pa_cons (pe_callB call_len_seq (by rfl) X.len PySem.boot_len (pa_cons (pv 0) pa_nil)) pa_nil))
            (blkOk_by (N := nSame) (sc := defScope sSame) (by decide +kernel)) (fun _ _ _ _ _ => pg_name (i := 3) scSame.nd rfl (Or.inl rfl)) (fun _ _ _ _ _ => pts_nil)
            (fun _ _ _ _ _ => pe_call G hr rfl mc F.kp b .nil pass0 (pa_cons (pe_ix (r := rIxLT K) ix_lt (pv 0) (pv 3) (fun _ _ => rfl)) (pa_cons (pe_ix (r := rIxLT K) ix_lt (pv 1) (pv 3) (fun _ _ => rfl)) pa_nil)))) pa_nil))))))) pss_nil)
        (pss_cons (ps_if (PW.pt (pw_or (pt_cmp (pc_isN (pv 0)) rfl) (pw_or1 (pt_cmp (pc_isN (pv 1)) rfl)))) (pss_one (ps_ret (pe_and (pe_cmp (pc_isN (pv 0)) rfl) (pe_one (pe_cmp (pc_isN (pv 1)) rfl))))) pss_nil)
        (pss_one (ps_ret (pe_and (pe_cmpR op_eq (pe_isi (N := "bool") (pv 0) X.isin X.bool) (pe_isi (N := "bool") (pv 1) X.isin X.bool) (nomark _)) (pe_one (pe_cmpR (op_eq.or (hO _ rfl rfl rfl rfl rfl hr0)) (pv 0) (pv 1) (nomark _)))))))), ?_⟩
      rcases three O sb d cp stand with ⟨a, b', kvs, ls, rfl, rfl, na, e0, nb, f1, hl, nd, hks, kk, cs⟩ | ⟨a, b', xs, ys, rfl, rfl, S⟩ | ⟨rfl, lf⟩
      · have e1 := sb _ _ na e0
        have nab : b' ≠ a := fun q => by
          have := new _ nb
          rw [q, e0] at this
          cases this
        obtain ⟨ks, ek, lk, ok⟩ := keys_of hks
        have i1 : ∀ {H9 : Hp}, Same H H9 → Isi K H9 (.ref a) "dict" true := fun s => isi_ty (.base (.dK (s _ _ e1))) (by decide)
        have i2 : ∀ {H9 : Hp}, Same H H9 → Isi K H9 (.ref b') "dict" true := fun s => isi_ty (.base (.dK (s _ _ f1))) (by decide)
        refine ⟨_, rfl, _, i1 (Same.refl _), _, rfl, iteT (iteT ⟨_, rfl, _, i1 (Same.refl _), _, rfl, iteF ⟨_, rfl, _, i2 (Same.refl _), _, rfl, iteF ?_⟩⟩)⟩
        refine ⟨_, rfl, a, kvs, ks, rfl, .inl e1, ek, by omega, fun ys1 p1 pm1 st1 hp1 => ?_⟩
        have s1 : Same H (upd H p1 (.lst (ys1.map V.str))) := fun b o e => by
          rw [upd_ne (ne_of_none e hp1)]
          exact e
        have g1 : (upd H p1 (.lst (ys1.map V.str))) p1 = some (.lst (ys1.map V.str)) := upd_same
        generalize upd H p1 (.lst (ys1.map V.str)) = H1 at s1 g1
        refine ⟨_, rfl, b', ls, ks, rfl, .inl (s1 _ _ f1), kk.trans ek, by omega, fun ys2 p2 pm2 st2 hp2 => ?_⟩
        have s2 : Same H1 (upd H1 p2 (.lst (ys2.map V.str))) := fun b o e => by
          rw [upd_ne (ne_of_none e hp2)]
          exact e
        have g2 : (upd H1 p2 (.lst (ys2.map V.str))) p2 = some (.lst (ys2.map V.str)) := upd_same
        generalize upd H1 p2 (.lst (ys2.map V.str)) = H2 at s2 g2
        have s12 := s1.trans s2
        obtain rfl : ys1 = ys2 := sorted_eq pm1 st1 pm2 st2
        have oky : ∀ y ∈ ys1, PyData.strOk y = true := fun y hy => ok y (pm1.mem_iff.mp hy)
        refine ⟨_, _, dp_strs (SqL.of (s2 _ _ g1)), dp_strs (SqL.of g2), shaped_strs oky, shaped_strs oky, _, rfl, ?_⟩
        rw [show PyData.eqv (.list (ys1.map PyData.str)) (.list (ys1.map PyData.str)) = true from (eqv_strs ys1 ys1).trans (decide_eq_true rfl)]
        refine iteF ?_
        have e2 := s12 _ _ e1
        have f2 := s12 _ _ f1
        refine ⟨a, _, e2, True.intro, fun od => ?_⟩
        have kid := Dat.kids O e0 _ d
        have sf : Ob (a :: B) Hv (upd H2 a (.frz od (.dK kvs))) := fun b o nb e => by
          have q : b ≠ a ∧ b ∉ B := by simpa using nb
          rw [upd_ne q.1]
          exact s12 _ _ (sb _ _ q.2 e)
        have h1 : (upd H2 a (.frz od (.dK kvs))) a = some (.frz od (.dK kvs)) := upd_same
        have f3 : (upd H2 a (.frz od (.dK kvs))) b' = some (.dK ls) := (upd_ne nab).trans f2
        have stf : ∀ b o, Hc b = none → H0 b = some o → (upd H2 a (.frz od (.dK kvs))) b = some o := fun b o hb e => by
          have q : b ≠ a := fun z => by
            have := new _ hb
            rw [z, e0] at this
            cases this
          rw [upd_ne q]
          exact s12 _ _ (stand _ _ hb e)
        have un2 : ∀ {H9 : Hp}, Same (upd H2 a (.frz od (.dK kvs))) H9 → Same H (upd H9 a (.dK kvs)) := fun s1 b o e => by
          by_cases q : b = a
          · subst q
            rw [e1] at e
            rw [upd_same]
            exact e
          · rw [upd_ne q]
            refine s1 _ _ ?_
            rw [upd_ne q]
            exact s12 _ _ e
        generalize upd H2 a (.frz od (.dK kvs)) = Hf at sf h1 f3 stf un2
        refine ⟨_, rfl, a, od, rfl, .inl ⟨kvs, h1, fun D hD => ?_⟩⟩
        refine lc_bools (walk_keys (kvs := kvs) (d := a) (o := od)) (fun i => True) hD (by omega) (fun H s => s _ _ h1) ?_ ?_
        · rintro i x H3 H' kk' hi s3 ⟨rfl, ky, vy, hx, rfl⟩ h
          have hmem := List.mem_of_getElem? hx
          have ndl : (ls.map (·.1)).Nodup := kk ▸ nd
          obtain ⟨uy, hy⟩ : ∃ uy, ls[i]? = some (ky, uy) := by
            have q : (ls.map (·.1))[i]? = some ky := by rw [kk, List.getElem?_map, hx]; rfl
            rw [List.getElem?_map] at q
            cases hl2 : ls[i]? with
            | none => rw [hl2] at q; cases q
            | some z =>
              rw [hl2] at q
              obtain ⟨z1, z2⟩ := z
              cases q
              exact ⟨z2, rfl⟩
          refine ⟨rfl, _, rfl, _, rfl, a, vy, rfl, ?_, _, rfl, _, rfl, b', uy, rfl, ?_, vy, uy, a :: B, Hv, Hc, H0, m, rfl, sf.same s3, hm, kid _ hmem, cs i _ _ hx hy, fun b o hb e => s3 _ _ (stf b o hb e), new, fun H4 s4 => h true H4 s4 (yea trivial)⟩
          · rw [← val_at nd hx]
            exact .inl ⟨kvs, ky, .inr ⟨od, s3 _ _ h1⟩, rfl, rfl⟩
          · rw [← val_at ndl hy]
            exact .inl ⟨ls, ky, .inl (s3 _ _ f3), rfl, rfl⟩
        · rintro H3 bs s3 hD3 hb
          have nDa : D ≠ a := fun q => by
            rw [q, h1] at hD
            cases hD
          have hb' : bs.all id = true := hb.mpr fun _ _ => trivial
          refine ⟨s3 _ _ h1, D, bs, rfl, SqL.of ((upd_ne nDa).trans hD3), ?_⟩
          rw [hb']
          exact k _ (un2 s3)
      · obtain ⟨ct, cl, ty⟩ := S.ty
        have z0 := S.sq _ (Same.refl _)
        refine ⟨_, rfl, _, z0.2.2.2.1, _, rfl, iteF ⟨_, rfl, _, z0.2.2.2.2, _, rfl, iteF ?_⟩⟩
        refine ⟨_, rfl, (by show 2 ≤ sizeLine; decide), fun p hp => ?_⟩
        have s1 : Same H (upd H p (.tup [.ty "tuple", .ty "list"])) := fun b o e => by
          rw [upd_ne (ne_of_none e hp)]
          exact e
        have g1 : (upd H p (.tup [.ty "tuple", .ty "list"])) p = some (.tup [.ty "tuple", .ty "list"]) := upd_same
        generalize upd H p (.tup [.ty "tuple", .ty "list"]) = H1 at s1 g1
        have z1 := S.sq _ s1
        obtain ⟨t, ht, kt⟩ := z1.2.2.1
        obtain ⟨t1, t2, t3, t4⟩ := ty _ s1
        refine ⟨_, p, _, t, _, true, rfl, g1, .cons (.ty _) (.cons (.ty _) .nil), ht, kt, _, rfl, iteT (iteT ⟨_, rfl, _, t1, _, rfl, _, t2, ?_, _, rfl, ?_⟩)⟩
        · cases ct <;> rfl
        rw [show decide (V.bl ct = V.bl ct) = true from decide_eq_true rfl]
        refine iteF ⟨_, rfl, _, t3, _, rfl, _, t4, ?_, _, rfl, ?_⟩
        · cases cl <;> rfl
        rw [show decide (V.bl cl = V.bl cl) = true from decide_eq_true rfl]
        refine iteF ⟨_, rfl, a, xs, rfl, z1.1, _, rfl, b', ys, rfl, z1.2.1, rfl, _, rfl, ?_⟩
        rw [show decide (V.int (xs.length : Int) = V.int (ys.length : Int)) = true from decide_eq_true (by rw [S.len])]
        have few := S.few
        refine iteT ⟨_, rfl, a, xs, rfl, z1.1, _, rfl, by omega, by omega, fun D hD => ?_⟩
        have en : (xs.length : Int).toNat = xs.length := Int.toNat_natCast _
        refine lc_bools (walk_range (n := (xs.length : Int).toNat)) (fun i => True) hD (by omega) (fun _ _ => trivial) ?_ ?_
        · rintro i x H3 H' kk' hi s3 ⟨rfl, rfl⟩ h
          have s13 := s1.trans s3
          have z3 := S.sq _ s13
          have hi1 : i < xs.length := by omega
          have hi2 : i < ys.length := S.len ▸ hi1
          have g1' : atI xs (0 + (i : Int)) = some xs[i] := at_nn (by omega) (by rw [show (0 + (i : Int)).toNat = i by omega]; exact List.getElem?_eq_getElem hi1)
          have g2' : atI ys (0 + (i : Int)) = some ys[i] := at_nn (by omega) (by rw [show (0 + (i : Int)).toNat = i by omega]; exact List.getElem?_eq_getElem hi2)
          exact ⟨rfl, _, rfl, _, rfl, a, xs, _, _, rfl, rfl, z3.1, g1', _, rfl, _, rfl, b', ys, _, _, rfl, rfl, z3.2.1, g2', xs[i], ys[i], B, Hv, Hc, H0, m, rfl, sb.same s13, hm, S.dat _ (List.getElem_mem hi1),
            S.cop i _ _ (List.getElem?_eq_getElem hi1) (List.getElem?_eq_getElem hi2), fun b o hb e => s13 _ _ (stand b o hb e), new, fun H4 s4 => h true H4 s4 (yea trivial)⟩
        · rintro H3 bs s3 hD3 hb
          have hb' : bs.all id = true := hb.mpr fun _ _ => trivial
          refine ⟨D, bs, rfl, SqL.of hD3, ?_⟩
          rw [hb']
          exact k _ (s1.trans s3)
      · have l0 := (lf _ (Same.refl _)).1
        refine ⟨_, rfl, _, l0.dict, _, rfl, iteF ⟨_, rfl, _, l0.dict, _, rfl, iteF ?_⟩⟩
        refine ⟨_, rfl, (by show 2 ≤ sizeLine; decide), fun p hp => ?_⟩
        have s1 : Same H (upd H p (.tup [.ty "tuple", .ty "list"])) := fun b o e => by
          rw [upd_ne (ne_of_none e hp)]
          exact e
        have g1 : (upd H p (.tup [.ty "tuple", .ty "list"])) p = some (.tup [.ty "tuple", .ty "list"]) := upd_same
        generalize upd H p (.tup [.ty "tuple", .ty "list"]) = H1 at s1 g1
        obtain ⟨t, ht, kt⟩ := (lf _ s1).1.seq
        refine ⟨_, p, _, t, _, false, rfl, g1, .cons (.ty _) (.cons (.ty _) .nil), ht, kt, _, rfl, iteF ⟨_, rfl, (by show 2 ≤ sizeLine; decide), fun q hq => ?_⟩⟩
        have s2 : Same H1 (upd H1 q (.tup [.ty "tuple", .ty "list"])) := fun b o e => by
          rw [upd_ne (ne_of_none e hq)]
          exact e
        have g2 : (upd H1 q (.tup [.ty "tuple", .ty "list"])) q = some (.tup [.ty "tuple", .ty "list"]) := upd_same
        generalize upd H1 q (.tup [.ty "tuple", .ty "list"]) = H2 at s2 g2
        have s12 := s1.trans s2
        obtain ⟨t', ht', kt'⟩ := (lf _ s12).1.seq
        refine ⟨_, q, _, t', _, false, rfl, g2, .cons (.ty _) (.cons (.ty _) .nil), ht', kt', _, rfl, iteF ⟨_, rfl, _, rfl, ?_⟩⟩
        obtain ⟨l2, eq2⟩ := lf _ s12
        obtain ⟨c, hc⟩ := l2.bool
        refine ite2 (fun e => ?_) (fun e => ?_)
        · refine iteT ⟨_, rfl, _, rfl, ?_⟩
          rw [if_pos e]
          refine ⟨_, rfl, ?_⟩
          show Q (.bl (decide (u = V.non))) H2
          rw [e]
          exact k _ s12
        · refine ⟨_, rfl, _, rfl, ?_⟩
          refine ite2 (fun e2 => (e e2).elim) (fun _ => ?_)
          refine ⟨_, rfl, _, hc, _, rfl, _, hc, ?_, _, rfl, ?_⟩
          · cases c <;> rfl
          rw [show decide (V.bl c = V.bl c) = true from decide_eq_true rfl]
          refine iteT ⟨_, rfl, _, rfl, ?_⟩
          rcases eq2 with q | ⟨a, rfl, q⟩
          · refine .inl ⟨q, ?_⟩
            rw [decide_eq_true rfl]
            exact k _ s12
          · exact .inr ⟨B, a, rfl, rfl, q, fun H9 s9 => k _ (s12.trans s9)⟩
end
end Wd

set_option Elab.async false
set_option linter.all false
set_option maxRecDepth 100000
set_option maxHeartbeats 4000000
namespace Wd
open PySem L2
/-! ### numbers -/
theorem op_powB {X : Cx} : OpR X (binaryOp .Pow) (rI (fun i j => 0 ≤ j ∧ (Builtin.Int.intBits i : Int) * j ≤ 2 ^ 27) fun i j => .int (i ^ j.toNat)) :=
  opI fun _ _ _ _ _ _ _ hc q => PyProof.Rows.pow_int hc.1 hc.2 q
abbrev ten61 : Int := 10 ^ 61
theorem ten61_pos : (0 : Int) < ten61 := by decide +kernel
theorem ten61_log : ten61.natAbs.log2 < 9000 := by decide +kernel
theorem great_pos : (0 : Int) < (10 ^ (60 : Int).toNat) ^ (10 : Int).toNat := by decide +kernel
theorem great_bits : (Builtin.Int.intBits (10 ^ (60 : Int).toNat) : Int) * 10 ≤ 2 ^ 27 := by decide +kernel
theorem log_of {t : Int} (h0 : 0 < t) (h : t ≤ ten61) : t.natAbs.log2 < 9000 := by
  have e : t.natAbs ≤ ten61.natAbs := by omega
  have z : t.natAbs ≠ 0 := by omega
  refine Nat.lt_of_le_of_lt ?_ ten61_log
  exact (Nat.le_log2 (by decide +kernel)).mpr (Nat.le_trans (Nat.log2_self_le z) e)
theorem modA (i : Int) : -(2 ^ 64) < i % 2305843009213693951 ∧ i % 2305843009213693951 < 2 ^ 64 := by omega
theorem modB (i : Int) : -(2 ^ 64) < i % 2305843009213693921 ∧ i % 2305843009213693921 < 2 ^ 64 := by omega
/-! ### the bag -/
/-- all but the object at B is as it was -/
def SB (B : Addr) (H H' : Hp) : Prop := ∀ b o, b ≠ B → H b = some o → H' b = some o
def BagAt (H : Hp) (B : Addr) : Prop := ∃ x y z : Int, H B = some (.lst [.int x, .int y, .int z])
theorem SB.refl (B : Addr) (H : Hp) : SB B H H := fun _ _ _ h => h
theorem SB.trans {B : Addr} {H H1 H2 : Hp} (a : SB B H H1) (b : SB B H1 H2) : SB B H H2 := fun c o n h => b c o n (a c o n h)
theorem SB.upd {B : Addr} {H H1 : Hp} {o : HO} (a : SB B H H1) : SB B H (upd H1 B o) := fun c u n h => by
  rw [upd_ne n]
  exact a c u n h
theorem SB.new {B p : Addr} {H H1 : Hp} {o : HO} (a : SB B H H1) (hp : H1 p = none) : SB B H (L2.upd H1 p o) := fun c u n h => by
  have z := a c u n h
  rw [upd_ne (ne_of_none z hp)]
  exact z
theorem SB.of {B : Addr} {H H' : Hp} (a : Same H H') : SB B H H' := fun b o _ h => a b o h
/-- the object p, new since H, is changed -/
theorem SB.own {B p : Addr} {H H1 : Hp} {o : HO} (a : SB B H H1) (hp : H p = none) : SB B H (L2.upd H1 p o) := fun c u n h => by
  rw [upd_ne (ne_of_none h hp)]
  exact a c u n h
theorem BagAt.new {B p : Addr} {H : Hp} {o : HO} (a : BagAt H B) (hp : H p = none) : BagAt (upd H p o) B := by
  obtain ⟨x, y, z, h⟩ := a
  exact ⟨x, y, z, by rw [upd_ne (ne_of_none h hp)]; exact h⟩
theorem BagAt.other {B p : Addr} {H : Hp} {o : HO} (a : BagAt H B) (hp : B ≠ p) : BagAt (upd H p o) B := by
  obtain ⟨x, y, z, h⟩ := a
  exact ⟨x, y, z, by rw [upd_ne hp]; exact h⟩
theorem BagAt.nn {B : Addr} {H : Hp} (a : BagAt H B) : H B ≠ none := by
  obtain ⟨x, y, z, h⟩ := a
  rw [h]
  exact fun q => nomatch q
theorem BagAt.ne {B p : Addr} {H : Hp} (a : BagAt H B) (hp : H p = none) : p ≠ B := fun e => a.nn (by rw [← e]; exact hp)
/-! ### promises -/
def spStart (K : PySem.W.Frag) : Sp := fun vs H Q _ => ∃ (a : Addr) (ns : List Int), ∃ at_ : Nat, vs = [.ref a, .int (at_ : Int)] ∧ SqL K H a (ns.map V.int) ∧
  ∀ H' B, Same H H' → H B = none → BagAt H' B → Q (.ref B) H'
def spThrow : Sp := fun vs H Q _ => ∃ (B : Addr) (t : Int), vs = [.ref B, .int t] ∧ BagAt H B ∧ 0 < t ∧ t ≤ ten61 ∧
  ∀ r H', 0 ≤ r → r < t → SB B H H' → BagAt H' B → Q (.int r) H'
def spPickS : Sp := fun vs H Q _ => ∃ (B : Addr) (z : Str), vs = [.ref B, .str z] ∧ BagAt H B ∧ 0 < z.length ∧ z.length ≤ 100 ∧
  ∀ c H', c ∈ z.cps.toList → SB B H H' → BagAt H' B → Q (.str ⟨#[c]⟩) H'
def spPickL : Sp := fun vs H Q _ => ∃ (B L : Addr) (ys : List V), vs = [.ref B, .ref L] ∧ BagAt H B ∧ B ≠ L ∧ H L = some (.lst ys) ∧ 0 < ys.length ∧ ys.length ≤ 100 ∧
  ∀ y H', y ∈ ys → SB B H H' → BagAt H' B → Q y H'
def spValue : Sp := fun vs H Q _ => ∃ B : Addr, vs = [.ref B] ∧ BagAt H B ∧ ∀ i H', SB B H H' → BagAt H' B → Q (.int i) H'
structure TxtA (mg : Str → Option Value) (fT : Addr) : Prop where
  len : mg "len" = none
  int : mg "int" = none
  abs : mg "abs" = none
  max : mg "max" = none
  thr : mg "_law_throw" = some (.ref fT)
section
variable {P : Program} {w : World} {K : PySem.W.Frag} {mg : Str → Option Value} {base : Heap} {fT : Addr}
theorem scStart : FnScope ["script", "at", "cell", "great", "mixed"] ["script", "at"] (defScope sStart) := ⟨rfl, rfl, rfl, by decide +kernel, rfl, by decide +kernel, by decide +kernel⟩
theorem ok_start {f : Addr} {fd : FuncData} (F : Fun K "_law_start" "_law_start" sStart f fd) (T : TxtA mg fT) : FnOk P w K mg base CX0 1 f fd ["script", "at"] (spStart K) := by
  refine F.ok scStart (fun vs H Q E h => ?_) (fun cdv A outer s H vs Q E hr h => ?_)
  · obtain ⟨a, ns, at_, rfl, _⟩ := h
    rfl
  · obtain ⟨a, ns, at_, rfl, hS, k⟩ := h
    refine ⟨_, pss_cons (ps_set (i := 2) scStart.nd rfl (Or.inl rfl) (pe_ifExp (pt_cmpR op_lt (pv 1) (pe_callB call_len_seq (by rfl) T.len PySem.boot_len (pa_cons (pv 0) pa_nil)) (nomark _))
        (pe_ix ix_list (pv 0) (pv 1) (fun _ _ => rfl)) (pe_op op_add (pe_op op_mul pe_int (pv 1)) pe_int)))
      (pss_cons (ps_set (i := 3) scStart.nd rfl (Or.inl rfl) (pe_op op_mod (pe_callTy call_int1 (by rfl) T.int (by decide +kernel) (pa_cons (pe_callB call_abs (by rfl) T.abs (by decide +kernel) (pa_cons (pv 2) pa_nil)) pa_nil))
        (pe_op op_powB (pe_op op_pow pe_int pe_int) pe_int)))
      (pss_cons (ps_set (i := 4) scStart.nd rfl (Or.inl rfl) (pe_op op_add (pe_op op_mul (pe_op op_mod (pe_callTy call_int1 (by rfl) T.int (by decide +kernel) (pa_cons (pv 3) pa_nil)) pe_int) pe_int)
        (pe_callTy call_int1 (by rfl) T.int (by decide +kernel) (pa_cons (pe_cmpR op_lt (pv 2) pe_int (nomark _)) pa_nil))))
      (pss_one (ps_ret (pe_lst (pa_cons (pe_callB (call_max2 rfl) (by rfl) T.max (by decide +kernel) (pa_cons pe_int (pa_cons (pe_op op_sub (pv 3) (pe_op op_pow pe_int pe_int)) pa_nil)))
        (pa_cons (pe_op op_mod (pe_callTy call_int1 (by rfl) T.int (by decide +kernel) (pa_cons (pe_op op_add (pe_op op_add (pe_op op_mul (pv 4) pe_int) (pe_op op_mul pe_int (pv 1))) pe_int) pa_nil)) pe_int)
        (pa_cons pe_int pa_nil)))))))), ?_⟩
    refine ⟨_, rfl, _, rfl, a, _, rfl, .inl hS, _, _, rfl, rfl, _, rfl, ?_⟩
    refine ite2 (fun c => ?_) (fun _ => ?_)
    · obtain ⟨n0, hn⟩ : ∃ n0 : Int, (ns.map V.int)[at_]? = some (V.int n0) := by
        have c' := of_decide_eq_true c
        have c2 : at_ < (ns.map V.int).length := by omega
        rw [List.length_map] at c2
        exact ⟨ns[at_], by rw [List.getElem?_map, List.getElem?_eq_getElem c2]; rfl⟩
      refine ⟨_, rfl, _, rfl, a, _, _, _, rfl, rfl, hS, atI_nat (j := at_) hn, ?_⟩
      refine ⟨_, rfl, _, rfl, .inl ⟨_, rfl, _, _, rfl, rfl, ⟨by decide, by decide, by decide⟩, _, _, rfl, rfl, ⟨by decide, great_bits⟩, _, _, rfl, rfl, great_pos, ?_⟩⟩
      refine ⟨_, rfl, .inl ⟨_, rfl, _, _, rfl, rfl, (by show (0 : Int) < _; decide), _, _, rfl, rfl, .inr ⟨by decide, by decide⟩, _, rfl, _, _, rfl, rfl, .inr ⟨_, rfl, _, _, rfl, rfl, ?_⟩⟩⟩
      refine ⟨_, rfl, _, _, rfl, rfl, ⟨by decide, by decide, by decide⟩, _, _, rfl, rfl, _, _, rfl, _, rfl, _, _, rfl, rfl, .inr ⟨by decide, by decide⟩, _, rfl, _, _, rfl, rfl, .inl ⟨by decide, by decide⟩, _, _, rfl, rfl, _, _, rfl, rfl,
        .inl ⟨_, rfl, _, _, rfl, rfl, (by show (0 : Int) < _; decide), (by show 3 ≤ sizeLine; decide), fun l hl => ?_⟩⟩
      exact k _ l (fun b o e => by rw [upd_ne (ne_of_none e hl)]; exact e) hl ⟨_, _, _, upd_same⟩
    · refine ⟨_, rfl, _, _, rfl, rfl, .inl ⟨by decide, by decide⟩, _, _, rfl, rfl, ?_⟩
      refine ⟨_, rfl, _, rfl, .inl ⟨_, rfl, _, _, rfl, rfl, ⟨by decide, by decide, by decide⟩, _, _, rfl, rfl, ⟨by decide, great_bits⟩, _, _, rfl, rfl, great_pos, ?_⟩⟩
      refine ⟨_, rfl, .inl ⟨_, rfl, _, _, rfl, rfl, (by show (0 : Int) < _; decide), _, _, rfl, rfl, .inr ⟨by decide, by decide⟩, _, rfl, _, _, rfl, rfl, .inr ⟨_, rfl, _, _, rfl, rfl, ?_⟩⟩⟩
      refine ⟨_, rfl, _, _, rfl, rfl, ⟨by decide, by decide, by decide⟩, _, _, rfl, rfl, _, _, rfl, _, rfl, _, _, rfl, rfl, .inr ⟨by decide, by decide⟩, _, rfl, _, _, rfl, rfl, .inl ⟨by decide, by decide⟩, _, _, rfl, rfl, _, _, rfl, rfl,
        .inl ⟨_, rfl, _, _, rfl, rfl, (by show (0 : Int) < _; decide), (by show 3 ≤ sizeLine; decide), fun l hl => ?_⟩⟩
      exact k _ l (fun b o e => by rw [upd_ne (ne_of_none e hl)]; exact e) hl ⟨_, _, _, upd_same⟩
theorem scThrow : FnScope ["bag", "total", "found", "one", "two", "three"] ["bag", "total"] (defScope sThrow) := ⟨rfl, rfl, rfl, by decide +kernel, rfl, by decide +kernel, by decide +kernel⟩
theorem ok_throw {f : Addr} {fd : FuncData} (F : Fun K "_law_throw" "_law_throw" sThrow f fd) (T : TxtA mg fT) : FnOk P w K mg base CX0 1 f fd ["bag", "total"] spThrow := by
  refine F.ok scThrow (fun vs H Q E h => ?_) (fun cdv A outer s H vs Q E hr h => ?_)
  · obtain ⟨B, t, rfl, _⟩ := h
    rfl
  · obtain ⟨B, t, rfl, ⟨x, y, z, hB⟩, h0, ht, k⟩ := h
    refine ⟨_, pss_cons (ps_if (pt_cmpR op_gt (pe_ix ix_list (pv 0) pe_int (fun _ _ => rfl)) pe_int (nomark _))
        (pss_cons (ps_set (i := 2) scThrow.nd rfl (Or.inl rfl) (pe_op op_mod (pe_callTy call_int1 (by rfl) T.int (by decide +kernel) (pa_cons (pe_ix ix_list (pv 0) pe_int (fun _ _ => rfl)) pa_nil)) (pv 1)))
        (pss_cons (ps_asg (pe_op op_fdivW (pe_ix ix_list (pv 0) pe_int (fun _ _ => rfl)) (pv 1)) (pg_sub (pv 0) pe_int set_list))
        (pss_one (ps_ret (pv 2))))) pss_nil)
      (pss_cons (ps_asg (pe_op op_add (pe_ix ix_list (pv 0) pe_int (fun _ _ => rfl)) pe_int) (pg_sub (pv 0) pe_int set_list))
      (pss_cons (ps_set (i := 3) scThrow.nd rfl (Or.inl rfl) (pe_op op_mod (pe_callTy call_int1 (by rfl) T.int (by decide +kernel) (pa_cons (pe_op op_add (pe_ix ix_list (pv 0) pe_int (fun _ _ => rfl)) (pe_op op_mul pe_int (pe_ix ix_list (pv 0) pe_int (fun _ _ => rfl)))) pa_nil)) pe_int))
      (pss_cons (ps_set (i := 4) scThrow.nd rfl (Or.inl rfl) (pe_op op_mod (pe_callTy call_int1 (by rfl) T.int (by decide +kernel) (pa_cons (pe_op op_add (pe_op op_mul (pv 3) (pv 3)) (pe_op op_mul pe_int (pe_ix ix_list (pv 0) pe_int (fun _ _ => rfl)))) pa_nil)) pe_int))
      (pss_cons (ps_set (i := 5) scThrow.nd rfl (Or.inl rfl) (pe_op op_mod (pe_callTy call_int1 (by rfl) T.int (by decide +kernel) (pa_cons (pe_op op_add (pe_op op_mul (pv 4) (pv 3)) pe_int) pa_nil)) pe_int))
      (pss_one (ps_ret (pe_op op_mod (pe_callTy call_int1 (by rfl) T.int (by decide +kernel) (pa_cons (pe_op op_fdiv (pv 5) pe_int) pa_nil)) (pv 1)))))))), ?_⟩
    refine ⟨_, rfl, B, _, _, _, rfl, rfl, SqL.of hB, atI_nat (j := 0) rfl, _, _, rfl, rfl, _, rfl, ?_⟩
    refine ite2 (fun c => ?_) (fun _ => ?_)
    · refine ⟨_, rfl, B, _, _, _, rfl, rfl, SqL.of hB, atI_nat (j := 0) rfl, .inl ⟨_, rfl, _, rfl, _, _, rfl, rfl, h0, ?_⟩⟩
      refine ⟨_, rfl, B, _, _, _, rfl, rfl, SqL.of hB, atI_nat (j := 0) rfl, _, rfl, _, _, rfl, rfl, ⟨h0, log_of h0 ht⟩, _, rfl, B, _, _, 0, rfl, rfl, hB, rfl, ?_⟩
      refine ⟨_, rfl, ?_⟩
      exact k _ _ (Int.emod_nonneg _ (by omega)) (Int.emod_lt_of_pos _ h0) (SB.refl _ _).upd ⟨_, _, _, upd_same⟩
    · refine ⟨_, rfl, B, _, _, _, rfl, rfl, SqL.of hB, atI_nat (j := 2) rfl, _, _, rfl, rfl, _, rfl, B, _, _, 2, rfl, rfl, hB, rfl, ?_⟩
      refine ⟨_, rfl, B, _, _, _, rfl, rfl, SqL.of upd_same, atI_nat (j := 1) rfl, _, rfl, B, _, _, _, rfl, rfl, SqL.of upd_same, atI_nat (j := 2) rfl, _, _, rfl, rfl, .inl ⟨by decide, by decide⟩, _, _, rfl, rfl,
        .inl ⟨_, rfl, _, _, rfl, rfl, (by show (0 : Int) < _; decide), ?_⟩⟩
      refine ⟨_, rfl, _, rfl, _, _, rfl, rfl, .inl (modA _), _, rfl, B, _, _, _, rfl, rfl, SqL.of upd_same, atI_nat (j := 2) rfl, _, _, rfl, rfl, .inl ⟨by decide, by decide⟩, _, _, rfl, rfl,
        .inl ⟨_, rfl, _, _, rfl, rfl, (by show (0 : Int) < _; decide), ?_⟩⟩
      refine ⟨_, rfl, _, rfl, _, _, rfl, rfl, .inl (modB _), _, _, rfl, rfl, .inl ⟨_, rfl, _, _, rfl, rfl, (by show (0 : Int) < _; decide), ?_⟩⟩
      refine ⟨_, rfl, _, _, rfl, rfl, ⟨by decide, by decide⟩, .inl ⟨_, rfl, _, rfl, _, _, rfl, rfl, h0, ?_⟩⟩
      exact k _ _ (Int.emod_nonneg _ (by omega)) (Int.emod_lt_of_pos _ h0) (SB.refl _ _).upd ⟨_, _, _, upd_same⟩
theorem scPick : FnScope ["bag", "items"] ["bag", "items"] (defScope sPick) := ⟨rfl, rfl, rfl, by decide +kernel, rfl, by decide +kernel, by decide +kernel⟩
theorem ok_pickS {f : Addr} {fd fdT : FuncData} (F : Fun K "_law_pick" "_law_pick" sPick f fd) (T : TxtA mg fT) (FT : Fun K "_law_throw" "_law_throw" sThrow fT fdT) (bT : Binds K fdT ["bag", "total"] []) :
    FnOk P w K mg base CX0 2 f fd ["bag", "items"] spPickS := by
  have G : FnOk P w K mg base CX0 1 fT fdT ["bag", "total"] spThrow := ok_throw FT T
  refine F.ok scPick (fun vs H Q E h => ?_) (fun cdv A outer s H vs Q E hr h => ?_)
  · obtain ⟨B, z, rfl, _⟩ := h
    rfl
  · obtain ⟨B, z, rfl, hB, h0, h1, k⟩ := h
    have hz : z.length ≤ sizeLine := Nat.le_of_lt (small1000 (by omega))
    refine ⟨_, pss_one (ps_ret (pe_ix ix_str (pv 1) (pe_call G hr rfl T.thr FT.kp bT .nil pass0 (pa_cons (pv 0) (pa_cons (pe_callB call_len_str (by rfl) T.len PySem.boot_len (pa_cons (pv 1) pa_nil)) pa_nil))) (fun _ _ => rfl))), ?_⟩
    refine ⟨_, rfl, _, rfl, _, rfl, z, rfl, hz, B, _, rfl, hB, by omega, ?_, fun r H' r0 r1 sb hB' => ?_⟩
    · exact Int.le_trans (by omega : (z.length : Int) ≤ 100) (by decide +kernel)
    · have hlt : r.toNat < z.cps.toList.length := by
        have e : z.cps.toList.length = z.length := by simp [Str.length]
        omega
      refine ⟨z, r, _, rfl, rfl, hz, ?_, k (z.cps.toList[r.toNat]'hlt) H' (List.getElem_mem hlt) sb hB'⟩
      exact at_nn r0 (by simp [hlt])
theorem ok_pickL {f : Addr} {fd fdT : FuncData} (F : Fun K "_law_pick" "_law_pick" sPick f fd) (T : TxtA mg fT) (FT : Fun K "_law_throw" "_law_throw" sThrow fT fdT) (bT : Binds K fdT ["bag", "total"] []) :
    FnOk P w K mg base CX0 2 f fd ["bag", "items"] spPickL := by
  have G : FnOk P w K mg base CX0 1 fT fdT ["bag", "total"] spThrow := ok_throw FT T
  refine F.ok scPick (fun vs H Q E h => ?_) (fun cdv A outer s H vs Q E hr h => ?_)
  · obtain ⟨B, L, ys, rfl, _⟩ := h
    rfl
  · obtain ⟨B, L, ys, rfl, hB, nBL, hL, h0, h1, k⟩ := h
    refine ⟨_, pss_one (ps_ret (pe_ix ix_list (pv 1) (pe_call G hr rfl T.thr FT.kp bT .nil pass0 (pa_cons (pv 0) (pa_cons (pe_callB call_len_seq (by rfl) T.len PySem.boot_len (pa_cons (pv 1) pa_nil)) pa_nil))) (fun _ _ => rfl))), ?_⟩
    refine ⟨_, rfl, _, rfl, _, rfl, L, _, rfl, .inl (SqL.of hL), B, _, rfl, hB, by omega, ?_, fun r H' r0 r1 sb hB' => ?_⟩
    · exact Int.le_trans (by omega : (ys.length : Int) ≤ 100) (by decide +kernel)
    · have hlt : r.toNat < ys.length := by omega
      refine ⟨L, _, r, _, rfl, rfl, SqL.of (sb _ _ nBL.symm hL), ?_, k (ys[r.toNat]'hlt) H' (List.getElem_mem _) sb hB'⟩
      exact at_nn r0 (by simp [hlt])
theorem scValue : FnScope ["bag", "way"] ["bag"] (defScope sValue) := ⟨rfl, rfl, rfl, by decide +kernel, rfl, by decide +kernel, by decide +kernel⟩
theorem ok_value {f : Addr} {fd fdT : FuncData} (F : Fun K "_law_value" "_law_value" sValue f fd) (T : TxtA mg fT) (FT : Fun K "_law_throw" "_law_throw" sThrow fT fdT) (bT : Binds K fdT ["bag", "total"] []) :
    FnOk P w K mg base CX0 2 f fd ["bag"] spValue := by
  have G : FnOk P w K mg base CX0 1 fT fdT ["bag", "total"] spThrow := ok_throw FT T
  refine F.ok scValue (fun vs H Q E h => ?_) (fun cdv A outer s H vs Q E hr h => ?_)
  · obtain ⟨B, rfl, _⟩ := h
    rfl
  · obtain ⟨B, rfl, hB, k⟩ := h
    refine ⟨_, pss_cons (ps_set (i := 1) scValue.nd rfl (Or.inl rfl) (pe_call G hr rfl T.thr FT.kp bT .nil pass0 (pa_cons (pv 0) (pa_cons pe_int pa_nil))))
      (pss_cons (ps_if (pt_cmpR op_lt (pv 1) pe_int (nomark _)) (pss_one (ps_ret (pe_call G hr rfl T.thr FT.kp bT .nil pass0 (pa_cons (pv 0) (pa_cons pe_int pa_nil))))) pss_nil)
      (pss_cons (ps_if (pt_cmpR op_eq (pv 1) pe_int (nomark _)) (pss_one (ps_ret (pe_op op_sub (pe_un un_neg pe_int) (pe_call G hr rfl T.thr FT.kp bT .nil pass0 (pa_cons (pv 0) (pa_cons pe_int pa_nil)))))) pss_nil)
      (pss_one (ps_ret (pe_op op_mul (pe_call G hr rfl T.thr FT.kp bT .nil pass0 (pa_cons (pv 0) (pa_cons (pe_op op_pow pe_int pe_int) pa_nil))) (pe_op op_sub pe_int (pe_op op_mul pe_int (pv 1)))))))), ?_⟩
    refine ⟨_, rfl, B, _, rfl, hB, by decide, by decide +kernel, fun r H1 r0 r1 s1 b1 => ?_⟩
    refine ⟨_, rfl, _, _, rfl, rfl, _, rfl, ?_⟩
    refine ite2 (fun _ => ?_) (fun _ => ?_)
    · exact ⟨_, rfl, B, _, rfl, b1, by decide, by decide +kernel, fun q H2 _ _ s2 b2 => k _ _ (s1.trans s2) b2⟩
    · refine ⟨_, rfl, rfl, _, rfl, ?_⟩
      refine ite2 (fun _ => ?_) (fun _ => ?_)
      · exact ⟨_, rfl, _, rfl, B, _, rfl, b1, by decide, by decide +kernel, fun q H2 _ _ s2 b2 => ⟨_, _, rfl, rfl, k _ _ (s1.trans s2) b2⟩⟩
      · refine ⟨_, rfl, _, _, rfl, rfl, ⟨by decide, by decide, by decide⟩, B, _, rfl, b1, by decide +kernel, by decide +kernel, fun q H2 _ _ s2 b2 => ?_⟩
        refine ⟨_, rfl, _, _, rfl, rfl, .inl ⟨by decide, by decide⟩, _, _, rfl, rfl, _, _, rfl, rfl, .inr ⟨by omega, by omega⟩, k _ _ (s1.trans s2) b2⟩
end
end Wd

set_option Elab.async false
set_option linter.all false
set_option maxRecDepth 100000
set_option maxHeartbeats 4000000
namespace Wd
open PySem L2 PyProof.Rows
/-- list(text) -/
theorem call_listS {X : Cx} (hc : X.calm = true) : CallR X (.type "list") (fun xs H Q => ∃ z : Str, xs = [.str z] ∧ z.length ≤ sizeLine ∧ ∀ l, H l = none → Q (.ref l) (upd H l (.lst (letV z.cps.toList)))) := by
  intro pins s σ H vs us Q I r h
  obtain ⟨z, rfl, hz, q⟩ := h
  cases r with
  | @cons _ u _ ur ru rr =>
    cases rr
    obtain ⟨t, rfl⟩ := ru
    have hn : H s.heap.objs.size = none := I.hok.fresh (Nat.le_refl _)
    refine call_list_str (prog := X.prog) (w := X.w) (I.ok.hd hc) z t (fun h' tk acc c kp at_ items => ?_) hz
    have ss : Vals (letV z.cps.toList) acc.toList := by
      rw [letV_sgn]
      refine vals_of_strs (strs_at (by simp [items.1]) fun j v e => ?_)
      obtain ⟨a, u, e1, e2⟩ := items.2 j v (by rw [← Array.getElem?_toList]; exact e)
      exact ⟨sgn a, u, by rw [List.getElem?_map, Array.getElem?_toList, e1]; rfl, e2⟩
    have len : (letV z.cps.toList).length ≤ sizeLine := by
      rw [letV, List.length_map, Array.length_toList]
      exact hz
    exact ⟨.ref s.heap.objs.size, upd H s.heap.objs.size (.lst (letV z.cps.toList)), I.laid (t' := tk) kp (Nat.le_refl _) (show ObjOk X.prog X.w _ _ _ (.lst (letV z.cps.toList)) from ⟨len, acc.toList, c, ss, at_⟩), rfl, q _ hn⟩
end Wd

set_option Elab.async false
set_option linter.all false
set_option maxRecDepth 100000
set_option maxHeartbeats 4000000
namespace Wd
open PySem L2
def spLetter : Sp := fun vs H Q _ => ∃ B : Addr, vs = [.ref B] ∧ BagAt H B ∧ ∀ c H', low c → SB B H H' → BagAt H' B → Q (.str (sgn c)) H'
def spLetters : Sp := fun vs H Q _ => ∃ (B : Addr) (most : Int), vs = [.ref B, .int most] ∧ BagAt H B ∧ 1 ≤ most ∧ most ≤ 5 ∧
  ∀ (t : Addr) (ds : List Nat) H', ds.length ≤ 26 → (∀ c ∈ ds, low c) → t ≠ B → H' t = some (.tup (letV ds)) → SB B H H' → BagAt H' B → Q (.ref t) H'
structure GTxt (mg : Str → Option Value) (fT fP : Addr) : Prop extends TxtA mg fT where
  pick : mg "_law_pick" = some (.ref fP)
  range : mg "range" = none
  sorted : mg "sorted" = none
  list : mg "list" = none
  tuple : mg "tuple" = none
theorem pe_popAt {X : Cx} {K : PySem.W.Frag} {o e : Expr} {es : List Expr} {to : TE} {t : TA} {apos cpos : Pos} (hK : X.K = K) (ho : PE X o to) (ha : PA X (e :: es) t)
    (hbase : attributeBase o "pop" X.env (eval o X.env) = eval o X.env := by rfl)
    (hfew : ((backTo cpos (starEach (e :: es) X.env)).all (fun x => !x.1) && (backToKw cpos (keywordEach [] X.env)).all (fun x => x.1.isSome) && decide ((e :: es).length + ([] : List Keyword).length + (if ([] : List Keyword).isEmpty then 0 else 1) < 30)) = true := by rfl)
    (hline : (apos.endLine == cpos.line) = true := by rfl) (he : starEach (e :: es) X.env = (false, eval e X.env) :: starEach es X.env := by rfl)
    (hpl : (backTo cpos (starEach es X.env)).any (·.1) = false := by rfl) : PE X (.Call (.Attribute o "pop" apos) (e :: es) [] cpos) (tBM K "list" rPopAt to t) := by
  subst hK
  exact pe_bm PySem.F.plainAttrs_list PySem.F.slot_list_pop PySem.F.type_list_pop mt_popAt ho ha hbase hfew hline he hpl
def rLenQ (K : PySem.W.Frag) : List V → Hp → VK → Prop := fun xs H Q => ∃ p ys, xs = [.ref p] ∧ (SqL K H p ys ∨ SqT K H p ys) ∧ Q (.int ys.length) H
theorem call_lenQ {X : Cx} : CallR X (.builtin "len") (rLenQ X.K) := call_len_seq
theorem letV_erase : ∀ (cs : List Nat) (k : Nat), (letV cs).eraseIdx k = letV (cs.eraseIdx k)
  | [], _ => rfl
  | _ :: _, 0 => rfl
  | c :: r, k + 1 => congrArg (V.str ⟨#[c]⟩ :: ·) (letV_erase r k)
theorem ab_low : ∀ c ∈ (Str.ofString "ab").cps.toList, low c := by unfold low; decide +kernel
theorem abc_low : ∀ c ∈ (Str.ofString "abc").cps.toList, low c := by unfold low; decide +kernel
theorem st_low : ∀ c ∈ (Str.ofString "st").cps.toList, low c := by unfold low; decide +kernel
theorem abcd_low : ∀ c ∈ (Str.ofString "abcd").cps.toList, low c := by unfold low; decide +kernel
theorem alpha_low : ∀ c ∈ (Str.ofString "abcdefghijklmnopqrstuvwxyz").cps.toList, low c := fun c h => (alpha_mem c).mp h
section
variable {P : Program} {w : World} {K : PySem.W.Frag} {mg : Str → Option Value} {base : Heap} {fT fP : Addr}
theorem scLetter : FnScope ["bag"] ["bag"] (defScope sLetter) := ⟨rfl, rfl, rfl, by decide +kernel, rfl, by decide +kernel, by decide +kernel⟩
theorem ok_letter {f : Addr} {fd fdT fdP : FuncData} (F : Fun K "_law_letter" "_law_letter" sLetter f fd) (X : GTxt mg fT fP) (FT : Fun K "_law_throw" "_law_throw" sThrow fT fdT) (bT : Binds K fdT ["bag", "total"] [])
    (FP : Fun K "_law_pick" "_law_pick" sPick fP fdP) (bP : Binds K fdP ["bag", "items"] []) : FnOk P w K mg base CX0 3 f fd ["bag"] spLetter := by
  have GS : FnOk P w K mg base CX0 2 fP fdP ["bag", "items"] spPickS := ok_pickS FP X.toTxtA FT bT
  have GL : FnOk P w K mg base CX0 2 fP fdP ["bag", "items"] spPickL := ok_pickL FP X.toTxtA FT bT
  refine F.ok scLetter (fun vs H Q E h => ?_) (fun cdv A outer s H vs Q E hr h => ?_)
  · obtain ⟨B, rfl, _⟩ := h
    rfl
  · obtain ⟨B, rfl, hB, k⟩ := h
    refine ⟨_, pss_one (ps_ret (pe_call GS hr rfl X.pick FP.kp bP .nil pass0 (pa_cons (pv 0) (pa_cons (pe_call GL hr rfl X.pick FP.kp bP .nil pass0 (pa_cons (pv 0) (pa_cons (pe_lst (pa_cons pe_str (pa_cons pe_str (pa_cons pe_str pa_nil)))) pa_nil))) pa_nil)))), ?_⟩
    refine ⟨_, rfl, _, rfl, (by show 3 ≤ sizeLine; decide), fun l hl => ?_⟩
    refine ⟨B, l, _, rfl, hB.new hl, (hB.ne hl).symm, upd_same, by decide, by decide, fun y H1 hy s1 b1 => ?_⟩
    have s1' : SB B H H1 := fun b o n e => s1 b o n (by rw [upd_ne (ne_of_none e hl)]; exact e)
    simp only [List.mem_cons, List.not_mem_nil, or_false] at hy
    rcases hy with rfl | rfl | rfl
    · exact ⟨B, _, rfl, b1, by decide, by decide, fun c H2 hc s2 b2 => k c _ (ab_low c hc) (s1'.trans s2) b2⟩
    · exact ⟨B, _, rfl, b1, by decide, by decide, fun c H2 hc s2 b2 => k c _ (abc_low c hc) (s1'.trans s2) b2⟩
    · exact ⟨B, _, rfl, b1, by decide, by decide, fun c H2 hc s2 b2 => k c _ (alpha_low c hc) (s1'.trans s2) b2⟩
abbrev nLetters : List Str := ["bag", "most", "signs", "size", "turn"]
theorem scLetters : FnScope nLetters ["bag", "most"] (defScope sLetters) := ⟨rfl, rfl, rfl, by decide +kernel, rfl, by decide +kernel, by decide +kernel⟩
theorem ok_letters {f : Addr} {fd fdT : FuncData} (F : Fun K "_law_letters" "_law_letters" sLetters f fd) (X : GTxt mg fT fP) (FT : Fun K "_law_throw" "_law_throw" sThrow fT fdT) (bT : Binds K fdT ["bag", "total"] []) :
    FnOk P w K mg base CX0 2 f fd ["bag", "most"] spLetters := by
  have GT : FnOk P w K mg base CX0 1 fT fdT ["bag", "total"] spThrow := ok_throw FT X.toTxtA
  refine F.ok scLetters (fun vs H Q E h => ?_) (fun cdv A outer s H vs Q E hr h => ?_)
  · obtain ⟨B, most, rfl, _⟩ := h
    rfl
  · obtain ⟨B, most, rfl, hB, m1, m5, k⟩ := h
    refine ⟨_, pss_cons (ps_set (i := 2) scLetters.nd rfl (Or.inr rfl) (pe_callTy (call_listS rfl) (by rfl) X.list (by decide +kernel) (pa_cons pe_str pa_nil)))
      (pss_cons (ps_if (PW.pt (pw_and (pt_cmpR op_le (pv 1) pe_int (nomark _)) (pw_and1 (pt_cmpR op_gt (pe_call GT hr rfl X.thr FT.kp bT .nil pass0 (pa_cons (pv 0) (pa_cons pe_int pa_nil))) pe_int (nomark _)))))
        (pss_one (ps_set (i := 2) scLetters.nd rfl (Or.inr rfl) (pe_callTy (call_listS rfl) (by rfl) X.list (by decide +kernel) (pa_cons pe_str pa_nil)))) pss_nil)
      (pss_cons (ps_set (i := 3) scLetters.nd rfl (Or.inl rfl) (pe_op op_add pe_int (pe_call GT hr rfl X.thr FT.kp bT .nil pass0 (pa_cons (pv 0) (pa_cons (pv 1) pa_nil)))))
      (pss_one (ps_ret (pe_callTy call_tuple_of (by rfl) X.tuple (by decide +kernel) (pa_cons (pe_callB cr_sortedS (by rfl) X.sorted (by decide +kernel) (pa_cons (pe_lc (own := [("turn", 4)]) (g := gName 4) (tt := tYes) rfl scLetters.nd
          (pi_range1 rfl X.range (pa_cons (pv 3) pa_nil)) (blkOk_by (N := nLetters) (sc := defScope sLetters) (by decide +kernel)) (fun _ _ _ _ _ => pg_name (i := 4) scLetters.nd rfl (Or.inl rfl)) (fun _ _ _ _ _ => pts_nil)
          (fun _ _ _ _ _ => pe_popAt (K := K) rfl (pv 2)
            (pa_cons (pe_call GT hr rfl X.thr FT.kp bT .nil pass0 (pa_cons (pv 0) (pa_cons (pe_callB (r := rLenQ K) call_lenQ (by rfl) X.len PySem.boot_len (pa_cons (pv 2) pa_nil)) pa_nil))) pa_nil))) pa_nil)) pa_nil)))))), ?_⟩
    refine ⟨_, rfl, by decide, fun L0 hL0 => ?_⟩
    have c26 : (Str.ofString "abcdefghijklmnopqrstuvwxyz").cps.toList.length = 26 := by decide +kernel
    have c4 : (Str.ofString "abcd").cps.toList.length = 4 := by decide +kernel
    have b0 := hB.new (o := .lst (letV (Str.ofString "abcdefghijklmnopqrstuvwxyz").cps.toList)) hL0
    have sb0 := (SB.refl B H).new (o := .lst (letV (Str.ofString "abcdefghijklmnopqrstuvwxyz").cps.toList)) hL0
    have e0 : (upd H L0 (.lst (letV (Str.ofString "abcdefghijklmnopqrstuvwxyz").cps.toList))) L0 = some (.lst (letV (Str.ofString "abcdefghijklmnopqrstuvwxyz").cps.toList)) := upd_same
    have n0 : L0 ≠ B := hB.ne hL0
    generalize upd H L0 (.lst (letV (Str.ofString "abcdefghijklmnopqrstuvwxyz").cps.toList)) = H0 at b0 sb0 e0
    refine ⟨_, rfl, _, _, rfl, rfl, _, rfl, ?_⟩
    refine ite2 (fun g => ?_) (fun g => ?_)
    · have g' : most ≤ 4 := of_decide_eq_true g
      refine ⟨_, rfl, B, 3, rfl, b0, by decide, by decide +kernel, fun r H1 _ _ s1 b1 => ⟨_, _, rfl, rfl, _, rfl, ?_⟩⟩
      refine ite2 (fun _ => ?_) (fun _ => ?_)
      · refine ⟨_, rfl, by decide, fun L hL => ?_⟩
        have sb1 := (sb0.trans s1).new (o := .lst (letV (Str.ofString "abcd").cps.toList)) hL
        have hLn : H L = none := by
          cases e : H L with
          | none => rfl
          | some o => exact absurd ((sb0.trans s1) _ _ (b1.ne hL) e) (by rw [hL]; exact fun q => nomatch q)
        have hL1 : (upd H1 L (.lst (letV (Str.ofString "abcd").cps.toList))) L = some (.lst (letV (Str.ofString "abcd").cps.toList)) := upd_same
        have nLB : L ≠ B := b1.ne hL
        have b1 := b1.new (o := .lst (letV (Str.ofString "abcd").cps.toList)) hL
        have hlow := abcd_low
        have hc : most ≤ (Str.ofString "abcd").cps.toList.length := by omega
        have hc6 : (Str.ofString "abcd").cps.toList.length ≤ 26 := by omega
        generalize (Str.ofString "abcd").cps.toList = cs at sb1 hL1 b1 hlow hc hc6
        generalize upd H1 L (.lst (letV cs)) = H1 at sb1 hL1 b1
        refine ⟨_, rfl, _, rfl, B, most, rfl, b1, by omega, Int.le_trans (by omega : most ≤ 5) (by decide +kernel), fun r H2 r0 r1 s2 b2 => ?_⟩
        refine ⟨_, _, rfl, rfl, _, rfl, _, rfl, by omega, by omega, fun D hD => ?_⟩
        have hL2 : H2 L = some (.lst (letV cs)) := s2 _ _ nLB hL1
        have nLD : L ≠ D := ne_of_none hL2 hD
        have nDB : D ≠ B := b2.ne hD
        have hDn : H D = none := by
          cases e : H D with
          | none => rfl
          | some o => exact absurd ((sb1.trans s2) _ _ nDB e) (by rw [hD]; exact fun q => nomatch q)
        refine lc_range (lo := 0) (n := (1 + r).toNat) (fun i H' => SB B H H' ∧ BagAt H' B ∧ (∃ cs' : List Nat, H' L = some (.lst (letV cs')) ∧ cs'.length + i = cs.length ∧ ∀ c ∈ cs', low c) ∧ ∃ ds : List Nat, ds.length = i ∧ (∀ c ∈ ds, low c) ∧ H' D = some (.lst (letV ds)))
          ⟨(sb1.trans s2).new hD, b2.new hD, ⟨cs, (upd_ne nLD).trans hL2, rfl, hlow⟩, [], rfl, by simp, upd_same⟩ ?_ ?_
        · rintro i H' hi ⟨sb, bg, ⟨cs', hL', lc, low'⟩, ds, ld, lowd, hD'⟩
          have l1 : (letV cs').length = cs'.length := List.length_map _
          refine ⟨rfl, _, rfl, .inl ⟨rfl, _, SqL.of hL'⟩, _, rfl, _, rfl, L, _, rfl, .inl (SqL.of hL'), B, _, rfl, bg, by omega, ?_, fun q H3 q0 q1 s3 b3 => ?_⟩
          · exact Int.le_trans (by omega : ((letV cs').length : Int) ≤ 26) (by decide +kernel)
          · have hq : q.toNat < cs'.length := by omega
            have ix : ixN (letV cs').length q = some q.toNat := by
              unfold ixN
              rw [if_pos q0, if_pos q1]
            have hL3 := s3 _ _ nLB hL'
            have hD3 := s3 _ _ nDB hD'
            refine ⟨L, _, q, q.toNat, .str (sgn cs'[q.toNat]), rfl, rfl, hL3, by omega, by omega, (ixN_seq ix).1, by simp [letV, hq, sgn], _, (upd_ne nLD.symm).trans hD3, ?_, ?_⟩
            · rw [letV, List.length_map, ld]
              exact small1000 (by omega)
            · have er := letV_erase cs' q.toNat
              refine ⟨((sb.trans s3).own hLn).own hDn, ?_, ⟨cs'.eraseIdx q.toNat, ?_, ?_, fun c hc => low' c (List.mem_of_mem_eraseIdx hc)⟩, ds ++ [cs'[q.toNat]], by simp [ld], fun c hc => ?_, ?_⟩
              · exact (b3.other (Ne.symm nLB)).other (Ne.symm nDB)
              · rw [upd_ne nLD, upd_same, er]
              · rw [List.length_eraseIdx_of_lt hq]
                omega
              · rcases List.mem_append.mp hc with z | z
                · exact lowd c z
                · rw [List.mem_singleton.mp z]
                  exact low' _ (List.getElem_mem hq)
              · rw [upd_same, letV, letV, List.map_append]
                rfl
        · rintro H3 ⟨sb, bg, _, ds, ld, lowd, hD3⟩
          have hD4 : H3 D = some (.lst ((ds.map sgn).map V.str)) := by rw [← letV_sgn]; exact hD3
          have l2 : (ds.map sgn).length = ds.length := List.length_map _
          refine ⟨D, ds.map sgn, rfl, SqL.of hD4, by omega, fun ys p pm srt hp => ⟨p, _, rfl, .inl ⟨SqL.of upd_same, fun t ht => ?_⟩⟩⟩
          obtain ⟨es, rfl⟩ := sgns_of (cs := ds) fun y hy => pm.mem_iff.mp hy
          have l3 : es.length = ds.length := by
            have := pm.length_eq
            rw [List.length_map, List.length_map] at this
            exact this
          refine k t es _ (by omega) (fun c hc => ?_) ((bg.new hp).ne ht) (upd_same.trans (by rw [letV_sgn])) ((sb.new hp).new ht) ((bg.new hp).new ht)
          obtain ⟨d, hd, e⟩ := List.mem_map.mp (pm.mem_iff.mp (List.mem_map.mpr ⟨c, hc, rfl⟩))
          exact sgn_inj e ▸ lowd d hd
      · have sb1 := sb0.trans s1
        have nLB := n0
        have hLn := hL0
        have hL1 := s1 _ _ n0 e0
        have hlow := alpha_low
        have hc : most ≤ (Str.ofString "abcdefghijklmnopqrstuvwxyz").cps.toList.length := by omega
        have hc6 : (Str.ofString "abcdefghijklmnopqrstuvwxyz").cps.toList.length ≤ 26 := by omega
        generalize (Str.ofString "abcdefghijklmnopqrstuvwxyz").cps.toList = cs at hL1 hlow hc hc6
        generalize L0 = L at hLn hL1 nLB
        refine ⟨_, rfl, _, rfl, B, most, rfl, b1, by omega, Int.le_trans (by omega : most ≤ 5) (by decide +kernel), fun r H2 r0 r1 s2 b2 => ?_⟩
        refine ⟨_, _, rfl, rfl, _, rfl, _, rfl, by omega, by omega, fun D hD => ?_⟩
        have hL2 : H2 L = some (.lst (letV cs)) := s2 _ _ nLB hL1
        have nLD : L ≠ D := ne_of_none hL2 hD
        have nDB : D ≠ B := b2.ne hD
        have hDn : H D = none := by
          cases e : H D with
          | none => rfl
          | some o => exact absurd ((sb1.trans s2) _ _ nDB e) (by rw [hD]; exact fun q => nomatch q)
        refine lc_range (lo := 0) (n := (1 + r).toNat) (fun i H' => SB B H H' ∧ BagAt H' B ∧ (∃ cs' : List Nat, H' L = some (.lst (letV cs')) ∧ cs'.length + i = cs.length ∧ ∀ c ∈ cs', low c) ∧ ∃ ds : List Nat, ds.length = i ∧ (∀ c ∈ ds, low c) ∧ H' D = some (.lst (letV ds)))
          ⟨(sb1.trans s2).new hD, b2.new hD, ⟨cs, (upd_ne nLD).trans hL2, rfl, hlow⟩, [], rfl, by simp, upd_same⟩ ?_ ?_
        · rintro i H' hi ⟨sb, bg, ⟨cs', hL', lc, low'⟩, ds, ld, lowd, hD'⟩
          have l1 : (letV cs').length = cs'.length := List.length_map _
          refine ⟨rfl, _, rfl, .inl ⟨rfl, _, SqL.of hL'⟩, _, rfl, _, rfl, L, _, rfl, .inl (SqL.of hL'), B, _, rfl, bg, by omega, ?_, fun q H3 q0 q1 s3 b3 => ?_⟩
          · exact Int.le_trans (by omega : ((letV cs').length : Int) ≤ 26) (by decide +kernel)
          · have hq : q.toNat < cs'.length := by omega
            have ix : ixN (letV cs').length q = some q.toNat := by
              unfold ixN
              rw [if_pos q0, if_pos q1]
            have hL3 := s3 _ _ nLB hL'
            have hD3 := s3 _ _ nDB hD'
            refine ⟨L, _, q, q.toNat, .str (sgn cs'[q.toNat]), rfl, rfl, hL3, by omega, by omega, (ixN_seq ix).1, by simp [letV, hq, sgn], _, (upd_ne nLD.symm).trans hD3, ?_, ?_⟩
            · rw [letV, List.length_map, ld]
              exact small1000 (by omega)
            · have er := letV_erase cs' q.toNat
              refine ⟨((sb.trans s3).own hLn).own hDn, ?_, ⟨cs'.eraseIdx q.toNat, ?_, ?_, fun c hc => low' c (List.mem_of_mem_eraseIdx hc)⟩, ds ++ [cs'[q.toNat]], by simp [ld], fun c hc => ?_, ?_⟩
              · exact (b3.other (Ne.symm nLB)).other (Ne.symm nDB)
              · rw [upd_ne nLD, upd_same, er]
              · rw [List.length_eraseIdx_of_lt hq]
                omega
              · rcases List.mem_append.mp hc with z | z
                · exact lowd c z
                · rw [List.mem_singleton.mp z]
                  exact low' _ (List.getElem_mem hq)
              · rw [upd_same, letV, letV, List.map_append]
                rfl
        · rintro H3 ⟨sb, bg, _, ds, ld, lowd, hD3⟩
          have hD4 : H3 D = some (.lst ((ds.map sgn).map V.str)) := by rw [← letV_sgn]; exact hD3
          have l2 : (ds.map sgn).length = ds.length := List.length_map _
          refine ⟨D, ds.map sgn, rfl, SqL.of hD4, by omega, fun ys p pm srt hp => ⟨p, _, rfl, .inl ⟨SqL.of upd_same, fun t ht => ?_⟩⟩⟩
          obtain ⟨es, rfl⟩ := sgns_of (cs := ds) fun y hy => pm.mem_iff.mp hy
          have l3 : es.length = ds.length := by
            have := pm.length_eq
            rw [List.length_map, List.length_map] at this
            exact this
          refine k t es _ (by omega) (fun c hc => ?_) ((bg.new hp).ne ht) (upd_same.trans (by rw [letV_sgn])) ((sb.new hp).new ht) ((bg.new hp).new ht)
          obtain ⟨d, hd, e⟩ := List.mem_map.mp (pm.mem_iff.mp (List.mem_map.mpr ⟨c, hc, rfl⟩))
          exact sgn_inj e ▸ lowd d hd
    · have sb1 := sb0
      have nLB := n0
      have hLn := hL0
      have hL1 := e0
      have hlow := alpha_low
      have b1 := b0
      have hc : most ≤ (Str.ofString "abcdefghijklmnopqrstuvwxyz").cps.toList.length := by omega
      have hc6 : (Str.ofString "abcdefghijklmnopqrstuvwxyz").cps.toList.length ≤ 26 := by omega
      generalize (Str.ofString "abcdefghijklmnopqrstuvwxyz").cps.toList = cs at hL1 hlow hc hc6
      generalize L0 = L at hLn hL1 nLB
      refine ⟨_, rfl, _, rfl, B, most, rfl, b1, by omega, Int.le_trans (by omega : most ≤ 5) (by decide +kernel), fun r H2 r0 r1 s2 b2 => ?_⟩
      refine ⟨_, _, rfl, rfl, _, rfl, _, rfl, by omega, by omega, fun D hD => ?_⟩
      have hL2 : H2 L = some (.lst (letV cs)) := s2 _ _ nLB hL1
      have nLD : L ≠ D := ne_of_none hL2 hD
      have nDB : D ≠ B := b2.ne hD
      have hDn : H D = none := by
        cases e : H D with
        | none => rfl
        | some o => exact absurd ((sb1.trans s2) _ _ nDB e) (by rw [hD]; exact fun q => nomatch q)
      refine lc_range (lo := 0) (n := (1 + r).toNat) (fun i H' => SB B H H' ∧ BagAt H' B ∧ (∃ cs' : List Nat, H' L = some (.lst (letV cs')) ∧ cs'.length + i = cs.length ∧ ∀ c ∈ cs', low c) ∧ ∃ ds : List Nat, ds.length = i ∧ (∀ c ∈ ds, low c) ∧ H' D = some (.lst (letV ds)))
        ⟨(sb1.trans s2).new hD, b2.new hD, ⟨cs, (upd_ne nLD).trans hL2, rfl, hlow⟩, [], rfl, by simp, upd_same⟩ ?_ ?_
      · rintro i H' hi ⟨sb, bg, ⟨cs', hL', lc, low'⟩, ds, ld, lowd, hD'⟩
        have l1 : (letV cs').length = cs'.length := List.length_map _
        refine ⟨rfl, _, rfl, .inl ⟨rfl, _, SqL.of hL'⟩, _, rfl, _, rfl, L, _, rfl, .inl (SqL.of hL'), B, _, rfl, bg, by omega, ?_, fun q H3 q0 q1 s3 b3 => ?_⟩
        · exact Int.le_trans (by omega : ((letV cs').length : Int) ≤ 26) (by decide +kernel)
        · have hq : q.toNat < cs'.length := by omega
          have ix : ixN (letV cs').length q = some q.toNat := by
            unfold ixN
            rw [if_pos q0, if_pos q1]
          have hL3 := s3 _ _ nLB hL'
          have hD3 := s3 _ _ nDB hD'
          refine ⟨L, _, q, q.toNat, .str (sgn cs'[q.toNat]), rfl, rfl, hL3, by omega, by omega, (ixN_seq ix).1, by simp [letV, hq, sgn], _, (upd_ne nLD.symm).trans hD3, ?_, ?_⟩
          · rw [letV, List.length_map, ld]
            exact small1000 (by omega)
          · have er := letV_erase cs' q.toNat
            refine ⟨((sb.trans s3).own hLn).own hDn, ?_, ⟨cs'.eraseIdx q.toNat, ?_, ?_, fun c hc => low' c (List.mem_of_mem_eraseIdx hc)⟩, ds ++ [cs'[q.toNat]], by simp [ld], fun c hc => ?_, ?_⟩
            · exact (b3.other (Ne.symm nLB)).other (Ne.symm nDB)
            · rw [upd_ne nLD, upd_same, er]
            · rw [List.length_eraseIdx_of_lt hq]
              omega
            · rcases List.mem_append.mp hc with z | z
              · exact lowd c z
              · rw [List.mem_singleton.mp z]
                exact low' _ (List.getElem_mem hq)
            · rw [upd_same, letV, letV, List.map_append]
              rfl
      · rintro H3 ⟨sb, bg, _, ds, ld, lowd, hD3⟩
        have hD4 : H3 D = some (.lst ((ds.map sgn).map V.str)) := by rw [← letV_sgn]; exact hD3
        have l2 : (ds.map sgn).length = ds.length := List.length_map _
        refine ⟨D, ds.map sgn, rfl, SqL.of hD4, by omega, fun ys p pm srt hp => ⟨p, _, rfl, .inl ⟨SqL.of upd_same, fun t ht => ?_⟩⟩⟩
        obtain ⟨es, rfl⟩ := sgns_of (cs := ds) fun y hy => pm.mem_iff.mp hy
        have l3 : es.length = ds.length := by
          have := pm.length_eq
          rw [List.length_map, List.length_map] at this
          exact this
        refine k t es _ (by omega) (fun c hc => ?_) ((bg.new hp).ne ht) (upd_same.trans (by rw [letV_sgn])) ((sb.new hp).new ht) ((bg.new hp).new ht)
        obtain ⟨d, hd, e⟩ := List.mem_map.mp (pm.mem_iff.mp (List.mem_map.mpr ⟨c, hc, rfl⟩))
        exact sgn_inj e ▸ lowd d hd
end
end Wd

set_option Elab.async false
set_option linter.all false
set_option maxRecDepth 100000
set_option maxHeartbeats 4000000
namespace Wd
open PySem L2
/-- a short text of letters -/
def LowT (z : Str) : Prop := z.length ≤ 20 ∧ ∀ c ∈ z.cps.toList, low c
theorem LowT.ok {z : Str} (h : LowT z) : PyData.strOk z = true := by
  unfold PyData.strOk
  rw [Array.all_eq_true']
  intro c hc
  have := h.2 c (by simpa using hc)
  unfold low at this
  simp
  omega
theorem cps_append (a b : Str) : (a ++ b).cps.toList = a.cps.toList ++ b.cps.toList := by
  show (a.cps ++ b.cps).toList = _
  simp
theorem join_sgn : ∀ ds : List Nat, (Txt.join (Str.ofString "") (ds.map sgn)).cps.toList = ds := by
  intro ds
  rw [show Txt.join (Str.ofString "") (ds.map sgn) = Str.join (Str.ofString "") (ds.map sgn) from StrLaws.glued_eq_join _ _]
  induction ds with
  | nil => rfl
  | cons a r ih =>
    cases r with
    | nil => rfl
    | cons b r =>
      show (sgn a ++ Str.ofString "" ++ Str.join (Str.ofString "") ((b :: r).map sgn)).cps.toList = _
      rw [cps_append, cps_append, ih]
      rfl
theorem len_cps (z : Str) : z.length = z.cps.toList.length := (Array.length_toList (xs := z.cps)).symm
theorem cutS_mem {z : Str} {lo hi : Option Int} {c : Nat} (h : c ∈ (cutS z lo hi).cps.toList) : c ∈ z.cps.toList := by
  have h' : c ∈ (z.cps.toList.drop (HT.sIx z.length 0 lo)).take (HT.sIx z.length z.length hi - HT.sIx z.length 0 lo) := by
    simpa [cutS] using h
  exact List.mem_of_mem_drop (List.mem_of_mem_take h')
theorem LowT.cut {z : Str} (h : ∀ c ∈ z.cps.toList, low c) (l : z.length ≤ 19) (hi : Option Int) {c : Nat} (hc : low c) : LowT (cutS z none hi ++ sgn c) := by
  refine ⟨?_, fun d hd => ?_⟩
  · rw [len_cps, cps_append, List.length_append, ← len_cps]
    have := cutS_length z none hi
    show _ + 1 ≤ 20
    omega
  · rw [cps_append] at hd
    rcases List.mem_append.mp hd with q | q
    · exact h d (cutS_mem q)
    · have e : d = c := by simpa [sgn] using q
      exact e ▸ hc
theorem zzz_low : LowT (Str.ofString "zzz") := by
  refine ⟨by decide, ?_⟩
  unfold low
  decide +kernel
theorem sum_ones : ∀ {ys : List Str}, (∀ y ∈ ys, y.length = 1) → (ys.map (·.length)).sum = ys.length
  | [], _ => rfl
  | a :: r, h => by
    rw [List.map_cons, List.sum_cons, List.length_cons, sum_ones (fun y hy => h y (List.mem_cons_of_mem _ hy)), h a (List.mem_cons_self ..)]
    omega
theorem bag_nl {B L : Addr} {H : Hp} {ys : List Str} (b : BagAt H B) (h : H L = some (.lst (ys.map V.str))) : B ≠ L := by
  obtain ⟨x, y, z, hb⟩ := b
  intro e
  rw [← e, hb] at h
  cases ys with
  | nil => cases h
  | cons a r => cases h
def spName : Sp := fun vs H Q _ => ∃ (B L : Addr) (ks : List Str), vs = [.ref B, .ref L] ∧ BagAt H B ∧ H L = some (.lst (ks.map V.str)) ∧ ∀ z H', LowT z → SB B H H' → BagAt H' B → Q (.str z) H'
section
variable {P : Program} {w : World} {K : PySem.W.Frag} {mg : Str → Option Value} {base : Heap} {fT fP fW : Addr}
abbrev nName : List Str := ["bag", "known", "alphabet", "signs", "text", "name", "turn", "sign"]
theorem scName : FnScope nName ["bag", "known"] (defScope sName) := ⟨rfl, rfl, rfl, by decide +kernel, rfl, by decide +kernel, by decide +kernel⟩
theorem ok_name {f : Addr} {fd fdT fdP fdW : FuncData} (F : Fun K "_law_name" "_law_name" sName f fd) (T : GTxt mg fT fP) (wrds : mg "_law_words" = some (.ref fW)) (FT : Fun K "_law_throw" "_law_throw" sThrow fT fdT) (bT : Binds K fdT ["bag", "total"] [])
    (FP : Fun K "_law_pick" "_law_pick" sPick fP fdP) (bP : Binds K fdP ["bag", "items"] []) (FW : Fun K "_law_words" "_law_words" sWords fW fdW) (bW : Binds K fdW [] []) :
    FnOk P w K mg base CX0 3 f fd ["bag", "known"] spName := by
  have GT : FnOk P w K mg base CX0 1 fT fdT ["bag", "total"] spThrow := ok_throw FT T.toTxtA
  have GS : FnOk P w K mg base CX0 2 fP fdP ["bag", "items"] spPickS := ok_pickS FP T.toTxtA FT bT
  have GL : FnOk P w K mg base CX0 2 fP fdP ["bag", "items"] spPickL := ok_pickL FP T.toTxtA FT bT
  have GW : FnOk P w K mg base CX0 1 fW fdW [] spWords := ok_words FW
  refine F.ok scName (fun vs H Q E h => ?_) (fun cdv A outer s H vs Q E hr h => ?_)
  · obtain ⟨B, L, ks, rfl, _⟩ := h
    rfl
  · obtain ⟨B, L, ks, rfl, hB, hL, k⟩ := h
    have hr1 : Room 1 _ := hr.mono (by decide)
    refine ⟨_, pss_cons (ps_set (i := 2) scName.nd rfl (Or.inl rfl) pe_str)
      (pss_cons (ps_set (i := 3) scName.nd rfl (Or.inr rfl) (pe_call GL hr rfl T.pick FP.kp bP .nil pass0 (pa_cons (pv 0) (pa_cons (pe_lst (pa_cons (pv 2) (pa_cons pe_str (pa_cons pe_str pa_nil)))) pa_nil))))
      (pss_cons (ps_set (i := 4) scName.nd rfl (Or.inr rfl) (pe_join pe_str (pe_lc (own := [("turn", 6)]) (g := gName 6) (tt := tYes) rfl scName.nd
          (pi_range1 rfl T.range (pa_cons (pe_op op_add pe_int (pe_call GT hr1 rfl T.thr FT.kp bT .nil pass0 (pa_cons (pv 0) (pa_cons pe_int pa_nil)))) pa_nil))
          (blkOk_by (N := nName) (sc := defScope sName) (by decide +kernel)) (fun _ _ _ _ _ => pg_name (i := 6) scName.nd rfl (Or.inl rfl)) (fun _ _ _ _ _ => pts_nil)
          (fun _ _ _ _ _ => pe_call GS hr rfl T.pick FP.kp bP .nil pass0 (pa_cons (pv 0) (pa_cons (pv 3) pa_nil))))))
      (pss_cons (ps_for PassesOwn.never rfl (pi_list (pe_op op_cat (pe_lst (pa_cons (pv 4) pa_nil)) (pe_lc (own := [("sign", 7)]) (g := gName 7) (tt := tYes) rfl scName.nd (pi_str (pv 2))
          (blkOk_by (N := nName) (sc := defScope sName) (by decide +kernel)) (fun _ _ _ _ _ => pg_name (i := 7) scName.nd rfl (Or.inl rfl)) (fun _ _ _ _ _ => pts_nil)
          (fun _ _ _ _ _ => pe_op op_add_str (pe_slice sl_str (pv 4) po_none (po_some pe_int)) (pv 7))))) (pg_name (i := 5) scName.nd rfl (Or.inl rfl))
        (pss_one (ps_if (PW.pt (pw_and (pt_cmpR op_notIn_seq (pv 5) (pv 1) (by rfl)) (pw_and1 (pt_cmpR op_notIn_seq (pv 5) (pe_call0 GW hr1 rfl wrds FW.kp bW .nil pass0) (by rfl))))) (pss_one (ps_ret (pv 5))) pss_nil)))
      (pss_one (ps_ret pe_str))))), ?_⟩
    refine ⟨_, rfl, _, rfl, by show 3 ≤ sizeLine; decide, fun l hl => ?_⟩
    refine ⟨B, l, [_, _, _], rfl, hB.new hl, (hB.ne hl).symm, upd_same, by decide, by decide, fun y0 H1 hy s1 b1 => ?_⟩
    obtain ⟨y, rfl, hy1, hy2, hy3⟩ : ∃ y : Str, y0 = .str y ∧ 0 < y.length ∧ y.length ≤ 100 ∧ ∀ c ∈ y.cps.toList, low c := by
      simp only [List.mem_cons, List.not_mem_nil, or_false] at hy
      rcases hy with rfl | rfl | rfl
      · exact ⟨_, rfl, by decide, by decide, alpha_low⟩
      · exact ⟨_, rfl, by decide, by decide, ab_low⟩
      · exact ⟨_, rfl, by decide, by decide, st_low⟩
    have s1' : SB B H H1 := fun b o n e => s1 b o n (by rw [upd_ne (ne_of_none e hl)]; exact e)
    refine ⟨⟨_, rfl⟩, _, rfl, B, _, rfl, b1, by decide, by decide +kernel, fun r H2 r0 r1 s2 b2 => ?_⟩
    refine ⟨_, _, rfl, rfl, _, rfl, by omega, by omega, fun D hD => ?_⟩
    refine lc_range (lo := 0) (n := _) (fun i H' => SB B H2 H' ∧ BagAt H' B ∧ ∃ ds : List Nat, ds.length = i ∧ (∀ c ∈ ds, low c) ∧ H' D = some (.lst ((ds.map sgn).map V.str)))
      ⟨(SB.refl B H2).new hD, b2.new hD, [], rfl, (fun z h => by cases h), upd_same⟩ ?_ ?_
    · rintro i H' hi ⟨sb, bg, ds, el, e1, hD'⟩
      refine ⟨rfl, ?_⟩
      refine ⟨_, rfl, _, rfl, B, y, rfl, bg, hy1, hy2, fun c H3 hc s3 b3 => ?_⟩
      have nDB : D ≠ B := (b2.ne hD)
      refine ⟨_, s3 _ _ nDB hD', ?_, ?_⟩
      · rw [List.length_map, List.length_map, el]
        exact small1000 (by omega)
      · refine ⟨(sb.trans s3).own hD, b3.other nDB.symm, ds ++ [c], by simp [el], fun z hz => ?_, ?_⟩
        · rcases List.mem_append.mp hz with q | q
          · exact e1 z q
          · rw [List.mem_singleton.mp q]
            exact hy3 c hc
        · rw [upd_same, List.map_append, List.map_append] <;> rfl
    · rintro H3 ⟨s3, b3, ds, el, e1, hD3⟩
      have el9 : ds.length ≤ 9 := by omega
      have one : ∀ z ∈ ds.map sgn, z.length = 1 := fun z hz => by
        obtain ⟨c, _, rfl⟩ := List.mem_map.mp hz
        rfl
      have zl : ((ds.map sgn).map (·.length)).sum + (ds.map sgn).length * (Str.ofString "").length ≤ 16777216 := by
        rw [sum_ones one, List.length_map]
        show ds.length + ds.length * 0 ≤ 16777216
        omega
      refine ⟨_, D, ds.map sgn, rfl, rfl, .inl (SqL.of hD3), zl, ?_⟩
      have tx := join_sgn ds
      have tl : (Txt.join (Str.ofString "") (ds.map sgn)).length ≤ 9 := by
        rw [len_cps, tx]
        exact el9
      have tlow : ∀ c ∈ (Txt.join (Str.ofString "") (ds.map sgn)).cps.toList, low c := by
        rw [tx]
        exact e1
      generalize ht : Txt.join (Str.ofString "") (ds.map sgn) = text at tl tlow
      have tz : text.length ≤ sizeLine := Nat.le_of_lt (small1000 (by omega))
      refine ⟨_, rfl, by show 1 ≤ sizeLine; decide, fun m hm => ?_⟩
      refine ⟨_, rfl, _, rfl, fun D2 hD2 => ?_⟩
      have nm2 : m ≠ D2 := fun e => by
        rw [← e, upd_same] at hD2
        cases hD2
      have hD2' : H3 D2 = none := by
        rw [upd_ne nm2.symm] at hD2
        exact hD2
      refine lc_it walk_str (fun i H' => ∃ zs : List Str, zs.length = i ∧ (∀ z ∈ zs, LowT z) ∧ H' = upd (upd H3 m (.lst [.str text])) D2 (.lst (zs.map V.str))) ⟨[], rfl, (fun z h => by cases h), rfl⟩ (fun _ _ _ _ => trivial) ?_ ?_
      · rintro i x H4 H5 hi ⟨zs, el, zlow, rfl⟩ ⟨rfl, c, hc, rfl⟩
        have hi26 : i < 26 := hi
        have lc : low c := alpha_low c (by
          have := Array.mem_of_getElem? hc
          simpa using this)
        refine ⟨rfl, ?_⟩
        refine ⟨_, rfl, _, rfl, text, rfl, tz, _, rfl, _, _, rfl, rfl, ?_, _, upd_same, ?_, ?_⟩
        · refine Nat.le_trans (Nat.add_le_add_right (cutS_length _ _ _) _) ?_
          exact Nat.le_of_lt (small1000 (by show text.length + 1 ≤ 1000; omega))
        · rw [List.length_map, el]
          exact small1000 (by omega)
        · refine ⟨zs ++ [cutS text none (some 7) ++ sgn c], by simp [el], fun z hz => ?_, ?_⟩
          · rcases List.mem_append.mp hz with q | q
            · exact zlow z q
            · rw [List.mem_singleton.mp q]
              exact LowT.cut tlow (by omega) _ lc
          · rw [upd_upd, List.map_append]
            rfl
      · rintro H4 ⟨zs, el, zlow, rfl⟩
        have elz : zs.length = 26 := el
        refine ⟨m, D2, _, _, rfl, rfl, (upd_ne nm2).trans upd_same, upd_same, ?_, fun p hp => ?_⟩
        · rw [List.length_map, elz]
          show 1 + 26 ≤ sizeLine
          decide
        have npD : p ≠ D2 := fun e => by
          rw [e, upd_same] at hp
          cases hp
        have npm : p ≠ m := fun e => by
          rw [upd_ne npD, e, upd_same] at hp
          cases hp
        have hp3 : H3 p = none := by
          rw [upd_ne npD, upd_ne npm] at hp
          exact hp
        have nBp := b3.ne hp3
        have nL : B ≠ L := bag_nl hB hL
        have sAll : SB B H3 (upd (upd (upd H3 m (.lst [.str text])) D2 (.lst (zs.map V.str))) p (.lst ([V.str text] ++ zs.map V.str))) :=
          (((SB.refl B H3).new hm).new hD2).new hp
        have s3' : SB B H H3 := s1'.trans (s2.trans s3)
        have bAll : BagAt (upd (upd (upd H3 m (.lst [.str text])) D2 (.lst (zs.map V.str))) p (.lst ([V.str text] ++ zs.map V.str))) B :=
          ((b3.new hm).new hD2).new hp
        have all : ∀ z ∈ text :: zs, LowT z := fun z hz => by
          rcases List.mem_cons.mp hz with q | q
          · rw [q]
            exact ⟨by omega, tlow⟩
          · exact zlow z q
        generalize hH : upd (upd (upd H3 m (.lst [.str text])) D2 (.lst (zs.map V.str))) p (.lst ([V.str text] ++ zs.map V.str)) = H9 at sAll bAll
        have hp9 : H9 p = some (.lst ((text :: zs).map V.str)) := by
          rw [← hH, upd_same]
          rfl
        refine ⟨p, rfl, ⟨_, SqL.of hp9⟩, ?_⟩
        refine for_list (K := K) (a := p) (xs := (text :: zs).map V.str) (fun i σ H' => ∃ v : Option V, σ = [some (.ref B), some (.ref L), some (.str _), some (.str y), some (.str text), v, none, none] ∧ SB B H9 H' ∧ BagAt H' B)
          ⟨none, rfl, SB.refl B H9, bAll⟩ (fun i σ H' _ ⟨_, _, sb, _⟩ => SqL.of (sb _ _ nBp hp9)) ?_ ?_
        · rintro i x σ H' hi ⟨v, rfl, sb, bg⟩
          obtain ⟨z, hz, rfl⟩ : ∃ z : Str, z ∈ text :: zs ∧ x = V.str z := by
            obtain ⟨z, hz, e⟩ := List.mem_map.mp (List.mem_of_getElem? hi)
            exact ⟨z, hz, e.symm⟩
          have hL' : H' L = some (.lst (ks.map V.str)) := (s3'.trans (sAll.trans sb)) _ _ nL.symm hL
          refine ⟨_, rfl, _, rfl, L, _, rfl, .inl (SqL.of hL'), rfl, flat_strs _, _, rfl, ?_⟩
          refine ite2 (fun _ => ?_) (fun _ => ?_)
          · refine ⟨_, rfl, rfl, fun H7 l7 same _ hl7 => ⟨l7, _, rfl, .inl (SqL.of hl7), rfl, flat_strs _, _, rfl, ?_⟩⟩
            have bg7 : BagAt H7 B := by
              obtain ⟨a1, a2, a3, q⟩ := bg
              exact ⟨a1, a2, a3, same _ _ q⟩
            refine ite2 (fun _ => ?_) (fun _ => ?_)
            · exact ⟨_, rfl, k _ _ (all z hz) (s3'.trans (sAll.trans (sb.trans (SB.of same)))) bg7⟩
            · exact ⟨_, rfl, sb.trans (SB.of same), bg7⟩
          · exact ⟨_, rfl, sb, bg⟩
        · rintro σ H' ⟨v, rfl, sb, bg⟩
          exact k _ _ zzz_low (s3'.trans (sAll.trans sb)) bg
end
end Wd

set_option Elab.async false
set_option linter.all false
set_option maxRecDepth 100000
set_option maxHeartbeats 4000000
namespace Wd
open PySem L2
theorem put_nodup {kvs : List (Key × V)} {k : Key} (v : V) (h : (kvs.map (·.1)).Nodup) : ((putK kvs k v).map (·.1)).Nodup := by
  cases e : valV kvs k with
  | none => exact nd_putK v h e
  | some u =>
    unfold putK
    rw [if_pos (by rw [valV_any, e]; rfl), List.map_map]
    have q : (kvs.map ((·.1) ∘ fun kv => if kv.1 = k then (kv.1, v) else kv)) = kvs.map (·.1) := List.map_congr_left fun p _ => by
      show (if p.1 = k then (p.1, v) else p).1 = p.1
      split <;> rfl
    rw [q]
    exact h
theorem put_mem {kvs : List (Key × V)} {k : Key} {v : V} {p : Key × V} (h : p ∈ putK kvs k v) : p ∈ kvs ∨ p = (k, v) := by
  unfold putK at h
  split at h
  · obtain ⟨q, hq, e⟩ := List.mem_map.mp h
    split at e
    · rename_i c
      exact .inr (by rw [← e, c])
    · exact .inl (e ▸ hq)
  · rcases List.mem_append.mp h with q | q
    · exact .inl q
    · exact .inr (List.mem_singleton.mp q)
/-- the letters of a source, laid -/
def LetAt (B : Addr) (H : Hp) (v : V) : Prop := ∃ t ds, v = .ref t ∧ t ≠ B ∧ H t = some (.tup (letV ds)) ∧ ds.length ≤ 26 ∧ ∀ c ∈ ds, low c
theorem LetAt.mono {B : Addr} {H H' : Hp} {v : V} (h : LetAt B H v) (s : SB B H H') : LetAt B H' v := by
  obtain ⟨t, ds, e, n, h, r⟩ := h
  exact ⟨t, ds, e, n, s _ _ n h, r⟩
def LayAt (B : Addr) (H : Hp) (d : Addr) (n : Nat) : Prop := ∃ kvs : List (Key × V), H d = some (.dK kvs) ∧ kvs.length ≤ n ∧ (kvs.map (·.1)).Nodup ∧ ∀ p ∈ kvs, (∃ z, p.1 = Sum.inr z ∧ LowT z) ∧ LetAt B H p.2
def spLayout : Sp := fun vs H Q _ => ∃ (B : Addr) (so le : Int), vs = [.ref B, .int so, .int le] ∧ BagAt H B ∧ 1 ≤ so ∧ so ≤ 5 ∧ 1 ≤ le ∧ le ≤ 5 ∧ ∀ d H', d ≠ B → LayAt B H' d 5 → SB B H H' → BagAt H' B → Q (.ref d) H'
theorem keysLow : ∀ {kvs : List (Key × V)}, (∀ p ∈ kvs, ∃ z, p.1 = Sum.inr z ∧ LowT z) → ∃ ks : List Str, kvs.map (·.1) = ks.map Sum.inr ∧ ks.length = kvs.length
  | [], _ => ⟨[], rfl, rfl⟩
  | p :: r, h => by
    obtain ⟨z, e, _⟩ := h p List.mem_cons_self
    obtain ⟨ks, e2, l⟩ := keysLow fun q hq => h q (List.mem_cons_of_mem _ hq)
    exact ⟨z :: ks, by rw [List.map_cons, List.map_cons, e, e2], by rw [List.length_cons, List.length_cons, l]⟩
section
variable {P : Program} {w : World} {K : PySem.W.Frag} {mg : Str → Option Value} {base : Heap} {fT fP fW fN fL : Addr}
abbrev nLayout : List Str := ["bag", "sources", "letters", "found", "turn", "name"]
theorem scLayout : FnScope nLayout ["bag", "sources", "letters"] (defScope sLayout) := ⟨rfl, rfl, rfl, by decide +kernel, rfl, by decide +kernel, by decide +kernel⟩
theorem ok_layout {f : Addr} {fd fdT fdP fdW fdN fdL : FuncData} (F : Fun K "_law_layout" "_law_layout" sLayout f fd) (T : GTxt mg fT fP) (wrds : mg "_law_words" = some (.ref fW)) (mN : mg "_law_name" = some (.ref fN)) (mL : mg "_law_letters" = some (.ref fL))
    (FT : Fun K "_law_throw" "_law_throw" sThrow fT fdT) (bT : Binds K fdT ["bag", "total"] []) (FP : Fun K "_law_pick" "_law_pick" sPick fP fdP) (bP : Binds K fdP ["bag", "items"] []) (FW : Fun K "_law_words" "_law_words" sWords fW fdW) (bW : Binds K fdW [] [])
    (FN : Fun K "_law_name" "_law_name" sName fN fdN) (bN : Binds K fdN ["bag", "known"] []) (FL : Fun K "_law_letters" "_law_letters" sLetters fL fdL) (bL : Binds K fdL ["bag", "most"] []) :
    FnOk P w K mg base CX0 4 f fd ["bag", "sources", "letters"] spLayout := by
  have GT : FnOk P w K mg base CX0 1 fT fdT ["bag", "total"] spThrow := ok_throw FT T.toTxtA
  have GN : FnOk P w K mg base CX0 3 fN fdN ["bag", "known"] spName := ok_name FN T wrds FT bT FP bP FW bW
  have GL : FnOk P w K mg base CX0 2 fL fdL ["bag", "most"] spLetters := ok_letters FL T FT bT
  refine F.ok scLayout (fun vs H Q E h => ?_) (fun cdv A outer s H vs Q E hr h => ?_)
  · obtain ⟨B, so, le, rfl, _⟩ := h
    rfl
  · obtain ⟨B, so, le, rfl, hB, so1, so5, le1, le5, k⟩ := h
    have hr1 : Room 1 _ := hr.mono (by decide)
    have hr2 : Room 2 _ := hr.mono (by decide)
    refine ⟨_, pss_cons (ps_set (i := 3) scLayout.nd rfl (Or.inl rfl) pe_dnewK)
      (pss_cons (ps_for PassesOwn.never rfl (pi_range1 rfl T.range (pa_cons (pe_op op_add pe_int (pe_call GT hr1 rfl T.thr FT.kp bT .nil pass0 (pa_cons (pv 0) (pa_cons (pv 1) pa_nil)))) pa_nil)) (pg_name (i := 4) scLayout.nd rfl (Or.inl rfl))
        (pss_cons (ps_set (i := 5) scLayout.nd rfl (Or.inl rfl) (pe_call GN hr rfl mN FN.kp bN .nil pass0 (pa_cons (pv 0) (pa_cons (pe_callB (call_sortedD rfl) (by rfl) T.sorted (by decide +kernel) (pa_cons (pv 3) pa_nil)) pa_nil))))
        (pss_one (ps_dput (hu_of hr) (pv 3) (pv 5) (pe_call GL hr2 rfl mL FL.kp bL .nil pass0 (pa_cons (pv 0) (pa_cons (pv 2) pa_nil))) rfl))))
      (pss_one (ps_ret (pv 3)))), ?_⟩
    refine fun d hd => ?_
    have nd : d ≠ B := hB.ne hd
    have b0 := hB.new (o := .dK []) hd
    have sb0 := (SB.refl B H).new (o := .dK []) hd
    have e0 : (upd H d (.dK [])) d = some (.dK []) := upd_same
    generalize upd H d (.dK []) = H0 at b0 sb0 e0
    refine ⟨_, rfl, _, rfl, B, so, rfl, b0, by omega, Int.le_trans so5 (by decide +kernel), fun r H1 r0 r1 s1 b1 => ?_⟩
    refine ⟨_, _, rfl, rfl, _, rfl, by omega, by omega, ?_⟩
    refine for_range (lo := 0) (n := (1 + r).toNat) (fun i σ H' => SB B H H' ∧ BagAt H' B ∧ LayAt B H' d i ∧ ∃ v4 v5, σ = [some (.ref B), some (.int so), some (.int le), some (.ref d), v4, v5])
      ⟨sb0.trans s1, b1, ⟨[], s1 _ _ nd e0, Nat.le_refl _, List.nodup_nil, fun p hp => nomatch hp⟩, _, _, rfl⟩ ?_ ?_
    · rintro i σ H2 hi ⟨sb, bg, ⟨kvs, hk, lk, ndk, gd⟩, v4, v5, rfl⟩
      obtain ⟨ks, ek, lks⟩ := keysLow fun p hp => (gd p hp).1
      refine ⟨_, rfl, _, rfl, d, kvs, ks, rfl, .inl hk, ek, by omega, fun ys p pm srt hp => ?_⟩
      have sb3 := sb.new (o := .lst (ys.map V.str)) hp
      have b3 := bg.new (o := .lst (ys.map V.str)) hp
      have hk3 : (upd H2 p (.lst (ys.map V.str))) d = some (.dK kvs) := (upd_ne (ne_of_none hk hp)).trans hk
      have gd3 : ∀ q ∈ kvs, LetAt B (upd H2 p (.lst (ys.map V.str))) q.2 := fun q hq => (gd q hq).2.mono ((SB.refl B H2).new hp)
      have ep : (upd H2 p (.lst (ys.map V.str))) p = some (.lst (ys.map V.str)) := upd_same
      generalize upd H2 p (.lst (ys.map V.str)) = H3 at sb3 b3 hk3 gd3 ep
      refine ⟨B, p, ys, rfl, b3, ep, fun z H4 hz s4 b4 => ?_⟩
      refine ⟨_, rfl, _, rfl, B, le, rfl, b4, le1, le5, fun t ds H5 ld lowd nt et s5 b5 => ?_⟩
      have hk5 := (s4.trans s5) _ _ nd hk3
      refine ⟨_, rfl, _, rfl, d, _, rfl, DPut.k (k := Sum.inr z) hk5 (small1000 (by omega)), ?_⟩
      have ntd : t ≠ d := fun q => by
        rw [q, hk5] at et
        cases et
      refine ⟨?_, b5.other (Ne.symm nd), ⟨_, upd_same, ?_, put_nodup _ ndk, fun q hq => ?_⟩, _, _, rfl⟩
      · exact ((sb3.trans s4).trans s5).own hd
      · exact Nat.le_trans (length_putK _ _ _) (by omega)
      · rcases put_mem hq with m | rfl
        · obtain ⟨t', ds', e', n', h', r'⟩ := (gd3 q m).mono (s4.trans s5)
          refine ⟨(gd q m).1, t', ds', e', n', (upd_ne fun z => ?_).trans h', r'⟩
          rw [z, hk5] at h'
          cases h'
        · exact ⟨⟨z, rfl, hz⟩, t, ds, rfl, nt, (upd_ne ntd).trans et, ld, lowd⟩
    · rintro σ H2 ⟨sb, bg, ⟨kvs, hk, lk, ndk, gd⟩, v4, v5, rfl⟩
      exact ⟨_, rfl, k d H2 nd ⟨kvs, hk, by omega, ndk, gd⟩ sb bg⟩
end
end Wd

set_option Elab.async false
set_option linter.all false
set_option maxRecDepth 100000
set_option maxHeartbeats 4000000
namespace Wd
open PySem L2
theorem ob_of {B : Addr} {H H' : Hp} (h : SB B H H') : Ob [B] H H' := fun b o n e => h b o (by simpa using n) e
theorem ok_append {a b : Str} (ha : PyData.strOk a = true) (hb : PyData.strOk b = true) : PyData.strOk (a ++ b) = true := by
  unfold PyData.strOk at *
  rw [Array.all_eq_true'] at *
  intro c hc
  have hc' : c ∈ (a ++ b).cps.toList := by simpa using hc
  rw [cps_append] at hc'
  rcases List.mem_append.mp hc' with q | q
  · exact ha c (by simpa using q)
  · exact hb c (by simpa using q)
theorem ok_cut {a : Str} (ha : PyData.strOk a = true) (lo hi : Option Int) : PyData.strOk (cutS a lo hi) = true := by
  unfold PyData.strOk at *
  rw [Array.all_eq_true'] at *
  intro c hc
  exact ha c (by simpa using cutS_mem (by simpa using hc : c ∈ (cutS a lo hi).cps.toList))
theorem cut_to (z : Str) (i : Nat) : (cutS z none (some (i : Int))).length = min i z.length := by
  show (((z.cps.toList.drop 0).take (HT.sIx z.length z.length (some (i : Int)) - 0)).toArray).size = _
  rw [List.size_toArray, List.length_take, List.drop_zero, HT.sIx_nat, ← len_cps]
  omega
theorem cut_from (z : Str) (i : Nat) : (cutS z (some (i : Int)) none).length = z.length - min i z.length := by
  show (((z.cps.toList.drop (HT.sIx z.length 0 (some (i : Int)))).take (z.length - HT.sIx z.length 0 (some (i : Int)))).toArray).size = _
  rw [List.size_toArray, List.length_take, List.length_drop, HT.sIx_nat, ← len_cps]
  omega
theorem paired_app {α β : Type} {F : α → β → Prop} : ∀ {l : List α} {r : List β} {l' : List α} {r' : List β}, Paired F l r → Paired F l' r' → Paired F (l ++ l') (r ++ r')
  | _, _, _, _, .nil, h => h
  | _, _, _, _, .cons a t, h => .cons a (paired_app t h)
def spOdd (T : List Addr → Hp → Addr → Prop) : Sp := fun vs H Q _ => ∃ B : Addr, vs = [.ref B] ∧ BagAt H B ∧ ∀ v H', Dat T [B] H' 200 3 v → SB B H H' → BagAt H' B → Q v H'
def spSpoiled (T : List Addr → Hp → Addr → Prop) (n : Nat) : Sp := fun vs H Q _ => ∃ (B : Addr) (v : V) (m : Nat), vs = [.ref B, v] ∧ BagAt H B ∧ 200 ≤ m ∧ m ≤ 800 ∧ Dat T [B] H m n v ∧
  ∀ u H', Dat T [B] H' (m + 100) (n + 3) u → ((∃ z, v = .str z) → ∃ z, u = .str z) → SB B H H' → BagAt H' B → Q u H'
/-- what t + u asks, for whatever stands at its answer -/
theorem cat_uni {K : PySem.W.Frag} {B a b : Addr} {xs ys : List V} {H : Hp} {Q : VK} (na : a ≠ B) (nb : b ≠ B) (bg : BagAt H B) (ha : H a = some (.tup xs)) (hb : H b = some (.tup ys)) (l : xs.length + ys.length ≤ 1000)
    (k : ∀ t H', t ≠ B → Same H H' → BagAt H' B → H' t = some (.tup (xs ++ ys)) → Q (.ref t) H') : TO.rCatE K (.ref a) (.ref b) H Q := by
  refine ⟨a, b, xs, ys, rfl, rfl, SqT.of ha, SqT.of hb, Nat.le_of_lt (small1000 l), fun e => ?_, fun e e2 => ?_, fun _ _ p hp => ?_⟩
  · exact k b H nb (Same.refl _) bg (by rw [hb, e]; rfl)
  · exact k a H na (Same.refl _) bg (by rw [ha, e2, List.append_nil])
  · exact k p _ (bg.ne hp) (fun b o e => by rw [upd_ne (ne_of_none e hp)]; exact e) (bg.new hp) upd_same
section
variable {P : Program} {w : World} {K : PySem.W.Frag} {mg : Str → Option Value} {base : Heap} {T : List Addr → Hp → Addr → Prop} {fT fP fO : Addr} {lo : Nat}
abbrev nSpoiled : List Str := ["bag", "value", "way", "signs", "place", "put", "behind", "inner", "key", "other", "found", "one"]
theorem scSpoiled : FnScope nSpoiled ["bag", "value"] (defScope sSpoiled) := ⟨rfl, rfl, rfl, by decide +kernel, rfl, by decide +kernel, by decide +kernel⟩
theorem ok_spoiled (O : Own K T) {f : Addr} {fd fdT fdP fdO : FuncData} (F : Fun K "_law_spoiled" "_law_spoiled" sSpoiled f fd) (b : Binds K fd ["bag", "value"] []) (X : GTxt mg fT fP) (isin : mg "isinstance" = none) (mstr : mg "str" = none) (mdict : mg "dict" = none)
    (ms : mg "_law_spoiled" = some (.ref f)) (mo : mg "_law_odd" = some (.ref fO)) (FT : Fun K "_law_throw" "_law_throw" sThrow fT fdT) (bT : Binds K fdT ["bag", "total"] []) (FP : Fun K "_law_pick" "_law_pick" sPick fP fdP) (bP : Binds K fdP ["bag", "items"] [])
    (kO : PySem.W.keepIn K (.ref fO) = true) (bO : Binds K fdO ["bag"] []) (GO : FnOk P w K mg base CX0 lo fO fdO ["bag"] (spOdd T)) (h2 : 2 ≤ lo) :
    ∀ n, FnOk P w K mg base CX0 (lo + n + 1) f fd ["bag", "value"] (spSpoiled T n)
  | 0 => by
    refine F.ok scSpoiled (fun vs H Q E h => ?_) (fun cdv A outer s H vs Q E hr h => ?_)
    · obtain ⟨B, v, m, rfl, _⟩ := h
      rfl
    · obtain ⟨B, v, m, rfl, _, _, _, d, _⟩ := h
      cases d
  | n + 1 => by
    have G : FnOk P w K mg base CX0 (lo + n + 1) f fd ["bag", "value"] (spSpoiled T n) := ok_spoiled O F b X isin mstr mdict ms mo FT bT FP bP kO bO GO h2 n
    have GT : FnOk P w K mg base CX0 1 fT fdT ["bag", "total"] spThrow := ok_throw FT X.toTxtA
    have GS : FnOk P w K mg base CX0 2 fP fdP ["bag", "items"] spPickS := ok_pickS FP X.toTxtA FT bT
    have GL : FnOk P w K mg base CX0 2 fP fdP ["bag", "items"] spPickL := ok_pickL FP X.toTxtA FT bT
    refine F.ok scSpoiled (fun vs H Q E h => ?_) (fun cdv A outer s H vs Q E hr h => ?_)
    · obtain ⟨B, v, m, rfl, _⟩ := h
      rfl
    · obtain ⟨B, v, m, rfl, hB, hm2, hm, d, k⟩ := h
      have hr1 : Room 1 _ := hr.mono (by omega)
      have hr2 : Room 2 _ := hr.mono (by omega)
      have hrO : Room lo _ := hr.mono (by omega)
      refine ⟨_, pss_cons (ps_set (i := 2) scSpoiled.nd rfl (Or.inr rfl) (pe_call GT hr1 rfl X.thr FT.kp bT .nil pass0 (pa_cons (pv 0) (pa_cons pe_int pa_nil))))
        (pss_cons (ps_if (pt_val (pe_isi (N := "str") (pv 1) isin mstr))
          (pss_cons (ps_set (i := 3) scSpoiled.nd rfl (Or.inl rfl) pe_str)
          (pss_cons (ps_set (i := 4) scSpoiled.nd rfl (Or.inl rfl) (pe_call GT hr1 rfl X.thr FT.kp bT .nil pass0 (pa_cons (pv 0) (pa_cons (pe_op op_add (pe_callB call_len_str (by rfl) X.len PySem.boot_len (pa_cons (pv 1) pa_nil)) pe_int) pa_nil))))
          (pss_cons (ps_set (i := 5) scSpoiled.nd rfl (Or.inl rfl) (pe_ix ix_list (pe_lst (pa_cons (pe_call GS hr2 rfl X.pick FP.kp bP .nil pass0 (pa_cons (pv 0) (pa_cons (pv 3) pa_nil))) (pa_cons pe_str (pa_cons (pe_call GS hr2 rfl X.pick FP.kp bP .nil pass0 (pa_cons (pv 0) (pa_cons (pv 3) pa_nil))) pa_nil))))
              (pe_op op_mod (pe_callTy call_int1 (by rfl) X.int (by decide +kernel) (pa_cons (pv 2) pa_nil)) pe_int) (fun _ _ => rfl)))
          (pss_cons (ps_set (i := 6) scSpoiled.nd rfl (Or.inl rfl) (pe_op op_add (pe_op op_add (pv 4) (pe_op op_fdiv (pv 2) pe_int)) (pe_callTy call_int1 (by rfl) X.int (by decide +kernel) (pa_cons (pe_cmpR op_eq (pv 5) pe_str (nomark _)) pa_nil))))
          (pss_one (ps_ret (pe_op op_add_str (pe_op op_add_str (pe_slice sl_str (pv 1) po_none (po_some (pv 4))) (pv 5)) (pe_slice sl_str (pv 1) (po_some (pv 6)) po_none)))))))) pss_nil)
        (pss_cons (ps_if (PW.pt (pw_and (pt_val (pe_isi (N := "tuple") (pv 1) isin X.tuple)) (pw_and (pt_truth (pv 1) (by intro _; rfl)) (pw_and1 (pt_cmpR op_lt (pv 2) pe_int (nomark _))))))
          (pss_cons (ps_set (i := 4) scSpoiled.nd rfl (Or.inl rfl) (pe_call GT hr1 rfl X.thr FT.kp bT .nil pass0 (pa_cons (pv 0) (pa_cons (pe_callB call_len_seq (by rfl) X.len PySem.boot_len (pa_cons (pv 1) pa_nil)) pa_nil))))
          (pss_cons (ps_set (i := 7) scSpoiled.nd rfl (Or.inl rfl) (pe_tup (pa_cons (pe_call G hr rfl ms F.kp b .nil pass0 (pa_cons (pv 0) (pa_cons (pe_ix ix_tup (pv 1) (pv 4) (fun _ _ => rfl)) pa_nil))) pa_nil)))
          (pss_cons (ps_set (i := 7) scSpoiled.nd rfl (Or.inl rfl) (pe_ix ix_list (pe_lst (pa_cons (pv 7) (pa_cons (pe_tup pa_nil) (pa_cons (pe_tup (pa_cons (pe_ix ix_tup (pv 1) (pv 4) (fun _ _ => rfl)) (pa_cons (pe_ix ix_tup (pv 1) (pv 4) (fun _ _ => rfl)) pa_nil))) (pa_cons (pv 7) pa_nil))))) (pv 2) (fun _ _ => rfl)))
          (pss_one (ps_ret (pe_op TO.op_catE (pe_op TO.op_catE (pe_slice sl_tup (pv 1) po_none (po_some (pv 4))) (pv 7)) (pe_slice sl_tup (pv 1) (po_some (pe_op op_add (pv 4) pe_int)) po_none))))))) pss_nil)
        (pss_cons (ps_if (PW.pt (pw_and (pt_val (pe_isi (N := "tuple") (pv 1) isin X.tuple)) (pw_and1 (pt_truth (pv 1) (by intro _; rfl)))))
          (pss_one (ps_ret (pe_ifExp (pt_cmpR op_eq (pv 2) pe_int (nomark _)) (pe_callTy call_list_of (by rfl) X.list (by decide +kernel) (pa_cons (pv 1) pa_nil)) (TO.pe_revT (pv 1))))) pss_nil)
        (pss_cons (ps_if (PW.pt (pw_and (pt_val (pe_isi (N := "dict") (pv 1) isin mdict)) (pw_and1 (pt_truth (pv 1) (by intro _; rfl)))))
          (pss_cons (ps_set (i := 8) scSpoiled.nd rfl (Or.inr rfl) (pe_call GL hr2 rfl X.pick FP.kp bP .nil pass0 (pa_cons (pv 0) (pa_cons (pe_callB (call_sortedD rfl) (by rfl) X.sorted (by decide +kernel) (pa_cons (pv 1) pa_nil)) pa_nil))))
          (pss_cons (ps_set (i := 9) scSpoiled.nd rfl (Or.inl rfl) (pe_call G hr rfl ms F.kp b .nil pass0 (pa_cons (pv 0) (pa_cons (pv 8) pa_nil))))
          (pss_cons (ps_set (i := 7) scSpoiled.nd rfl (Or.inl rfl) (pe_call G hr rfl ms F.kp b .nil pass0 (pa_cons (pv 0) (pa_cons (pe_dget (hu_of hr) (pv 1) (pv 8) (fun _ _ => rfl)) pa_nil))))
          (pss_cons (ps_set (i := 10) scSpoiled.nd rfl (Or.inl rfl) (pe_callTy (call_dictP rfl) (by rfl) mdict (by decide +kernel) (pa_cons (pe_lock (pe_lc (own := [("one", 11)]) (g := gName 11) rfl scSpoiled.nd (pi_keys (pv 1))
              (blkOk_by (N := nSpoiled) (sc := defScope sSpoiled) (by decide +kernel)) (fun _ _ _ _ _ => pg_name (i := 11) scSpoiled.nd rfl (Or.inl rfl))
              (fun _ _ _ _ _ => pts_one (PW.pt (pw_or (pt_cmpR op_ne (pv 11) (pv 8) (nomark _)) (pw_or1 (pt_cmpR (r := rIn K true) op_notIn_seq (pv 2) (pe_tup (pa_cons pe_int (pa_cons pe_int (pa_cons pe_int pa_nil)))) (by rfl))))))
              (fun _ _ _ _ _ => pe_tup (pa_cons (pv 11) (pa_cons (pe_dget (hu_of hr) (pv 1) (pv 11) (fun _ _ => rfl)) pa_nil))))) pa_nil)))
          (pss_cons (ps_if (pt_cmpR op_ne (pv 2) pe_int (nomark _)) (pss_one (ps_dput (hu_of hr) (pv 10) (pe_ix ix_list (pe_lst (pa_cons (pv 9) (pa_cons (pv 9) (pa_cons (pv 8) (pa_cons (pv 8) (pa_cons (pv 8) (pa_cons (pv 9) pa_nil))))))) (pv 2) (fun _ _ => rfl))
              (pe_ix ix_list (pe_lst (pa_cons (pe_dget (hu_of hr) (pv 1) (pv 8) (fun _ _ => rfl)) (pa_cons (pv 7) pa_nil))) (pe_op op_mod (pe_callTy call_int1 (by rfl) X.int (by decide +kernel) (pa_cons (pe_op op_fdiv (pv 2) pe_int) pa_nil)) pe_int) (fun _ _ => rfl)) rfl)) pss_nil)
          (pss_one (ps_ret (pv 10)))))))) pss_nil)
        (pss_one (ps_ret (pe_call GO hrO rfl mo kO bO .nil pass0 (pa_cons (pv 0) pa_nil)))))))), ?_⟩
      refine ⟨_, rfl, B, 6, rfl, hB, by decide, by decide +kernel, fun r H1 r0 r1 s1 b1 => ?_⟩
      have d1 := d.mono O (ob_of s1)
      rcases d1.isStr O (Ob.refl [B] H1) with ⟨z, rfl, hz, i1⟩ | ⟨ns, i1⟩
      · have hzl : z.length ≤ sizeLine := Nat.le_of_lt (small1000 (by omega))
        have oz := d1.okS
        refine ⟨_, rfl, _, i1, _, rfl, iteT ⟨_, rfl, _, rfl, z, rfl, hzl, _, _, rfl, rfl, B, _, rfl, b1, by omega, Int.le_trans (by omega : ((z.length : Int) + 1) ≤ 1000) (by decide +kernel), fun q H2 q0 q1 s2 b2 => ?_⟩⟩
        refine ⟨_, rfl, _, rfl, B, _, rfl, b2, by decide, by decide, fun c H3 hc s3 b3 => ⟨_, rfl, _, rfl, B, _, rfl, b3, by decide, by decide, fun c2 H4 hc2 s4 b4 => ?_⟩⟩
        refine ⟨(by show 3 ≤ sizeLine; decide), fun l hl => ⟨_, rfl, .inl ⟨r, rfl, _, _, rfl, rfl, (by show (0 : Int) < 3; decide), ?_⟩⟩⟩
        have sg : ∀ c ∈ (Str.ofString "abcdefghijklmnopqrstuvwxyz ABCXYZ019_-.,:;+*/()[]{}<>=!?&@#$^`|~'").cps.toList, c < 0x110000 := by decide +kernel
        obtain ⟨p, hp, lp, op⟩ : ∃ p : Str, atI [V.str ⟨#[c]⟩, V.str (Str.ofString ""), V.str ⟨#[c2]⟩] (r % 3) = some (.str p) ∧ p.length ≤ 1 ∧ PyData.strOk p = true := by
          have o1 : ∀ {x : Nat}, x < 0x110000 → PyData.strOk ⟨#[x]⟩ = true := fun h => by simp [PyData.strOk, h]
          have h3 : r % 3 = 0 ∨ r % 3 = 1 ∨ r % 3 = 2 := by omega
          rcases h3 with e | e | e
          · exact ⟨_, by rw [e]; rfl, Nat.le_refl _, o1 (sg c hc)⟩
          · exact ⟨_, by rw [e]; rfl, Nat.zero_le _, by decide +kernel⟩
          · exact ⟨_, by rw [e]; rfl, Nat.le_refl _, o1 (sg c2 hc2)⟩
        refine ⟨l, _, _, _, rfl, rfl, SqL.of upd_same, hp, ?_⟩
        have b5 := b4.new (o := .lst [V.str ⟨#[c]⟩, V.str (Str.ofString ""), V.str ⟨#[c2]⟩]) hl
        have s5 : SB B H (upd H4 l (.lst [V.str ⟨#[c]⟩, V.str (Str.ofString ""), V.str ⟨#[c2]⟩])) := (s1.trans (s2.trans (s3.trans s4))).new hl
        generalize upd H4 l (.lst [V.str ⟨#[c]⟩, V.str (Str.ofString ""), V.str ⟨#[c2]⟩]) = H5 at b5 s5
        refine ⟨_, rfl, _, rfl, _, _, rfl, rfl, ⟨by decide, by decide⟩, _, _, rfl, rfl, _, rfl, rfl, .inr ⟨_, rfl, _, _, rfl, rfl, ?_⟩⟩
        obtain ⟨be, hbe, bq⟩ : ∃ be : Nat, q + r / 3 + (if decide (V.str p = V.str (Str.ofString "")) then (1 : Int) else 0) = (be : Int) ∧ q.toNat ≤ be := by
          have g : (0 : Int) ≤ (if decide (V.str p = V.str (Str.ofString "")) then (1 : Int) else 0) := by split <;> decide
          exact ⟨(q + r / 3 + (if decide (V.str p = V.str (Str.ofString "")) then (1 : Int) else 0)).toNat, by omega, by omega⟩
        obtain ⟨qn, rfl⟩ := Int.eq_ofNat_of_zero_le q0
        dsimp only
        rw [hbe]
        have l1 := cut_to z qn
        have l2 := cut_from z be
        have len1 : (cutS z none (some (qn : Int)) ++ p).length = (cutS z none (some (qn : Int))).length + p.length := by
          rw [len_cps, cps_append, List.length_append, ← len_cps, ← len_cps]
        have len2 : (cutS z none (some (qn : Int)) ++ p ++ cutS z (some (be : Int)) none).length = (cutS z none (some (qn : Int)) ++ p).length + (cutS z (some (be : Int)) none).length := by
          rw [len_cps, cps_append, List.length_append, ← len_cps, ← len_cps]
        have few : ∀ {a : Nat}, a ≤ 1000 → a ≤ sizeLine := fun h => Nat.le_of_lt (small1000 h)
        refine ⟨_, rfl, _, rfl, _, rfl, z, rfl, hzl, _, rfl, _, _, rfl, rfl, few (by omega), _, rfl, _, rfl, _, rfl, z, rfl, hzl, _, _, rfl, rfl, few (by omega), ?_⟩
        refine k _ _ (.str _ ?_ (ok_append (ok_append (ok_cut oz _ _) op) (ok_cut oz _ _))) (fun _ => ⟨_, rfl⟩) s5 b5
        rw [len2, len1, l1, l2]
        simp at bq
        omega
      · refine ⟨_, rfl, _, i1, _, rfl, iteF ?_⟩
        have few : ∀ {a : Nat}, a ≤ 1000 → a ≤ sizeLine := fun h => Nat.le_of_lt (small1000 h)
        have nos' : ∀ {u : V}, (∃ z, v = .str z) → ∃ z, u = .str z := fun ⟨z, e⟩ => (ns z e).elim
        have odd : ∀ {H9 : Hp}, SB B H H9 → BagAt H9 B → ∀ u H', Dat T [B] H' 200 3 u → SB B H9 H' → BagAt H' B → Q u H' := fun s _ u H' du s' b' => k u H' (du.up (by omega) (by omega)) nos' (s.trans s') b'
        have leaf : Isi K H1 v "tuple" false → Isi K H1 v "dict" false → True := fun _ _ => trivial
        cases d1 with
        | str z h o => exact (ns z rfl).elim
        | non => exact ⟨_, rfl, _, isi_ty (.base .non) (by decide), _, rfl, iteF (iteF ⟨_, rfl, _, isi_ty (.base .non) (by decide), _, rfl, iteF (iteF ⟨_, rfl, _, isi_ty (.base .non) (by decide), _, rfl, iteF (iteF ⟨_, rfl, B, rfl, b1, odd s1 b1⟩)⟩)⟩)⟩
        | bl x => exact ⟨_, rfl, _, isi_ty (.base (.bl x)) (by decide), _, rfl, iteF (iteF ⟨_, rfl, _, isi_ty (.base (.bl x)) (by decide), _, rfl, iteF (iteF ⟨_, rfl, _, isi_ty (.base (.bl x)) (by decide), _, rfl, iteF (iteF ⟨_, rfl, B, rfl, b1, odd s1 b1⟩)⟩)⟩)⟩
        | int x => exact ⟨_, rfl, _, isi_ty (.base (.int x)) (by decide), _, rfl, iteF (iteF ⟨_, rfl, _, isi_ty (.base (.int x)) (by decide), _, rfl, iteF (iteF ⟨_, rfl, _, isi_ty (.base (.int x)) (by decide), _, rfl, iteF (iteF ⟨_, rfl, B, rfl, b1, odd s1 b1⟩)⟩)⟩)⟩
        | own t => exact ⟨_, rfl, _, O.isi t (by decide), _, rfl, iteF (iteF ⟨_, rfl, _, O.isi t (by decide), _, rfl, iteF (iteF ⟨_, rfl, _, O.isi t (by decide), _, rfl, iteF (iteF ⟨_, rfl, B, rfl, b1, odd s1 b1⟩)⟩)⟩)⟩
        | lst ne e l p => exact ⟨_, rfl, _, isi_ty (.base (.lst e)) (by decide), _, rfl, iteF (iteF ⟨_, rfl, _, isi_ty (.base (.lst e)) (by decide), _, rfl, iteF (iteF ⟨_, rfl, _, isi_ty (.base (.lst e)) (by decide), _, rfl, iteF (iteF ⟨_, rfl, B, rfl, b1, odd s1 b1⟩)⟩)⟩)⟩
        | @tup _ a xs ne e1 hl hk =>
          have it : Isi K H1 (.ref a) "tuple" true := isi_ty (.base (.tup e1)) (by decide)
          have idk : Isi K H1 (.ref a) "dict" false := isi_ty (.base (.tup e1)) (by decide)
          have nB : a ≠ B := by simpa using ne
          cases hx : xs with
          | nil =>
            subst hx
            exact ⟨_, rfl, _, it, _, rfl, iteT ⟨_, rfl, false, .inr (.inl ⟨[], SqT.of e1, rfl⟩), iteF (iteF ⟨_, rfl, _, it, _, rfl, iteT ⟨_, rfl, false, .inr (.inl ⟨[], SqT.of e1, rfl⟩), iteF ⟨_, rfl, _, idk, _, rfl, iteF (iteF ⟨_, rfl, B, rfl, b1, odd s1 b1⟩)⟩⟩⟩)⟩⟩
          | cons x0 xr =>
            have ex : xs ≠ [] := fun q => by
              rw [q] at hx
              cases hx
            have em : (true : Bool) = !xs.isEmpty := by
              rw [hx]
              rfl
            have l0 : 0 < xs.length := List.length_pos_iff.mpr ex
            clear hx
            have tr : TruV K (.ref a) H1 true := .inr (.inl ⟨xs, SqT.of e1, em⟩)
            refine ⟨_, rfl, _, it, _, rfl, iteT ⟨_, rfl, true, tr, iteT ⟨_, rfl, _, _, rfl, rfl, _, rfl, ?_⟩⟩⟩
            refine ite2 (fun c => ?_) (fun c => ?_)
            · have c' : r < 4 := of_decide_eq_true c
              refine ⟨_, rfl, _, rfl, a, xs, rfl, .inr (SqT.of e1), B, _, rfl, b1, by omega, Int.le_trans (by omega : (xs.length : Int) ≤ 1000) (by decide +kernel), fun q H2 q0 q1 s2 b2 => ?_⟩
              obtain ⟨qn, rfl⟩ := Int.eq_ofNat_of_zero_le q0
              have hq : qn < xs.length := by omega
              have e2 := s2 _ _ nB e1
              have gx : xs[qn]? = some xs[qn] := List.getElem?_eq_getElem hq
              have gi : atI xs (qn : Int) = some xs[qn] := atI_nat gx
              have mx : xs[qn] ∈ xs := List.getElem_mem hq
              refine ⟨_, rfl, _, rfl, _, rfl, a, xs, _, _, rfl, rfl, SqT.of e2, gi, B, _, m, rfl, b2, hm2, hm, (hk _ mx).mono O (ob_of s2), fun u H3 du _ s3 b3 => ?_⟩
              have e3 := s3 _ _ nB e2
              refine ⟨(by show 1 ≤ sizeLine; decide), fun p1 hp1 => ?_⟩
              have n1 := b3.ne hp1
              have b4 := b3.new (o := .tup [u]) hp1
              have s4 := (SB.refl B H3).new (o := .tup [u]) hp1
              have g1 : (upd H3 p1 (.tup [u])) p1 = some (.tup [u]) := upd_same
              generalize upd H3 p1 (.tup [u]) = H4 at b4 s4 g1
              have e4 := s4 _ _ nB e3
              refine ⟨_, rfl, (by show 0 ≤ sizeLine; decide), fun p2 hp2 => ?_⟩
              have n2 := b4.ne hp2
              have b5 := b4.new (o := .tup []) hp2
              have s5 := (SB.refl B H4).new (o := .tup []) hp2
              have g2 : (upd H4 p2 (.tup [])) p2 = some (.tup []) := upd_same
              generalize upd H4 p2 (.tup []) = H5 at b5 s5 g2
              have e5 := s5 _ _ nB e4
              refine ⟨_, rfl, _, rfl, a, xs, _, _, rfl, rfl, SqT.of e5, gi, _, rfl, _, rfl, a, xs, _, _, rfl, rfl, SqT.of e5, gi, (by show 2 ≤ sizeLine; decide), fun p3 hp3 => ?_⟩
              have n3 := b5.ne hp3
              have b6 := b5.new (o := .tup [xs[qn], xs[qn]]) hp3
              have s6 := (SB.refl B H5).new (o := .tup [xs[qn], xs[qn]]) hp3
              have g3 : (upd H5 p3 (.tup [xs[qn], xs[qn]])) p3 = some (.tup [xs[qn], xs[qn]]) := upd_same
              generalize upd H5 p3 (.tup [xs[qn], xs[qn]]) = H6 at b6 s6 g3
              refine ⟨_, rfl, (by show 4 ≤ sizeLine; decide), fun l hl4 => ?_⟩
              have b7 := b6.new (o := .lst [.ref p1, .ref p2, .ref p3, .ref p1]) hl4
              have s7 := (SB.refl B H6).new (o := .lst [.ref p1, .ref p2, .ref p3, .ref p1]) hl4
              have g4 : (upd H6 l (.lst [.ref p1, .ref p2, .ref p3, .ref p1])) l = some (.lst [.ref p1, .ref p2, .ref p3, .ref p1]) := upd_same
              generalize upd H6 l (.lst [.ref p1, .ref p2, .ref p3, .ref p1]) = H7 at b7 s7 g4
              have s37 : SB B H3 H7 := s4.trans (s5.trans (s6.trans s7))
              have s17 : SB B H1 H7 := s2.trans (s3.trans s37)
              have du7 : Dat T [B] H7 (m + 100) (n + 3) u := du.mono O (ob_of s37)
              have dx7 : Dat T [B] H7 (m + 100) (n + 3) xs[qn] := ((hk _ mx).mono O (ob_of s17)).up (by omega) (by omega)
              obtain ⟨pq, ys, gq, hpq, nq, ly, dy⟩ : ∃ pq ys, atI [V.ref p1, .ref p2, .ref p3, .ref p1] r = some (.ref pq) ∧ H7 pq = some (.tup ys) ∧ pq ≠ B ∧ ys.length ≤ 2 ∧ ∀ y ∈ ys, Dat T [B] H7 (m + 100) (n + 3) y := by
                have h1 : H7 p1 = some (.tup [u]) := (s5.trans (s6.trans s7)) _ _ n1 g1
                have h2 : H7 p2 = some (.tup []) := (s6.trans s7) _ _ n2 g2
                have h3 : H7 p3 = some (.tup [xs[qn], xs[qn]]) := s7 _ _ n3 g3
                have h4 : r = 0 ∨ r = 1 ∨ r = 2 ∨ r = 3 := by omega
                have m1 : ∀ y ∈ [u], Dat T [B] H7 (m + 100) (n + 3) y := fun y hy => by rw [List.mem_singleton.mp hy]; exact du7
                rcases h4 with rfl | rfl | rfl | rfl
                · exact ⟨p1, _, rfl, h1, n1, by simp, m1⟩
                · exact ⟨p2, _, rfl, h2, n2, by simp, fun y hy => nomatch hy⟩
                · refine ⟨p3, _, rfl, h3, n3, by simp, fun y hy => ?_⟩
                  have : y = xs[qn] := by simpa using hy
                  rw [this]
                  exact dx7
                · exact ⟨p1, _, rfl, h1, n1, by simp, m1⟩
              refine ⟨_, rfl, l, _, _, _, rfl, rfl, SqL.of g4, gq, ?_⟩
              have e7 := s17 _ _ nB e1
              have c1 : cutV xs none (some (qn : Int)) = xs.take qn := by
                unfold cutV
                rw [HT.sIx_none, HT.sIx_nat, List.drop_zero, Nat.sub_zero, Nat.min_eq_left (by omega)]
              have c2 : cutV xs (some ((qn : Int) + 1)) none = xs.drop (qn + 1) := by
                unfold cutV
                rw [show (qn : Int) + 1 = ((qn + 1 : Nat) : Int) from by omega, HT.sIx_nat, HT.sIx_none, Nat.min_eq_left (by omega)]
                exact List.take_of_length_le (by rw [List.length_drop]; exact Nat.le_refl _)
              have lt1 : (xs.take qn).length = qn := by rw [List.length_take]; omega
              have lt2 : (xs.drop (qn + 1)).length = xs.length - (qn + 1) := List.length_drop
              refine ⟨_, rfl, _, rfl, _, rfl, a, xs, rfl, SqT.of e7, ?_, fun p4 hp4 => ?_⟩
              · rintro ⟨_, w2⟩
                rw [HT.sIx_nat] at w2
                omega
              rw [c1]
              have n4 := b7.ne hp4
              have b8 := b7.new (o := .tup (xs.take qn)) hp4
              have s8 := (SB.refl B H7).new (o := .tup (xs.take qn)) hp4
              have g8 : (upd H7 p4 (.tup (xs.take qn))) p4 = some (.tup (xs.take qn)) := upd_same
              generalize upd H7 p4 (.tup (xs.take qn)) = H8 at b8 s8 g8
              refine ⟨_, rfl, cat_uni n4 nq b8 g8 (s8 _ _ nq hpq) (by omega) fun t H9 nt s9 b9 ht => ?_⟩
              have s79 : SB B H7 H9 := s8.trans (SB.of s9)
              have e9 := s79 _ _ nB e7
              refine ⟨_, rfl, _, rfl, _, _, rfl, rfl, _, rfl, a, xs, rfl, SqT.of e9, ?_, fun p5 hp5 => ?_⟩
              · rintro ⟨w1, _⟩
                rw [show (qn : Int) + 1 = ((qn + 1 : Nat) : Int) from by omega, HT.sIx_nat] at w1
                omega
              rw [c2]
              have n5 := b9.ne hp5
              have b10 := b9.new (o := .tup (xs.drop (qn + 1))) hp5
              have s10 := (SB.refl B H9).new (o := .tup (xs.drop (qn + 1))) hp5
              have g10 : (upd H9 p5 (.tup (xs.drop (qn + 1)))) p5 = some (.tup (xs.drop (qn + 1))) := upd_same
              generalize upd H9 p5 (.tup (xs.drop (qn + 1))) = H10 at b10 s10 g10
              have lapp : (xs.take qn ++ ys).length = qn + ys.length := by rw [List.length_append, lt1]
              refine cat_uni nt n5 b10 (s10 _ _ nt ht) g10 (by omega) fun t' H11 nt' s11 b11 ht' => ?_
              have s711 : SB B H7 H11 := s79.trans (s10.trans (SB.of s11))
              refine k _ _ (.tup (by simpa using nt') ht' ?_ fun x hx => ?_) nos' (s1.trans (s17.trans s711)) b11
              · rw [List.length_append, lapp, lt2]
                omega
              · have old : ∀ z ∈ xs, Dat T [B] H11 (m + 100) (n + 3) z := fun z hz => ((hk z hz).mono O (ob_of (s17.trans s711))).up (by omega) (by omega)
                rcases List.mem_append.mp hx with w | w
                · rcases List.mem_append.mp w with w | w
                  · exact old x (List.mem_of_mem_take w)
                  · exact (dy x w).mono O (ob_of s711)
                · exact old x (List.mem_of_mem_drop w)
            · refine ⟨_, rfl, _, it, _, rfl, iteT ⟨_, rfl, true, tr, iteT ⟨_, rfl, rfl, _, rfl, ?_⟩⟩⟩
              have old : ∀ {p : Addr} {o : HO}, H1 p = none → ∀ z ∈ xs, Dat T [B] (upd H1 p o) (m + 100) (n + 3) z := fun hp z hz => ((hk z hz).mono O (ob_of ((SB.refl B H1).new hp))).up (by omega) (by omega)
              refine ite2 (fun _ => ?_) (fun _ => ?_)
              · refine ⟨_, rfl, a, xs, rfl, .inr (SqT.of e1), fun p hp => ?_⟩
                exact k _ _ (.lst (by simpa using b1.ne hp) upd_same (by omega) (old hp)) nos' (s1.new hp) (b1.new hp)
              · refine ⟨_, rfl, a, xs, rfl, SqT.of e1, fun p hp => ?_⟩
                exact k _ _ (.tup (by simpa using b1.ne hp) upd_same (by rw [List.length_reverse]; omega) fun z hz => old hp z (List.mem_reverse.mp hz)) nos' (s1.new hp) (b1.new hp)
        | @dic _ a kvs ne e1 hl nd ks hk =>
          have itf : Isi K H1 (.ref a) "tuple" false := isi_ty (.base (.dK e1)) (by decide)
          have idk : Isi K H1 (.ref a) "dict" true := isi_ty (.base (.dK e1)) (by decide)
          have nB : a ≠ B := by simpa using ne
          cases hx : kvs with
          | nil =>
            subst hx
            exact ⟨_, rfl, _, itf, _, rfl, iteF (iteF ⟨_, rfl, _, itf, _, rfl, iteF (iteF ⟨_, rfl, _, idk, _, rfl, iteT ⟨_, rfl, false, .inr (.inr ⟨[], e1, rfl⟩), iteF ⟨_, rfl, B, rfl, b1, odd s1 b1⟩⟩⟩)⟩)⟩
          | cons x0 xr =>
            have em : (true : Bool) = !kvs.isEmpty := by
              rw [hx]
              rfl
            have l0 : 0 < kvs.length := by
              rw [hx]
              exact Nat.succ_pos _
            obtain ⟨n', rfl⟩ : ∃ n', n = n' + 1 := by
              cases n with
              | zero => cases hk x0 (by rw [hx]; exact List.mem_cons_self)
              | succ n' => exact ⟨n', rfl⟩
            clear hx
            obtain ⟨kst, ek, lk, _⟩ := keys_of ks
            refine ⟨_, rfl, _, itf, _, rfl, iteF (iteF ⟨_, rfl, _, itf, _, rfl, iteF (iteF ⟨_, rfl, _, idk, _, rfl, iteT ⟨_, rfl, true, .inr (.inr ⟨kvs, e1, em⟩), iteT ?_⟩⟩)⟩)⟩
            refine ⟨_, rfl, _, rfl, a, kvs, kst, rfl, .inl e1, ek, by omega, fun ys p pm srt hp => ?_⟩
            have ly : ys.length = kst.length := pm.length_eq
            refine ⟨B, p, ys.map V.str, rfl, b1.new hp, (b1.ne hp).symm, upd_same, by rw [List.length_map]; omega, by rw [List.length_map]; omega, fun y0 H2 hy s2 b2 => ?_⟩
            have s2' : SB B H1 H2 := fun b o n e => s2 b o n (by rw [upd_ne (ne_of_none e hp)]; exact e)
            obtain ⟨z, hz, rfl⟩ := List.mem_map.mp hy
            obtain ⟨⟨kz, vz⟩, hmem, ekz⟩ := List.mem_map.mp (by rw [ek]; exact List.mem_map.mpr ⟨z, pm.mem_iff.mp hz, rfl⟩ : Sum.inr z ∈ kvs.map (·.1))
            have ekz' : kz = Sum.inr z := ekz
            subst ekz'
            obtain ⟨z', ez', lz, oz⟩ := ks _ hmem
            have ez2 : z' = z := by
              injection ez' with q
              exact q.symm
            subst ez2
            have vget : valV kvs (Sum.inr z') = some vz := by
              obtain ⟨i, hi, e⟩ := List.getElem_of_mem hmem
              exact val_at nd (by rw [List.getElem?_eq_getElem hi, e])
            have e2 := s2' _ _ nB e1
            refine ⟨_, rfl, _, rfl, B, .str z', m, rfl, b2, hm2, hm, .str z' lz oz, fun u H3 du hu s3 b3 => ?_⟩
            obtain ⟨z2, rfl⟩ := hu ⟨z', rfl⟩
            have e3 := s3 _ _ nB e2
            refine ⟨_, rfl, _, rfl, _, rfl, a, vz, rfl, ?_, B, vz, m, rfl, b3, hm2, hm, (hk _ hmem).mono O (ob_of (s2'.trans s3)), fun wv H4 dw _ s4 b4 => ?_⟩
            · rw [← vget]
              exact .inl ⟨kvs, Sum.inr z', .inl e3, rfl, rfl⟩
            have e4 := s4 _ _ nB e3
            have s14 : SB B H1 H4 := s2'.trans (s3.trans s4)
            refine ⟨a, _, e4, True.intro, fun od => ?_⟩
            have h1 : (upd H4 a (.frz od (.dK kvs))) a = some (.frz od (.dK kvs)) := upd_same
            have un2 : ∀ {H9 : Hp}, Same (upd H4 a (.frz od (.dK kvs))) H9 → Same H4 (upd H9 a (.dK kvs)) := fun s1 b o e => by
              by_cases q : b = a
              · subst q
                rw [e4] at e
                rw [upd_same]
                exact e
              · rw [upd_ne q]
                refine s1 _ _ ?_
                rw [upd_ne q]
                exact e
            generalize upd H4 a (.frz od (.dK kvs)) = Hf at h1 un2
            refine ⟨_, rfl, a, od, rfl, .inl ⟨kvs, h1, fun D hD => ?_⟩⟩
            refine lc_it (walk_keys (kvs := kvs) (d := a) (o := od)) (fun i H' => Same Hf H' ∧ ∃ (ps : List Addr) (ls : List (Key × V)), H' D = some (.lst (ps.map V.ref)) ∧ ps.length ≤ i ∧ List.Sublist ls (kvs.take i) ∧ Paired (fun p l => H' p = some (.tup [kV l.1, l.2])) ps ls)
              ⟨fun b o e => by rw [upd_ne (ne_of_none e hD)]; exact e, [], [], upd_same, Nat.le_refl _, List.Sublist.refl _, .nil⟩ (fun i H _ ⟨s, _⟩ => s _ _ h1) ?_ ?_
            · rintro i x H0' H5 hi ⟨s5, ps, ls, hD5, lp, sl, pr⟩ ⟨rfl, ky, vy, hxi, rfl⟩
              have hmi := List.mem_of_getElem? hxi
              obtain ⟨y, ey, _, _⟩ := ks _ hmi
              have ey' : ky = Sum.inr y := ey
              subst ey'
              have step : kvs.take (i + 1) = kvs.take i ++ [(Sum.inr y, vy)] := by
                rw [List.take_add_one, hxi]
                rfl
              have no : ∀ {H6 : Hp}, Same H5 H6 → Same Hf H6 ∧ ∃ (ps : List Addr) (ls : List (Key × V)), H6 D = some (.lst (ps.map V.ref)) ∧ ps.length ≤ i + 1 ∧ List.Sublist ls (kvs.take (i + 1)) ∧ Paired (fun p l => H6 p = some (.tup [kV l.1, l.2])) ps ls := fun s6 =>
                ⟨s5.trans s6, ps, ls, s6 _ _ hD5, by omega, by rw [step]; exact sl.trans (List.sublist_append_left _ _), L2.Paired.mapP pr fun p l e => s6 _ _ e⟩
              have gy : ∀ {H6 : Hp}, Same H5 H6 → DGet H6 a (.str y) (some vy) := fun s6 => by
                rw [← val_at nd hxi]
                exact .inl ⟨kvs, Sum.inr y, .inr ⟨od, s6 _ _ (s5 _ _ h1)⟩, rfl, rfl⟩
              have yes : ∀ {H6 : Hp} {q : Addr}, Same H5 H6 → H6 q = none → ∃ acc, (upd H6 q (.tup [V.str y, vy])) D = some (.lst acc) ∧ acc.length < sizeLine ∧ (Same Hf (upd (upd H6 q (.tup [V.str y, vy])) D (.lst (acc ++ [V.ref q]))) ∧
                  ∃ (ps : List Addr) (ls : List (Key × V)), (upd (upd H6 q (.tup [V.str y, vy])) D (.lst (acc ++ [V.ref q]))) D = some (.lst (ps.map V.ref)) ∧ ps.length ≤ i + 1 ∧ List.Sublist ls (kvs.take (i + 1)) ∧
                    Paired (fun p l => (upd (upd H6 q (.tup [V.str y, vy])) D (.lst (acc ++ [V.ref q]))) p = some (.tup [kV l.1, l.2])) ps ls) := fun {H6 q} s6 hq => by
                have hD6 := s6 _ _ hD5
                have nDq : D ≠ q := ne_of_none hD6 hq
                refine ⟨ps.map V.ref, (upd_ne nDq).trans hD6, by rw [List.length_map]; exact small1000 (by omega), fun b o e => ?_, ps ++ [q], ls ++ [(Sum.inr y, vy)], by rw [upd_same, List.map_append]; rfl, by simp; omega, by rw [step]; exact sl.append (List.Sublist.refl _), ?_⟩
                · rw [upd_ne (ne_of_none e hD), upd_ne (ne_of_none ((s5.trans s6) _ _ e) hq)]
                  exact (s5.trans s6) _ _ e
                · have tupD : ∀ {p : Addr} {t : List V}, H6 p = some (.tup t) → p ≠ D := fun e z => by
                    rw [z, hD6] at e
                    cases e
                  refine paired_app (L2.Paired.mapP pr fun p l e => ?_) (.cons ?_ .nil)
                  · have e6 := s6 _ _ e
                    rw [upd_ne (tupD e6), upd_ne (ne_of_none e6 hq)]
                    exact e6
                  · rw [upd_ne (Ne.symm nDq), upd_same]
                    rfl
              refine ⟨rfl, _, rfl, _, rfl, rfl, _, rfl, ?_⟩
              refine ite2 (fun _ => ?_) (fun _ => ?_)
              · exact iteT ⟨_, rfl, _, rfl, _, rfl, a, vy, rfl, gy (Same.refl _), (by show 2 ≤ sizeLine; decide), fun q hq => yes (Same.refl _) hq⟩
              · refine ⟨_, rfl, (by show 3 ≤ sizeLine; decide), fun tp htp => ⟨tp, _, rfl, .inr (SqT.of upd_same), rfl, rfl, _, rfl, ?_⟩⟩
                have s6 : Same H5 (upd H5 tp (.tup [.int 0, .int 1, .int 4])) := fun b o e => by
                  rw [upd_ne (ne_of_none e htp)]
                  exact e
                refine ite2 (fun _ => ?_) (fun _ => ?_)
                · exact ⟨_, rfl, _, rfl, _, rfl, a, vy, rfl, gy s6, (by show 2 ≤ sizeLine; decide), fun q hq => yes s6 hq⟩
                · exact no s6
            · rintro H5 ⟨s5, ps, ls, hD5, lp, sl, pr⟩
              have sub : List.Sublist ls kvs := sl.trans (List.take_sublist _ _)
              have ndl : (ls.map (·.1)).Nodup := (sub.map (·.1)).nodup nd
              have nDa : D ≠ a := fun q => by
                rw [q, h1] at hD
                cases hD
              have ha5 := s5 _ _ h1
              refine ⟨ha5, D, ps, ls, rfl, SqL.of ((upd_ne nDa).trans hD5), L2.Paired.mapP pr fun p l e => SqT.of ((upd_ne fun q => ?_).trans e), fun fo hfo => ?_⟩
              · rw [q, ha5] at e
                cases e
              rw [show mergeK [] ls = ls from (merge_nodup (kvs := []) ndl)]
              have s46 := un2 s5
              have b6 : BagAt (upd H5 a (.dK kvs)) B := by
                obtain ⟨q1, q2, q3, q4⟩ := b4
                exact ⟨q1, q2, q3, s46 _ _ q4⟩
              have e6 : (upd H5 a (.dK kvs)) a = some (.dK kvs) := upd_same
              generalize upd H5 a (.dK kvs) = H6 at hfo s46 b6 e6
              have n7 := b6.ne hfo
              have b7 := b6.new (o := .dK ls) hfo
              have s67 := (SB.refl B H6).new (o := .dK ls) hfo
              have g7 : (upd H6 fo (.dK ls)) fo = some (.dK ls) := upd_same
              generalize upd H6 fo (.dK ls) = H7 at b7 s67 g7
              have s16 : SB B H1 H6 := s14.trans (SB.of s46)
              have s47 : SB B H4 H7 := (SB.of s46).trans s67
              have s17 : SB B H1 H7 := s14.trans s47
              have e7 := s17 _ _ nB e1
              have lsub := sub.length_le
              have kok : ∀ p ∈ ls, ∃ s : Str, p.1 = Sum.inr s ∧ s.length ≤ m + 100 ∧ PyData.strOk s = true := fun p hp => by
                obtain ⟨s, q1, q2, q3⟩ := ks p (sub.mem hp)
                exact ⟨s, q1, by omega, q3⟩
              have vok : ∀ {H9 : Hp}, SB B H6 H9 → ∀ p ∈ ls, Dat T [B] H9 (m + 100) (n' + 1 + 3) p.2 := fun s9 p hp => ((hk p (sub.mem hp)).mono O (ob_of (s16.trans s9))).up (by omega) (by omega)
              refine ⟨_, rfl, rfl, _, rfl, ?_⟩
              refine ite2 (fun _ => ?_) (fun _ => ?_)
              · have v7 : DGet H7 a (.str z') (some vz) := by
                  rw [← vget]
                  exact .inl ⟨kvs, Sum.inr z', .inl e7, rfl, rfl⟩
                refine ⟨_, rfl, _, rfl, a, vz, rfl, v7, _, rfl, (by show 2 ≤ sizeLine; decide), fun l1 hl1 => ⟨_, rfl, _, _, rfl, rfl, ⟨by decide, by decide⟩, .inl ⟨_, rfl, _, _, rfl, rfl, (by show (0 : Int) < 2; decide), ?_⟩⟩⟩
                have b8 := b7.new (o := .lst [vz, wv]) hl1
                have s78 := (SB.refl B H7).new (o := .lst [vz, wv]) hl1
                have g8 : (upd H7 l1 (.lst [vz, wv])) l1 = some (.lst [vz, wv]) := upd_same
                have f8 : (upd H7 l1 (.lst [vz, wv])) fo = some (.dK ls) := (upd_ne (ne_of_none g7 hl1)).trans g7
                generalize upd H7 l1 (.lst [vz, wv]) = H8 at b8 s78 g8 f8
                obtain ⟨val, gv, dv⟩ : ∃ val, atI [vz, wv] (r / 2 % 2) = some val ∧ ∀ {H9 : Hp}, SB B H6 H9 → Dat T [B] H9 (m + 100) (n' + 1 + 3) val := by
                  have h : r / 2 % 2 = 0 ∨ r / 2 % 2 = 1 := by omega
                  rcases h with h | h
                  · exact ⟨vz, by rw [h]; rfl, fun s9 => ((hk _ hmem).mono O (ob_of (s16.trans s9))).up (by omega) (by omega)⟩
                  · exact ⟨wv, by rw [h]; rfl, fun s9 => dw.mono O (ob_of ((SB.of s46).trans s9))⟩
                refine ⟨l1, _, _, _, rfl, rfl, SqL.of g8, gv, _, rfl, _, rfl, _, rfl, _, rfl, _, rfl, _, rfl, _, rfl, (by show 6 ≤ sizeLine; decide), fun l2 hl2 => ?_⟩
                obtain ⟨kz, gk, kl, ko⟩ : ∃ kz : Str, atI [V.str z2, .str z2, .str z', .str z', .str z', .str z2] r = some (.str kz) ∧ kz.length ≤ m + 100 ∧ PyData.strOk kz = true := by
                  have l2 : z2.length ≤ m + 100 := by
                    cases du with
                    | str _ h _ => exact h
                  have h : r = 0 ∨ r = 1 ∨ r = 2 ∨ r = 3 ∨ r = 4 ∨ r = 5 := by omega
                  rcases h with rfl | rfl | rfl | rfl | rfl | rfl
                  · exact ⟨_, rfl, l2, du.okS⟩
                  · exact ⟨_, rfl, l2, du.okS⟩
                  · exact ⟨_, rfl, by omega, oz⟩
                  · exact ⟨_, rfl, by omega, oz⟩
                  · exact ⟨_, rfl, by omega, oz⟩
                  · exact ⟨_, rfl, l2, du.okS⟩
                have b9 := b8.new (o := .lst [V.str z2, .str z2, .str z', .str z', .str z', .str z2]) hl2
                have s89 := (SB.refl B H8).new (o := .lst [V.str z2, .str z2, .str z', .str z', .str z', .str z2]) hl2
                have f9 : (upd H8 l2 (.lst [V.str z2, .str z2, .str z', .str z', .str z', .str z2])) fo = some (.dK ls) := (upd_ne (ne_of_none f8 hl2)).trans f8
                have g9 : (upd H8 l2 (.lst [V.str z2, .str z2, .str z', .str z', .str z', .str z2])) l2 = some (.lst [V.str z2, .str z2, .str z', .str z', .str z', .str z2]) := upd_same
                generalize upd H8 l2 (.lst [V.str z2, .str z2, .str z', .str z', .str z', .str z2]) = H9 at b9 s89 f9 g9
                refine ⟨_, rfl, l2, _, _, _, rfl, rfl, SqL.of g9, gk, fo, _, rfl, DPut.k (k := Sum.inr kz) f9 (small1000 (by omega)), ?_⟩
                have s610 : ∀ {o : HO}, SB B H6 (upd H9 fo o) := (s67.trans (s78.trans s89)).own hfo
                refine ⟨_, rfl, k _ _ (.dic (by simpa using n7) upd_same ?_ (put_nodup _ ndl) (fun p hp => ?_) fun p hp => ?_) nos' (s1.trans (s16.trans s610)) (b9.other (Ne.symm n7))⟩
                · have := length_putK ls (Sum.inr kz) val
                  omega
                · rcases put_mem hp with w | rfl
                  · exact kok p w
                  · exact ⟨kz, rfl, kl, ko⟩
                · rcases put_mem hp with w | rfl
                  · exact vok s610 p w
                  · exact dv s610
              · exact ⟨_, rfl, k _ _ (.dic (by simpa using n7) g7 (by omega) ndl kok (vok s67)) nos' (s1.trans s17) b7⟩
end
end Wd

set_option Elab.async false
set_option linter.all false
set_option maxRecDepth 100000
set_option maxHeartbeats 4000000
namespace Wd
open PySem L2
def spGood (T : List Addr → Hp → Addr → Prop) : Sp := fun vs H Q _ => ∃ (B : Addr) (way : Int), vs = [.ref B, .int way] ∧ BagAt H B ∧ 0 ≤ way ∧ way < 7 ∧ ∀ v H', Dat T [B] H' 200 4 v → SB B H H' → BagAt H' B → Q v H'
/-- an output, laid -/
def OutAt (B : Addr) (H : Hp) (o : V) : Prop := ∃ (p t : Addr) (c : Nat) (ns : List Int), o = .ref p ∧ p ≠ B ∧ t ≠ B ∧ H p = some (.tup [.str (sgn c), .ref t]) ∧ low c ∧ H t = some (.tup (ns.map V.int)) ∧ ns.length ≤ 6
theorem OutAt.mono {B : Addr} {H H' : Hp} {o : V} (h : OutAt B H o) (s : SB B H H') : OutAt B H' o := by
  obtain ⟨p, t, c, ns, e, np, nt, hp, lc, ht, l⟩ := h
  exact ⟨p, t, c, ns, e, np, nt, s _ _ np hp, lc, s _ _ nt ht, l⟩
theorem OutAt.other {B l : Addr} {H : Hp} {o : V} {u : HO} {xs : List V} (h : OutAt B H o) (hl : H l = some (.lst xs)) : OutAt B (upd H l u) o := by
  obtain ⟨p, t, c, ns, e, np, nt, hp, lc, ht, ln⟩ := h
  refine ⟨p, t, c, ns, e, np, nt, (upd_ne fun q => ?_).trans hp, lc, (upd_ne fun q => ?_).trans ht, ln⟩
  · rw [q, hl] at hp
    cases hp
  · rw [q, hl] at ht
    cases ht
section
variable {T : List Addr → Hp → Addr → Prop} {B : Addr} {H : Hp}
theorem dat_sgn {c : Nat} (h : low c) {n : Nat} : Dat T [B] H 200 (n + 1) (.str (sgn c)) := .str _ (by show 1 ≤ 200; decide) (low_ok h)
theorem dat_low {z : Str} (h : LowT z) {n : Nat} : Dat T [B] H 200 (n + 1) (.str z) := .str _ (Nat.le_trans h.1 (by decide)) h.ok
theorem OutAt.dat {o : V} (h : OutAt B H o) : Dat T [B] H 200 3 o := by
  obtain ⟨p, t, c, ns, rfl, np, nt, hp, lc, ht, l⟩ := h
  refine .tup (by simpa using np) hp (by simp) fun x hx => ?_
  have hx' : x = .str (sgn c) ∨ x = .ref t := by simpa using hx
  rcases hx' with rfl | rfl
  · exact dat_sgn lc
  · refine .tup (by simpa using nt) ht (by rw [List.length_map]; omega) fun y hy => ?_
    obtain ⟨i, _, rfl⟩ := List.mem_map.mp hy
    exact .int i
theorem LayAt.dat {d : Addr} (h : LayAt B H d 5) (nd : d ≠ B) : Dat T [B] H 200 4 (.ref d) := by
  obtain ⟨kvs, e, l, ndk, g⟩ := h
  refine .dic (by simpa using nd) e (by omega) ndk (fun p hp => ?_) fun p hp => ?_
  · obtain ⟨z, ez, lz⟩ := (g p hp).1
    exact ⟨z, ez, Nat.le_trans lz.1 (by decide), lz.ok⟩
  · obtain ⟨t, ds, et, nt, ht, ld, lw⟩ := (g p hp).2
    rw [et]
    refine .tup (by simpa using nt) ht (by rw [letV, List.length_map]; omega) fun y hy => ?_
    obtain ⟨c, hc, rfl⟩ := List.mem_map.mp hy
    exact dat_sgn (lw c hc)
end
theorem words_low : ∀ z ∈ words, LowT z := by
  unfold LowT low words
  decide +kernel
section
variable {P : Program} {w : World} {K : PySem.W.Frag} {mg : Str → Option Value} {base : Heap} {T : List Addr → Hp → Addr → Prop} {fT fP fO fW fLe fN fLa fV : Addr} {lo : Nat}
structure GoTxt (mg : Str → Option Value) (fO fW fLe fN fLa fV : Addr) : Prop where
  odd : mg "_law_odd" = some (.ref fO)
  wrds : mg "_law_words" = some (.ref fW)
  letter : mg "_law_letter" = some (.ref fLe)
  name : mg "_law_name" = some (.ref fN)
  layout : mg "_law_layout" = some (.ref fLa)
  value : mg "_law_value" = some (.ref fV)
abbrev nGood : List Str := ["bag", "way", "outputs", "turn", "values", "one"]
theorem scGood : FnScope nGood ["bag", "way"] (defScope sGood) := ⟨rfl, rfl, rfl, by decide +kernel, rfl, by decide +kernel, by decide +kernel⟩
theorem ok_good {f : Addr} {fd fdT fdP fdO fdW fdLe fdN fdLa fdV : FuncData} (F : Fun K "_law_good" "_law_good" sGood f fd) (X : GTxt mg fT fP) (Y : GoTxt mg fO fW fLe fN fLa fV)
    (FT : Fun K "_law_throw" "_law_throw" sThrow fT fdT) (bT : Binds K fdT ["bag", "total"] []) (FP : Fun K "_law_pick" "_law_pick" sPick fP fdP) (bP : Binds K fdP ["bag", "items"] []) (FW : Fun K "_law_words" "_law_words" sWords fW fdW) (bW : Binds K fdW [] [])
    (kLe : PySem.W.keepIn K (.ref fLe) = true) (bLe : Binds K fdLe ["bag"] []) (GLe : FnOk P w K mg base CX0 3 fLe fdLe ["bag"] spLetter) (kN : PySem.W.keepIn K (.ref fN) = true) (bN : Binds K fdN ["bag", "known"] []) (GN : FnOk P w K mg base CX0 3 fN fdN ["bag", "known"] spName)
    (kLa : PySem.W.keepIn K (.ref fLa) = true) (bLa : Binds K fdLa ["bag", "sources", "letters"] []) (GLa : FnOk P w K mg base CX0 4 fLa fdLa ["bag", "sources", "letters"] spLayout) (kV : PySem.W.keepIn K (.ref fV) = true) (bV : Binds K fdV ["bag"] []) (GV : FnOk P w K mg base CX0 2 fV fdV ["bag"] spValue)
    (kO : PySem.W.keepIn K (.ref fO) = true) (bO : Binds K fdO ["bag"] []) (GO : FnOk P w K mg base CX0 lo fO fdO ["bag"] (spOdd T)) (h4 : 4 ≤ lo) :
    FnOk P w K mg base CX0 (lo + 1) f fd ["bag", "way"] (spGood T) := by
  have GT : FnOk P w K mg base CX0 1 fT fdT ["bag", "total"] spThrow := ok_throw FT X.toTxtA
  have GL : FnOk P w K mg base CX0 2 fP fdP ["bag", "items"] spPickL := ok_pickL FP X.toTxtA FT bT
  have GW : FnOk P w K mg base CX0 1 fW fdW [] spWords := ok_words FW
  refine F.ok scGood (fun vs H Q E h => ?_) (fun cdv A outer s H vs Q E hr h => ?_)
  · obtain ⟨B, way, rfl, _⟩ := h
    rfl
  · obtain ⟨B, way, rfl, hB, w0, w7, k⟩ := h
    have hr1 : Room 1 _ := hr.mono (by omega)
    have hr2 : Room 2 _ := hr.mono (by omega)
    have hr3 : Room 3 _ := hr.mono (by omega)
    have hr4 : Room 4 _ := hr.mono (by omega)
    refine ⟨_, pss_cons (ps_if (pt_cmpR op_lt (pv 1) pe_int (nomark _)) (pss_one (ps_ret (pe_call GL hr2 rfl X.pick FP.kp bP .nil pass0 (pa_cons (pv 0) (pa_cons (pe_lst (pa_cons (pe_call GLe hr3 rfl Y.letter kLe bLe .nil pass0 (pa_cons (pv 0) pa_nil))
          (pa_cons (pe_call GN hr3 rfl Y.name kN bN .nil pass0 (pa_cons (pv 0) (pa_cons (pe_lst pa_nil) pa_nil))) (pa_cons pe_str (pa_cons (pe_call GL hr2 rfl X.pick FP.kp bP .nil pass0 (pa_cons (pv 0) (pa_cons (pe_call0 GW hr1 rfl Y.wrds FW.kp bW .nil pass0) pa_nil))) pa_nil))))) pa_nil))))) pss_nil)
      (pss_cons (ps_if (pt_cmpR op_eq (pv 1) pe_int (nomark _)) (pss_one (ps_ret (pe_call GLa hr4 rfl Y.layout kLa bLa .nil pass0 (pa_cons (pv 0)
          (pa_cons (pe_op op_add pe_int (pe_callTy call_int1 (by rfl) X.int (by decide +kernel) (pa_cons (pe_cmpR op_eq (pe_call GT hr1 rfl X.thr FT.kp bT .nil pass0 (pa_cons (pv 0) (pa_cons pe_int pa_nil))) pe_int (nomark _)) pa_nil)))
          (pa_cons (pe_op op_add pe_int (pe_callTy call_int1 (by rfl) X.int (by decide +kernel) (pa_cons (pe_cmpR op_eq (pe_call GT hr1 rfl X.thr FT.kp bT .nil pass0 (pa_cons (pv 0) (pa_cons pe_int pa_nil))) pe_int (nomark _)) pa_nil))) pa_nil)))))) pss_nil)
      (pss_cons (ps_if (pt_cmpR op_eq (pv 1) pe_int (nomark _)) (pss_one (ps_ret (pe_tup (pa_cons (pe_call GT hr1 rfl X.thr FT.kp bT .nil pass0 (pa_cons (pv 0) (pa_cons (pe_op op_pow pe_int pe_int) pa_nil)))
          (pa_cons (pe_call GN hr3 rfl Y.name kN bN .nil pass0 (pa_cons (pv 0) (pa_cons (pe_lst pa_nil) pa_nil))) (pa_cons (pe_call GLe hr3 rfl Y.letter kLe bLe .nil pass0 (pa_cons (pv 0) pa_nil)) (pa_cons (pe_call GV hr2 rfl Y.value kV bV .nil pass0 (pa_cons (pv 0) pa_nil)) pa_nil))))))) pss_nil)
      (pss_cons (ps_if (pt_cmpR op_eq (pv 1) pe_int (nomark _)) (pss_one (ps_ret (pe_call GO hr rfl Y.odd kO bO .nil pass0 (pa_cons (pv 0) pa_nil)))) pss_nil)
      (pss_cons (ps_set (i := 2) scGood.nd rfl (Or.inl rfl) (pe_lst pa_nil))
      (pss_cons (ps_for PassesOwn.never rfl (pi_range1 rfl X.range (pa_cons (pe_op op_add pe_int (pe_call GT hr1 rfl X.thr FT.kp bT .nil pass0 (pa_cons (pv 0) (pa_cons (pe_call GL hr2 rfl X.pick FP.kp bP .nil pass0 (pa_cons (pv 0) (pa_cons (pe_lst (pa_cons pe_int (pa_cons pe_int (pa_cons pe_int (pa_cons pe_int pa_nil))))) pa_nil))) pa_nil)))) pa_nil)) (pg_name (i := 3) scGood.nd rfl (Or.inl rfl))
        (pss_cons (ps_set (i := 4) scGood.nd rfl (Or.inl rfl) (pe_callTy call_tuple_of (by rfl) X.tuple (by decide +kernel) (pa_cons (pe_lc (own := [("one", 5)]) (g := gName 5) (tt := tYes) rfl scGood.nd
            (pi_range1 rfl X.range (pa_cons (pe_call GT hr1 rfl X.thr FT.kp bT .nil pass0 (pa_cons (pv 0) (pa_cons pe_int pa_nil))) pa_nil)) (blkOk_by (N := nGood) (sc := defScope sGood) (by decide +kernel)) (fun _ _ _ _ _ => pg_name (i := 5) scGood.nd rfl (Or.inl rfl)) (fun _ _ _ _ _ => pts_nil)
            (fun _ _ _ _ _ => pe_call GV hr2 rfl Y.value kV bV .nil pass0 (pa_cons (pv 0) pa_nil))) pa_nil)))
        (pss_one (ps_expr (pe_bm PySem.F.plainAttrs_list PySem.F.slot_list_append PySem.F.type_list_append mt_append (pv 2) (pa_cons (pe_tup (pa_cons (pe_call GLe hr3 rfl Y.letter kLe bLe .nil pass0 (pa_cons (pv 0) pa_nil)) (pa_cons (pv 4) pa_nil))) pa_nil))))))
      (pss_one (ps_ret (pe_ifExp (pt_cmpR op_eq (pv 1) pe_int (nomark _)) (pe_ix ix_list (pv 2) pe_int (fun _ _ => rfl)) (pe_callTy call_tuple_of (by rfl) X.tuple (by decide +kernel) (pa_cons (pe_op op_cat (pv 2) (pe_op op_rep (pe_lst (pa_cons pe_str pa_nil))
          (pe_call GT hr1 rfl X.thr FT.kp bT .nil pass0 (pa_cons (pv 0) (pa_cons pe_int pa_nil))))) pa_nil)))))))))), ?_⟩
    have nl : ∀ {H9 : Hp} {l : Addr}, H9 l = some (.lst []) → H9 l = some (.lst (([] : List Str).map V.str)) := fun h => h
    refine ⟨_, rfl, _, _, rfl, rfl, _, rfl, ?_⟩
    refine ite2 (fun c => ?_) (fun c => ?_)
    · refine ⟨_, rfl, _, rfl, B, rfl, hB, fun c0 H1 lc s1 b1 => ⟨_, rfl, (by show 0 ≤ sizeLine; decide), fun l0 hl0 => ?_⟩⟩
      refine ⟨B, l0, [], rfl, b1.new hl0, upd_same, fun z H2 hz s2 b2 => ⟨_, rfl, rfl, fun H3 L same nL hL => ?_⟩⟩
      have b3 : BagAt H3 B := by
        obtain ⟨a1, a2, a3, q⟩ := b2
        exact ⟨a1, a2, a3, same _ _ q⟩
      refine ⟨B, L, _, rfl, b3, (b2.ne nL).symm, hL, by decide, by decide, fun y H4 hy s4 b4 => ⟨(by show 4 ≤ sizeLine; decide), fun l hl => ?_⟩⟩
      have sA : SB B H H4 := (s1.new hl0).trans (s2.trans ((SB.of same).trans s4))
      refine ⟨B, l, _, rfl, b4.new hl, (b4.ne hl).symm, upd_same, by show 0 < 4; decide, by show 4 ≤ 100; decide, fun v H5 hv s5 b5 => ?_⟩
      have s45 : SB B H4 H5 := fun b o n e => s5 b o n (by rw [upd_ne (ne_of_none e hl)]; exact e)
      refine k v H5 ?_ (sA.trans s45) b5
      have hv' : v = .str (sgn c0) ∨ v = .str z ∨ v = .str (Str.ofString "end") ∨ v = y := by simpa using hv
      rcases hv' with rfl | rfl | rfl | rfl
      · exact dat_sgn lc
      · exact dat_low hz
      · exact .str _ (by decide) (by decide +kernel)
      · obtain ⟨q, hq, rfl⟩ := List.mem_map.mp hy
        exact dat_low (words_low q hq)
    refine ⟨_, rfl, rfl, _, rfl, ?_⟩
    refine ite2 (fun c => ?_) (fun c => ?_)
    · have i01 : ∀ b : Bool, (0 : Int) ≤ (if b = true then 1 else 0) ∧ (if b = true then (1 : Int) else 0) ≤ 1 := fun b => by cases b <;> decide
      refine ⟨_, rfl, _, rfl, B, 4, rfl, hB, by decide, by decide +kernel, fun q1 H1 _ _ s1 b1 => ⟨rfl, .inr ⟨_, rfl, _, _, rfl, rfl, ?_⟩⟩⟩
      refine ⟨_, rfl, B, 8, rfl, b1, by decide, by decide +kernel, fun q2 H2 _ _ s2 b2 => ⟨rfl, .inr ⟨_, rfl, _, _, rfl, rfl, ?_⟩⟩⟩
      have j1 := i01 (decide (V.int q1 = V.int 0))
      have j2 := i01 (decide (V.int q2 = V.int 0))
      exact ⟨B, _, _, rfl, b2, by omega, by omega, by omega, by omega, fun d H3 nd la s3 b3 => k _ _ (la.dat nd) (s1.trans (s2.trans s3)) b3⟩
    refine ⟨_, rfl, rfl, _, rfl, ?_⟩
    refine ite2 (fun c => ?_) (fun c => ?_)
    · refine ⟨_, rfl, _, _, rfl, rfl, ⟨by decide, by decide, by decide⟩, B, _, rfl, hB, by decide +kernel, by decide +kernel, fun q1 H1 _ _ s1 b1 => ?_⟩
      refine ⟨_, rfl, (by show 0 ≤ sizeLine; decide), fun l0 hl0 => ⟨B, l0, [], rfl, b1.new hl0, upd_same, fun z H2 hz s2 b2 => ⟨_, rfl, B, rfl, b2, fun c0 H3 lc s3 b3 => ⟨_, rfl, B, rfl, b3, fun i H4 s4 b4 => ⟨(by show 4 ≤ sizeLine; decide), fun p hp => ?_⟩⟩⟩⟩⟩
      refine k _ _ (.tup (by simpa using b4.ne hp) upd_same (by simp) fun x hx => ?_) (((s1.new hl0).trans (s2.trans (s3.trans s4))).new hp) (b4.new hp)
      have hx' : x = .int q1 ∨ x = .str z ∨ x = .str (sgn c0) ∨ x = .int i := by simpa using hx
      rcases hx' with rfl | rfl | rfl | rfl
      · exact .int _
      · exact dat_low hz
      · exact dat_sgn lc
      · exact .int _
    refine ⟨_, rfl, rfl, _, rfl, ?_⟩
    refine ite2 (fun c => ?_) (fun c => ?_)
    · exact ⟨_, rfl, B, rfl, hB, fun v H1 dv s1 b1 => k _ _ (dv.up (Nat.le_refl _) (by decide)) s1 b1⟩
    refine ⟨(by show 0 ≤ sizeLine; decide), fun l hl => ?_⟩
    have n0 := hB.ne hl
    have b0 := hB.new (o := .lst []) hl
    have s0 := (SB.refl B H).new (o := .lst []) hl
    have g0 : (upd H l (.lst [])) l = some (.lst []) := upd_same
    generalize upd H l (.lst []) = H0 at b0 s0 g0
    refine ⟨_, rfl, _, rfl, (by show 4 ≤ sizeLine; decide), fun l3 hl3 => ?_⟩
    refine ⟨B, l3, _, rfl, b0.new hl3, (b0.ne hl3).symm, upd_same, by show 0 < 4; decide, by show 4 ≤ 100; decide, fun y0 H1 hy s1 b1 => ?_⟩
    have s01 : SB B H0 H1 := fun b o n e => s1 b o n (by rw [upd_ne (ne_of_none e hl3)]; exact e)
    obtain ⟨tt, rfl, t1, t20⟩ : ∃ tt : Int, y0 = .int tt ∧ 3 ≤ tt ∧ tt ≤ 20 := by
      have hy' : y0 = .int 3 ∨ y0 = .int 20 := by
        simp at hy
        omega
      rcases hy' with rfl | rfl
      · exact ⟨_, rfl, by decide, by decide⟩
      · exact ⟨_, rfl, by decide, by decide⟩
    refine ⟨B, tt, rfl, b1, by omega, Int.le_trans t20 (by decide +kernel), fun q H2 q0 q1 s2 b2 => ?_⟩
    refine ⟨_, _, rfl, rfl, _, rfl, by omega, by omega, ?_⟩
    refine for_range (lo := 0) (n := (1 + q).toNat) (fun i σ H' => SB B H H' ∧ BagAt H' B ∧ (∃ os : List V, H' l = some (.lst os) ∧ os.length = i ∧ ∀ o ∈ os, OutAt B H' o) ∧ ∃ v3 v4, σ = [some (.ref B), some (.int way), some (.ref l), v3, v4, none])
      ⟨s0.trans (s01.trans s2), b2, ⟨[], s2 _ _ n0 (s01 _ _ n0 g0), rfl, fun o h => nomatch h⟩, _, _, rfl⟩ ?_ ?_
    · rintro i σ H3 hi ⟨sb, bg, ⟨os, hos, los, oos⟩, v3, v4, rfl⟩
      refine ⟨_, rfl, B, 6, rfl, bg, by decide, by decide +kernel, fun r H4 r0 r1 s4 b4 => ?_⟩
      refine ⟨_, rfl, by omega, by omega, fun D hD => ?_⟩
      refine lc_range (lo := 0) (n := r.toNat) (fun j H' => SB B H4 H' ∧ BagAt H' B ∧ ∃ ns : List Int, ns.length = j ∧ H' D = some (.lst (ns.map V.int)))
        ⟨(SB.refl B H4).new hD, b4.new hD, [], rfl, upd_same⟩ ?_ ?_
      · rintro j H' hj ⟨sj, bj, ns, ln, hns⟩
        refine ⟨rfl, _, rfl, B, rfl, bj, fun x H6 s6 b6 => ?_⟩
        have nD := b4.ne hD
        refine ⟨_, s6 _ _ nD hns, by rw [List.length_map]; exact small1000 (by omega), (sj.trans s6).own hD, b6.other (Ne.symm nD), ns ++ [x], by simp [ln], ?_⟩
        rw [upd_same, List.map_append]
        rfl
      · rintro H5 ⟨s5, b5, ns, ln, hns⟩
        refine ⟨D, _, rfl, .inl ⟨SqL.of hns, fun t ht => ?_⟩⟩
        have nt := b5.ne ht
        have b6 := b5.new (o := .tup (ns.map V.int)) ht
        have s6 := (SB.refl B H5).new (o := .tup (ns.map V.int)) ht
        have g6 : (upd H5 t (.tup (ns.map V.int))) t = some (.tup (ns.map V.int)) := upd_same
        generalize upd H5 t (.tup (ns.map V.int)) = H6 at b6 s6 g6
        have s36 : SB B H3 H6 := s4.trans (s5.trans s6)
        have hos6 := s36 _ _ n0 hos
        refine ⟨_, rfl, .inl ⟨rfl, _, SqL.of hos6⟩, _, rfl, B, rfl, b6, fun c0 H7 lc s7 b7 => ⟨_, rfl, (by show 2 ≤ sizeLine; decide), fun p hp => ?_⟩⟩
        have np := b7.ne hp
        have b8 := b7.new (o := .tup [.str (sgn c0), .ref t]) hp
        have s8 := (SB.refl B H7).new (o := .tup [.str (sgn c0), .ref t]) hp
        have g8 : (upd H7 p (.tup [.str (sgn c0), .ref t])) p = some (.tup [.str (sgn c0), .ref t]) := upd_same
        generalize upd H7 p (.tup [.str (sgn c0), .ref t]) = H8 at b8 s8 g8
        have s38 : SB B H3 H8 := s36.trans (s7.trans s8)
        have hos8 := s38 _ _ n0 hos
        refine ⟨l, os, _, rfl, rfl, hos8, small1000 (by omega), (sb.trans s38).own hl, b8.other (Ne.symm n0), ⟨os ++ [.ref p], upd_same, by simp [los], fun o ho => ?_⟩, _, _, rfl⟩
        rcases List.mem_append.mp ho with w | w
        · exact ((oos o w).mono s38).other hos8
        · rw [List.mem_singleton.mp w]
          exact OutAt.other (xs := os) ⟨p, t, c0, ns, rfl, np, nt, g8, lc, (s7.trans s8) _ _ nt g6, by omega⟩ hos8
    · rintro σ H3 ⟨sb, bg, ⟨os, hos, los, oos⟩, v3, v4, rfl⟩
      have l21 : os.length ≤ 20 := by omega
      refine ⟨_, rfl, rfl, _, rfl, ?_⟩
      refine ite2 (fun _ => ?_) (fun _ => ?_)
      · obtain ⟨o0, h0⟩ : ∃ o0, os[0]? = some o0 := ⟨os[0]'(by omega), List.getElem?_eq_getElem _⟩
        exact ⟨_, rfl, l, os, _, o0, rfl, rfl, SqL.of hos, atI_nat (j := 0) h0, k _ _ ((oos o0 (List.mem_of_getElem? h0)).dat.up (Nat.le_refl _) (by decide)) sb bg⟩
      · refine ⟨_, rfl, (by show 1 ≤ sizeLine; decide), fun le hle => ?_⟩
        have b4 := bg.new (o := .lst [.str (Str.ofString "end")]) hle
        have s4 := (SB.refl B H3).new (o := .lst [.str (Str.ofString "end")]) hle
        have g4 : (upd H3 le (.lst [.str (Str.ofString "end")])) le = some (.lst [.str (Str.ofString "end")]) := upd_same
        have nle := bg.ne hle
        generalize upd H3 le (.lst [.str (Str.ofString "end")]) = H4 at b4 s4 g4
        refine ⟨_, rfl, B, 2, rfl, b4, by decide, by decide +kernel, fun e H5 e0 e1 s5 b5 => ?_⟩
        refine ⟨le, e, _, rfl, rfl, s5 _ _ nle g4, by omega, by omega, ?_, fun lr hlr => ?_⟩
        · show 1 * e.toNat ≤ sizeLine
          exact Nat.le_of_lt (small1000 (by omega))
        have nlr := b5.ne hlr
        have ends : ∀ x ∈ (List.replicate e.toNat [V.str (Str.ofString "end")]).flatten, x = .str (Str.ofString "end") := fun x hx => by
          obtain ⟨ys, hy, hx⟩ := List.mem_flatten.mp hx
          rw [(List.mem_replicate.mp hy).2] at hx
          exact List.mem_singleton.mp hx
        have lend : (List.replicate e.toNat [V.str (Str.ofString "end")]).flatten.length ≤ 2 := by
          have h : e = 0 ∨ e = 1 := by omega
          rcases h with rfl | rfl <;> decide
        generalize (List.replicate e.toNat [V.str (Str.ofString "end")]).flatten = es at hlr ends lend ⊢
        have b6 := b5.new (o := .lst es) hlr
        have s6 := (SB.refl B H5).new (o := .lst es) hlr
        have g6 : (upd H5 lr (.lst es)) lr = some (.lst es) := upd_same
        generalize upd H5 lr (.lst es) = H6 at b6 s6 g6
        have s36 : SB B H3 H6 := s4.trans (s5.trans s6)
        refine ⟨l, lr, os, es, rfl, rfl, s36 _ _ n0 hos, g6, Nat.le_of_lt (small1000 (by omega)), fun lc hlc => ?_⟩
        refine ⟨lc, _, rfl, .inl ⟨SqL.of upd_same, fun t ht => ?_⟩⟩
        have s38 : SB B H3 (upd (upd H6 lc (.lst (os ++ es))) t (.tup (os ++ es))) := (s36.new hlc).new ht
        have b8 := (b6.new (o := .lst (os ++ es)) hlc).new (o := .tup (os ++ es)) ht
        refine k _ _ (.tup (by simpa using (b6.new (o := .lst (os ++ es)) hlc).ne ht) upd_same (by rw [List.length_append]; omega) fun x hx => ?_) (sb.trans s38) b8
        rcases List.mem_append.mp hx with w | w
        · exact ((oos x w).mono s38).dat
        · rw [ends x w]
          exact .str _ (by decide) (by decide +kernel)
end
end Wd

set_option Elab.async false
set_option linter.all false
set_option maxRecDepth 100000
set_option maxHeartbeats 4000000
namespace Wd
open PySem L2
theorem fn_many {P : Program} {w : World} {K : PySem.W.Frag} {mg : Str → Option Value} {base : Heap} {CX : CXT} {k N : Nat} {f : Addr} {fd : FuncData} {ps : List Str} {sp : Nat → Sp} (F : ∀ n, n ≤ N → FnOk P w K mg base CX k f fd ps (sp n)) :
    FnOk P w K mg base CX k f fd ps (fun vs H Q E => ∃ n, n ≤ N ∧ sp n vs H Q E) :=
  ⟨fun vs H Q E ⟨n, hn, h⟩ => (F n hn).len vs H Q E h, fun A outer s H args us vs Q E hr he hb hv ⟨n, hn, h⟩ => (F n hn).run A outer s H args us vs Q E hr he hb hv h⟩
def spLaw (K : PySem.W.Frag) : Sp := fun vs H Q _ => ∃ (a : Addr) (ns : List Int), vs = [.ref a] ∧ SqL K H a (ns.map V.int) ∧ ns.length ≤ 63 ∧ ∀ H', Q (.bl true) H'
/-- a def that stands at its name -/
structure At (P : Program) (w : World) (K : PySem.W.Frag) (mg : Str → Option Value) (base : Heap) (k : Nat) (x : Str) (f : Addr) (fd : FuncData) (ps : List Str) (sp : Sp) : Prop where
  m : mg x = some (.ref f)
  kp : PySem.W.keepIn K (.ref f) = true
  b : Binds K fd ps []
  g : FnOk P w K mg base CX0 k f fd ps sp
theorem dpAll_bls (K : PySem.W.Frag) (H : Hp) : ∀ ys : List Bool, DpAll K H (ys.map V.bl) (ys.map PyData.bool)
  | [] => .nil
  | y :: r => .cons (.bl y) (dpAll_bls K H r)
theorem eqv_bls : ∀ xs : List Bool, PyData.eqvAll (xs.map PyData.bool) (xs.map PyData.bool) = true
  | [] => rfl
  | x :: r => by
    show ((x == x) && PyData.eqvAll (r.map PyData.bool) (r.map PyData.bool)) = true
    rw [eqv_bls r, beq_self_eq_true]
    rfl
section
variable {P : Program} {w : World} {K : PySem.W.Frag} {mg : Str → Option Value} {base : Heap} {T : List Addr → Hp → Addr → Prop} {lo : Nat}
variable {fT fSt fGo fSp f1 f2 f3 f4 f5 f6 e1 e2 e3 e4 e5 e6 fC fS : Addr} {dT dSt dGo dSp d1 d2 d3 d4 d5 d6 c1 c2 c3 c4 c5 c6 dC dS : FuncData}
abbrev nLaw : List Str := ["script", "at", "bag", "spoils", "value", "turn", "due", "copied", "told", "one"]
theorem scLaw : FnScope nLaw ["script"] (defScope sLaw) := ⟨rfl, rfl, rfl, by decide +kernel, rfl, by decide +kernel, by decide +kernel⟩
theorem ok_law (O : Own K T) {f : Addr} {fd : FuncData} (F : Fun K "law" "law" sLaw f fd) {fI0 fL0 : Addr} (X : WTxt mg fI0 fL0) (mmax : mg "max" = none)
    (AT : At P w K mg base 1 "_law_throw" fT dT ["bag", "total"] spThrow) (AS : At P w K mg base 1 "_law_start" fSt dSt ["script", "at"] (spStart K)) (AG : At P w K mg base (lo + 1) "_law_good" fGo dGo ["bag", "way"] (spGood T))
    (AP : At P w K mg base (lo + 8) "_law_spoiled" fSp dSp ["bag", "value"] (fun vs H Q E => ∃ n, n ≤ 7 ∧ spSpoiled T n vs H Q E))
    (L1 : At P w K mg base 1 "_law_is_letter" f1 d1 ["value"] (spIs T fun _ => IsLet)) (L2 : At P w K mg base 2 "_law_is_name" f2 d2 ["value"] (spIs T fun _ => IsName)) (L3 : At P w K mg base 3 "_law_is_layout" f3 d3 ["value"] (spIs T IsLayout))
    (L4 : At P w K mg base 3 "_law_is_event" f4 d4 ["value"] (spIs T IsEvent)) (L5 : At P w K mg base 2 "_law_is_output" f5 d5 ["value"] (spIs T IsOutput)) (L6 : At P w K mg base 3 "_law_is_list" f6 d6 ["value"] (spIs T IsList))
    (M1 : At P w K mg base 1 "is_letter" e2 c1 ["value"] (spIs T fun _ => IsLet)) (M2 : At P w K mg base 2 "is_name" e1 c2 ["value"] (spIs T fun _ => IsName)) (M3 : At P w K mg base 4 "is_layout" e3 c3 ["value"] (spIs T IsLayout))
    (M4 : At P w K mg base 3 "is_event" e4 c4 ["value"] (spIs T IsEvent)) (M5 : At P w K mg base 3 "is_output" e5 c5 ["value"] (spIs T IsOutput)) (M6 : At P w K mg base 4 "is_list" e6 c6 ["value"] (spIs T IsList))
    (AC : At P w K mg base 11 "_law_copied" fC dC ["value"] (spCopied T 10)) (AE : At P w K mg base 13 "_law_same" fS dS ["one", "other"] (spSame T 10)) (h4 : 5 ≤ lo) :
    FnOk P w K mg base CX0 (lo + 9) f fd ["script"] (spLaw K) := by
  refine F.ok scLaw (fun vs H Q E h => ?_) (fun cdv A outer s H vs Q E hr h => ?_)
  · obtain ⟨a, ns, rfl, _⟩ := h
    rfl
  · obtain ⟨a, ns, rfl, hS, h63, k⟩ := h
    have rm : ∀ {j : Nat}, j ≤ 13 → Room j _ := fun h => hr.mono (by omega)
    refine ⟨_, pss_cons (ps_for PassesOwn.never rfl (pi_range1 rfl X.range (pa_cons (pe_callB (call_max2 rfl) (by rfl) mmax (by decide +kernel) (pa_cons pe_int (pa_cons (pe_callB call_len_seq (by rfl) X.len PySem.boot_len (pa_cons (pv 0) pa_nil)) pa_nil))) pa_nil)) (pg_name (i := 1) scLaw.nd rfl (Or.inl rfl))
        (pss_cons (ps_set (i := 2) scLaw.nd rfl (Or.inl rfl) (pe_call AS.g (rm (by decide)) rfl AS.m AS.kp AS.b .nil pass0 (pa_cons (pv 0) (pa_cons (pv 1) pa_nil))))
        (pss_cons (ps_set (i := 3) scLaw.nd rfl (Or.inl rfl) (pe_op op_sub (pe_call AT.g (rm (by decide)) rfl AT.m AT.kp AT.b .nil pass0 (pa_cons (pv 2) (pa_cons pe_int pa_nil))) pe_int))
        (pss_cons (ps_set (i := 4) scLaw.nd rfl (Or.inl rfl) (pe_call AG.g (hr.mono (by omega)) rfl AG.m AG.kp AG.b .nil pass0 (pa_cons (pv 2) (pa_cons (pe_call AT.g (rm (by decide)) rfl AT.m AT.kp AT.b .nil pass0 (pa_cons (pv 2) (pa_cons pe_int pa_nil))) pa_nil))))
        (pss_cons (ps_for PassesOwn.never rfl (pi_range1 rfl X.range (pa_cons (pv 3) pa_nil)) (pg_name (i := 5) scLaw.nd rfl (Or.inl rfl)) (pss_one (ps_set (i := 4) scLaw.nd rfl (Or.inl rfl) (pe_call AP.g hr rfl AP.m AP.kp AP.b .nil pass0 (pa_cons (pv 2) (pa_cons (pv 4) pa_nil))))))
        (pss_cons (ps_set (i := 6) scLaw.nd rfl (Or.inl rfl) (pe_lst (pa_cons (pe_call L1.g (rm (by decide)) rfl L1.m L1.kp L1.b .nil pass0 (pa_cons (pv 4) pa_nil)) (pa_cons (pe_call L2.g (rm (by decide)) rfl L2.m L2.kp L2.b .nil pass0 (pa_cons (pv 4) pa_nil))
            (pa_cons (pe_call L3.g (rm (by decide)) rfl L3.m L3.kp L3.b .nil pass0 (pa_cons (pv 4) pa_nil)) (pa_cons (pe_call L4.g (rm (by decide)) rfl L4.m L4.kp L4.b .nil pass0 (pa_cons (pv 4) pa_nil)) pa_nil))))))
        (pss_cons (ps_set (i := 6) scLaw.nd rfl (Or.inl rfl) (pe_op op_cat (pv 6) (pe_lst (pa_cons (pe_call L5.g (rm (by decide)) rfl L5.m L5.kp L5.b .nil pass0 (pa_cons (pv 4) pa_nil)) (pa_cons (pe_call L6.g (rm (by decide)) rfl L6.m L6.kp L6.b .nil pass0 (pa_cons (pv 4) pa_nil)) pa_nil)))))
        (pss_cons (ps_set (i := 7) scLaw.nd rfl (Or.inl rfl) (pe_call AC.g (rm (by decide)) rfl AC.m AC.kp AC.b .nil pass0 (pa_cons (pv 4) pa_nil)))
        (pss_cons (ps_set (i := 8) scLaw.nd rfl (Or.inl rfl) (pe_lst (pa_cons (pe_call M1.g (rm (by decide)) rfl M1.m M1.kp M1.b .nil pass0 (pa_cons (pv 4) pa_nil)) (pa_cons (pe_call M2.g (rm (by decide)) rfl M2.m M2.kp M2.b .nil pass0 (pa_cons (pv 4) pa_nil))
            (pa_cons (pe_call M3.g (rm (by decide)) rfl M3.m M3.kp M3.b .nil pass0 (pa_cons (pv 4) pa_nil)) (pa_cons (pe_call M4.g (rm (by decide)) rfl M4.m M4.kp M4.b .nil pass0 (pa_cons (pv 4) pa_nil)) pa_nil))))))
        (pss_cons (ps_set (i := 8) scLaw.nd rfl (Or.inl rfl) (pe_op op_cat (pv 8) (pe_lst (pa_cons (pe_call M5.g (rm (by decide)) rfl M5.m M5.kp M5.b .nil pass0 (pa_cons (pv 4) pa_nil)) (pa_cons (pe_call M6.g (rm (by decide)) rfl M6.m M6.kp M6.b .nil pass0 (pa_cons (pv 4) pa_nil)) pa_nil)))))
        (pss_one (ps_if (PW.pt (pw_or (pt_not (pt_val (pe_callB (cr_all rfl) (by rfl) X.all (by decide +kernel) (pa_cons (pe_lc (own := [("one", 9)]) (g := gName 9) (tt := tYes) (te := tIsi K "bool" (tVar 9)) rfl scLaw.nd (pi_list (pv 8))
            (blkOk_by (N := nLaw) (sc := defScope sLaw) (by decide +kernel)) (fun _ _ _ _ _ => pg_name (i := 9) scLaw.nd rfl (Or.inl rfl)) (fun _ _ _ _ _ => pts_nil) (fun _ _ _ _ _ => pe_isi (N := "bool") (pv 9) X.isin X.bool)) pa_nil))))
            (pw_or (pt_cmpR (op_neD hr.units) (pv 8) (pv 6) (nomark _)) (pw_or1 (pt_not (pt_val (pe_call AE.g (rm (by decide)) rfl AE.m AE.kp AE.b .nil pass0 (pa_cons (pv 4) (pa_cons (pv 7) pa_nil)))))))))
          (pss_one (ps_ret pe_bl)) pss_nil))))))))))))
      (pss_one (ps_ret pe_bl)), ?_⟩
    refine ⟨_, rfl, a, _, rfl, .inl hS, _, _, rfl, _, rfl, ?_, ?_, ?_⟩
    · split <;> omega
    · rw [List.length_map]
      split <;> omega
    have nn : ∃ n : Nat, n = (if ((ns.map V.int).length : Int) > 1 then ((ns.map V.int).length : Int) else 1).toNat := ⟨_, rfl⟩
    refine for_range (lo := 0) (n := _) (fun i σ H' => Same H H' ∧ ∃ v1 v2 v3 v4 v5 v6 v7 v8, σ = [some (.ref a), v1, v2, v3, v4, v5, v6, v7, v8, none]) ⟨Same.refl _, _, _, _, _, _, _, _, _, rfl⟩ ?_ ?_
    · rintro i σ H1 hi ⟨sH, v1, v2, v3, v4, v5, v6, v7, v8, rfl⟩
      refine ⟨_, rfl, _, rfl, a, ns, i, by simp, sH.seq hS, fun H2 B s2 nB b2 => ?_⟩
      have hB1 : H B = none := sH.free nB
      refine ⟨_, rfl, B, 4, rfl, b2, by decide, by decide +kernel, fun r H3 r0 r4 s3 b3 => ⟨_, _, rfl, rfl, ?_⟩⟩
      refine ⟨_, rfl, _, rfl, B, 7, rfl, b3, by decide, by decide +kernel, fun wy H4 w0 w7 s4 b4 => ⟨B, wy, rfl, b4, w0, w7, fun v0 H5 dv0 s5 b5 => ?_⟩⟩
      have s25 : SB B H1 H5 := (SB.of s2).trans (s3.trans (s4.trans s5))
      refine ⟨_, rfl, _, rfl, by omega, by omega, ?_⟩
      refine for_range (lo := 0) (n := (r - 1).toNat) (fun j σ H' => SB B H1 H' ∧ BagAt H' B ∧ ∃ v w5, Dat T [B] H' (200 + 100 * j) (4 + 3 * j) v ∧ σ = [some (.ref a), some (.int (0 + (i : Int))), some (.ref B), some (.int (r - 1)), some v, w5, v6, v7, v8, none])
        ⟨s25, b5, v0, _, dv0, rfl⟩ ?_ ?_
      · rintro j σ H6 hj ⟨s6, b6, v, w5, dv, rfl⟩
        refine ⟨_, rfl, _, rfl, 4 + 3 * j, by omega, B, v, 200 + 100 * j, rfl, b6, by omega, by omega, dv, fun u H7 du _ s7 b7 => ?_⟩
        exact ⟨s6.trans s7, b7, u, _, du, rfl⟩
      · rintro σ H6 ⟨s6, b6, v, w5, dv, rfl⟩
        have dv' : Dat T [B] H6 400 10 v := dv.up (by omega) (by omega)
        have is : ∀ {Pr : Hp → V → Prop} {H9 : Hp} {Q' : VK}, Same H6 H9 → (∀ H' b, Same H9 H' → (b = true ↔ Pr H6 v) → Q' (.bl b) H') → spIs T Pr [v] H9 Q' E0 := fun s q => ⟨v, [B], H6, 400, 10, rfl, Ob.of s, by decide, dv', q⟩
        have few : ∀ {n : Nat}, n ≤ 1000 → n ≤ sizeLine := fun h => Nat.le_of_lt (small1000 h)
        refine ⟨_, rfl, v, [B], H6, 400, 10, rfl, Ob.of (Same.refl _), (by decide), dv', fun A1 x1 u1 g1 => ⟨_, rfl, v, [B], H6, 400, 10, rfl, Ob.of u1, (by decide), dv', fun A2 x2 u2 g2 => ⟨_, rfl, v, [B], H6, 400, 10, rfl, Ob.of (u1.trans u2), (by decide), dv', fun A3 x3 u3 g3 => ⟨_, rfl, v, [B], H6, 400, 10, rfl, Ob.of ((u1.trans u2).trans u3), (by decide), dv', fun A4 x4 u4 g4 => ⟨(by show 4 ≤ sizeLine; decide), fun l1 hl1 => ?_⟩⟩⟩⟩⟩
        have S4 : Same H6 A4 := ((u1.trans u2).trans u3).trans u4
        have S5 : Same H6 (upd A4 l1 (.lst [.bl x1, .bl x2, .bl x3, .bl x4])) := fun b o e => by
          rw [upd_ne (ne_of_none (S4 _ _ e) hl1)]
          exact S4 _ _ e
        have k5 : (upd A4 l1 (.lst [.bl x1, .bl x2, .bl x3, .bl x4])) l1 = some (.lst [.bl x1, .bl x2, .bl x3, .bl x4]) := upd_same
        generalize upd A4 l1 (.lst [.bl x1, .bl x2, .bl x3, .bl x4]) = B5 at S5 k5
        refine ⟨_, rfl, _, rfl, v, [B], H6, 400, 10, rfl, Ob.of S5, (by decide), dv', fun A5 x5 u5 g5 => ⟨_, rfl, v, [B], H6, 400, 10, rfl, Ob.of (S5.trans u5), (by decide), dv', fun A6 x6 u6 g6 => ⟨(by show 2 ≤ sizeLine; decide), fun l2 hl2 => ?_⟩⟩⟩
        have S6 : Same H6 A6 := (S5.trans u5).trans u6
        have k6 := u6 _ _ (u5 _ _ k5)
        refine ⟨l1, l2, _, _, rfl, rfl, (upd_ne (ne_of_none k6 hl2)).trans k6, upd_same, (by show 4 + 2 ≤ sizeLine; decide), fun l3 hl3 => ?_⟩
        have n32 : l3 ≠ l2 := fun q => by
          rw [q, upd_same] at hl3
          cases hl3
        have f3 : A6 l3 = none := by
          rw [upd_ne n32] at hl3
          exact hl3
        have S7 : Same H6 (upd (upd A6 l2 (.lst [.bl x5, .bl x6])) l3 (.lst ([.bl x1, .bl x2, .bl x3, .bl x4] ++ [.bl x5, .bl x6]))) := fun b o e => by
          have e6 := S6 _ _ e
          rw [upd_ne (ne_of_none e6 f3), upd_ne (ne_of_none e6 hl2)]
          exact e6
        have k7 : (upd (upd A6 l2 (.lst [.bl x5, .bl x6])) l3 (.lst ([.bl x1, .bl x2, .bl x3, .bl x4] ++ [.bl x5, .bl x6]))) l3 = some (.lst ([x1, x2, x3, x4, x5, x6].map V.bl)) := upd_same
        generalize upd (upd A6 l2 (.lst [.bl x5, .bl x6])) l3 (.lst ([.bl x1, .bl x2, .bl x3, .bl x4] ++ [.bl x5, .bl x6])) = B7 at S7 k7
        refine ⟨_, rfl, v, [B], H6, 400, rfl, Ob.of S7, by decide, dv', fun A8 u s8 cop => ?_⟩
        have S8 := S7.trans s8
        refine ⟨_, rfl, v, [B], H6, 400, 10, rfl, Ob.of S8, (by decide), dv', fun A11 y1 w1 z1 => ⟨_, rfl, v, [B], H6, 400, 10, rfl, Ob.of (S8.trans w1), (by decide), dv', fun A12 y2 w2 z2 => ⟨_, rfl, v, [B], H6, 400, 10, rfl, Ob.of ((S8.trans w1).trans w2), (by decide), dv', fun A13 y3 w3 z3 => ⟨_, rfl, v, [B], H6, 400, 10, rfl, Ob.of (((S8.trans w1).trans w2).trans w3), (by decide), dv', fun A14 y4 w4 z4 => ⟨(by show 4 ≤ sizeLine; decide), fun l4 hl4 => ?_⟩⟩⟩⟩⟩
        have R4 : Same A8 A14 := ((w1.trans w2).trans w3).trans w4
        have R5 : Same A8 (upd A14 l4 (.lst [.bl y1, .bl y2, .bl y3, .bl y4])) := fun b o e => by
          rw [upd_ne (ne_of_none (R4 _ _ e) hl4)]
          exact R4 _ _ e
        have j5 : (upd A14 l4 (.lst [.bl y1, .bl y2, .bl y3, .bl y4])) l4 = some (.lst [.bl y1, .bl y2, .bl y3, .bl y4]) := upd_same
        generalize upd A14 l4 (.lst [.bl y1, .bl y2, .bl y3, .bl y4]) = C5 at R5 j5
        refine ⟨_, rfl, _, rfl, v, [B], H6, 400, 10, rfl, Ob.of (S8.trans R5), (by decide), dv', fun A15 y5 w5' z5 => ⟨_, rfl, v, [B], H6, 400, 10, rfl, Ob.of ((S8.trans R5).trans w5'), (by decide), dv', fun A16 y6 w6 z6 => ⟨(by show 2 ≤ sizeLine; decide), fun l5 hl5 => ?_⟩⟩⟩
        have R6 : Same A8 A16 := (R5.trans w5').trans w6
        have j6 := w6 _ _ (w5' _ _ j5)
        refine ⟨l4, l5, _, _, rfl, rfl, (upd_ne (ne_of_none j6 hl5)).trans j6, upd_same, (by show 4 + 2 ≤ sizeLine; decide), fun l6 hl6 => ?_⟩
        have n65 : l6 ≠ l5 := fun q => by
          rw [q, upd_same] at hl6
          cases hl6
        have f6 : A16 l6 = none := by
          rw [upd_ne n65] at hl6
          exact hl6
        have R7 : Same A8 (upd (upd A16 l5 (.lst [.bl y5, .bl y6])) l6 (.lst ([.bl y1, .bl y2, .bl y3, .bl y4] ++ [.bl y5, .bl y6]))) := fun b o e => by
          have e6 := R6 _ _ e
          rw [upd_ne (ne_of_none e6 f6), upd_ne (ne_of_none e6 hl5)]
          exact e6
        have j7 : (upd (upd A16 l5 (.lst [.bl y5, .bl y6])) l6 (.lst ([.bl y1, .bl y2, .bl y3, .bl y4] ++ [.bl y5, .bl y6]))) l6 = some (.lst ([y1, y2, y3, y4, y5, y6].map V.bl)) := upd_same
        generalize upd (upd A16 l5 (.lst [.bl y5, .bl y6])) l6 (.lst ([.bl y1, .bl y2, .bl y3, .bl y4] ++ [.bl y5, .bl y6])) = C7 at R7 j7
        obtain rfl : y1 = x1 := Bool.eq_iff_iff.mpr (z1.trans g1.symm)
        obtain rfl : y2 = x2 := Bool.eq_iff_iff.mpr (z2.trans g2.symm)
        obtain rfl : y3 = x3 := Bool.eq_iff_iff.mpr (z3.trans g3.symm)
        obtain rfl : y4 = x4 := Bool.eq_iff_iff.mpr (z4.trans g4.symm)
        obtain rfl : y5 = x5 := Bool.eq_iff_iff.mpr (z5.trans g5.symm)
        obtain rfl : y6 = x6 := Bool.eq_iff_iff.mpr (z6.trans g6.symm)
        have k77 := R7 _ _ (s8 _ _ k7)
        refine ⟨_, rfl, l6, rfl, ⟨_, SqL.of j7⟩, fun D hD => ?_⟩
        refine lc_bools (walk_list (K := K) (xs := [y1, y2, y3, y4, y5, y6].map V.bl) (a := l6)) (fun _ => True) hD (by show 6 ≤ 1000; decide) (fun H s => SqL.of (s _ _ j7)) ?_ ?_
        · rintro i9 x H8 H' kk hi9 s9 ⟨rfl, hx⟩ h
          obtain ⟨bx, _, rfl⟩ := List.mem_map.mp (List.mem_of_getElem? hx)
          exact ⟨rfl, _, rfl, true, isi_ty (.base (.bl bx)) (by decide), h true _ (Same.refl _) (yea trivial)⟩
        · rintro H8 bs s9 hD8 hb
          have hb' : bs.all id = true := hb.mpr fun _ _ => trivial
          refine ⟨D, bs, rfl, SqL.of hD8, _, rfl, ?_⟩
          rw [hb']
          have sh : SeqAt.shaped (.list ([y1, y2, y3, y4, y5, y6].map PyData.bool)) = true := rfl
          refine iteF ⟨_, rfl, _, rfl, _, _, .lst (SqL.of (s9 _ _ j7)) (dpAll_bls K H8 _), .lst (SqL.of (s9 _ _ k77)) (dpAll_bls K H8 _), sh, sh, _, rfl, ?_⟩
          rw [show PyData.eqv (.list ([y1, y2, y3, y4, y5, y6].map PyData.bool)) (.list ([y1, y2, y3, y4, y5, y6].map PyData.bool)) = true from eqv_bls _]
          have S9 : Same H6 H8 := (S8.trans R7).trans s9
          refine iteF ⟨_, rfl, _, rfl, v, u, [B], H6, B7, A8, 400, rfl, Ob.of S9, by decide, dv', cop, fun b o _ e => s9 _ _ (R7 _ _ e), fun b hb => S7.free hb, fun H9 s10 => ⟨_, rfl, iteF ?_⟩⟩
          refine ⟨fun b o e => ?_, _, _, _, _, _, _, _, _, rfl⟩
          have nb : b ≠ B := fun q => by
            rw [q, hB1] at e
            cases e
          exact s10 _ _ (S9 _ _ (s6 _ _ nb (sH _ _ e)))
    · rintro σ H1 ⟨_, _⟩
      exact k _
end
end Wd

set_option Elab.async false
set_option linter.all false
set_option maxRecDepth 100000
set_option maxHeartbeats 4000000
/-! data == a text -/
namespace Wd
open PySem PySem.Spec PyProof.Rows L2
open AutoSeq1 (wpAny_loadPart')
theorem dict_declines_str (l : Addr) (es : Array DictEntry) (n : Nat) (dd : Option Addr) (sl : Array (Option Value)) (b : Str) (u : Tok) :
    Meets (Builtin.«dict.__eq__» ⟨[.ref l, .str b u], []⟩) (fun _ R s => s.heap.get? l = some { cls := .type "dict", dict := dd, data := .dict es n, slots := sl } ∧ R (.ok (.ret .notImplemented)) s) :=
  .of_wp fun prog w A R s h => by
    obtain ⟨hp, g, d, tk, os⟩ := s
    obtain ⟨hl, h⟩ := h
    have f1 := PySem.F.sub_str_dict
    wp_walk using wpAny_loadPart' hl
    exact ⟨_, rfl, h⟩
theorem str_declines_dict (b : Str) (u : Tok) (l : Addr) (c : Value) (es : Array DictEntry) (n : Nat) (dd : Option Addr) (sl : Array (Option Value)) :
    Meets (Builtin.«str.__eq__» ⟨[.str b u, .ref l], []⟩) (fun _ R s => s.heap.get? l = some { cls := c, dict := dd, data := .dict es n, slots := sl } ∧ R (.ok (.ret .notImplemented)) s) :=
  .of_wp fun prog w A R s h => by
    obtain ⟨hp, g, d, tk, os⟩ := s
    obtain ⟨hl, h⟩ := h
    wp_walk using wpAny_loadPart' hl, wpAny_load hl
    exact ⟨_, rfl, h⟩
section
variable {A : Around} {s : Shared}
theorem rc_dict_str {l : Addr} {o : Obj} {es : Array DictEntry} {n : Nat} (b : Str) (u : Tok) (ho : s.heap.get? l = some o) (hc : o.cls = .type "dict") (hd : o.data = .dict es n) (hu : A.units < cLine) : SeqAt.RcAt A s (.ref l) (.str b u) false := fun prog w E Q h => by
  obtain ⟨cls, dd, data, sl⟩ := o
  simp only at hc hd
  subst hc
  subst hd
  exact SeqAt.rc_eq_decline_or (k := false) ⟨_, ho, rfl⟩ (typeIs_str s b u) (by decide) PySem.F.sub_str_dict PySem.F.slot_dict_eq PySem.F.slot_str_eq_refl
    (fun _ hq => call_meets PySem.F.slot_dict_eq ⟨_, ho, rfl⟩ PySem.F.entry_dict_eq (PySem.F.args_dict_eq_2 _ _) (dict_declines_str l es n dd sl b u) ⟨ho, hq⟩)
    (fun _ hq => call_meets PySem.F.slot_str_eq_refl (typeIs_str s b u) PySem.F.entry_str_eq (PySem.F.args_str_eq_2 _ _) (str_declines_dict b u l (.type "dict") es n dd sl) ⟨ho, hq⟩)
    (fun _ hq => wpAny_of_eq (rfl : isSame (.ref l) (.str b u) = pure false) hq) (.inr hu) h
end
/-- a thing of one's own kind == a text -/
def rEqOS (T : List Addr → Hp → Addr → Prop) : R2 := fun x y H Q => ∃ B a z, x = .ref a ∧ y = .str z ∧ T B H a ∧ ∀ H', Same H H' → Q (.bl false) H'
theorem op_eqT {X : Cx} {T : List Addr → Hp → Addr → Prop} (hu : X.A.units < cLine) (hO : OpR X (compareOp .Eq) (rEqOS T)) : OpR X (compareOp .Eq) (rEqT T) := by
  intro pins s σ H x y v u Q I rx ry h
  obtain ⟨B, m, n, z, d, rfl, q⟩ := h
  have no : (∀ s, x ≠ .str s) → Q (.bl false) H := fun h => q false H (Same.refl _) (nay (h z))
  cases d with
  | non => exact op_eq pins s σ H _ _ v u Q I rx ry ⟨rfl, no fun s e => nomatch e⟩
  | bl b => exact op_eq pins s σ H _ _ v u Q I rx ry ⟨rfl, by rw [decide_eq_false (fun e => nomatch e)]; exact no fun s e => nomatch e⟩
  | int b => exact op_eq pins s σ H _ _ v u Q I rx ry ⟨rfl, by rw [decide_eq_false (fun e => nomatch e)]; exact no fun s e => nomatch e⟩
  | str b => exact op_eq pins s σ H _ _ v u Q I rx ry ⟨rfl, q _ H (Same.refl _) decide_eq_true_iff⟩
  | own t => exact hO pins s σ H _ _ v u Q I rx ry ⟨B, _, z, rfl, rfl, t, fun H' s' => q false H' s' (nay fun e => nomatch e)⟩
  | tup ne e l p =>
    cases rx
    obtain ⟨t, rfl⟩ := ry
    obtain ⟨its, r, ob, _⟩ := I.tuple (SqT.of e)
    exact SeqAt.RcAt.tuple_str (items := its.toArray) z t ob hu X.prog X.w X.xe (EP X pins σ Q) ⟨.bl false, H, I, rfl, no fun s e => nomatch e⟩
  | lst ne e l p =>
    cases rx
    obtain ⟨t, rfl⟩ := ry
    obtain ⟨its, r, pl, _⟩ := I.list (SqL.of e)
    exact SeqAt.RcAt.list_str (items := its.toArray) z t pl.isList hu X.prog X.w X.xe (EP X pins σ Q) ⟨.bl false, H, I, rfl, no fun s e => nomatch e⟩
  | dic ne e l nd ks p =>
    cases rx
    obtain ⟨t, rfl⟩ := ry
    obtain ⟨_, _, vs, _, o, es, ep, h1, h2, h3, _⟩ := (show ObjOk X.prog X.w H s.heap _ (.dK _) from I.hok _ _ e)
    exact rc_dict_str z t h1 h2.1 h3 hu X.prog X.w X.xe (EP X pins σ Q) ⟨.bl false, H, I, rfl, no fun s e => nomatch e⟩
end Wd

set_option Elab.async false
set_option linter.all false
set_option maxRecDepth 100000
set_option maxHeartbeats 4000000
/-! the written dict of words -/
namespace Wd
open PySem PySem.Spec PyProof.Rows L2
theorem lit_at {P : Params} : ∀ {l : List DictEntry}, PySem.W.KeysLit P l → ∀ z : Str, ((l.find? (·.key.isStr z)).isSome = true ↔ ∃ e ∈ l, ∃ t, e.key = .str z t) ∧ l.any (·.refKey) = false
  | [], _, z => ⟨by simp, rfl⟩
  | e :: r, ⟨⟨x, t, q, _⟩, h⟩, z => by
    have ih := lit_at h z
    have rk : e.refKey = false := by
      unfold DictEntry.refKey
      rw [q]
    constructor
    · rw [List.find?_cons]
      by_cases c : x = z
      · have c1 : e.key.isStr z = true := by
          rw [q, c]
          exact beq_self_eq_true z
        rw [c1]
        exact ⟨fun _ => ⟨e, List.mem_cons_self, t, by rw [q, c]⟩, fun _ => rfl⟩
      · have c1 : e.key.isStr z = false := by
          rw [q]
          exact beq_eq_false_iff_ne.mpr c
        rw [c1]
        refine ih.1.trans ⟨fun ⟨e', m, w⟩ => ⟨e', List.mem_cons_of_mem _ m, w⟩, fun ⟨e', m, t', w⟩ => ?_⟩
        rcases List.mem_cons.mp m with m | m
        · rw [m, q] at w
          injection w with w1
          exact (c w1).elim
        · exact ⟨e', m, t', w⟩
    · rw [List.any_cons, rk, ih.2]
      rfl
theorem atxt_of {K : PySem.W.Frag} {w : World} {mg : Str → Option Value} {d : Addr} {ks : List Str} (g : ∃ u, mg "ARGUMENTS" = some u ∧ RelV (.ref d) u) (h : He.dicW K d = some (He.keysIn w.params ks))
    (hk : ∀ z : Str, z ∈ ks ↔ z ∈ words ∨ z = Str.ofString "+" ∨ z = Str.ofString "&") : ∃ es n, ATxt K w mg d es n := by
  obtain ⟨es, n, D⟩ := He.dicW_ok h
  refine ⟨es, n, g, D, fun z => ?_⟩
  obtain ⟨l1, l2⟩ := lit_at D.lit z
  have keys : es.toList.map He.keyOf = He.keysIn w.params ks := by
    have h' := h
    unfold He.dicW at h'
    rw [D.at_] at h'
    have low := D.low
    simp [low] at h'
    exact h'
  have mem : (∃ e ∈ es.toList, ∃ t, e.key = .str z t) ↔ z ∈ ks := by
    constructor
    · rintro ⟨e, he, t, q⟩
      have m : He.keyOf e ∈ He.keysIn w.params ks := keys ▸ List.mem_map.mpr ⟨e, he, rfl⟩
      have ke : He.keyOf e = some (z, e.hash) := by
        unfold He.keyOf
        rw [q]
      rw [ke] at m
      obtain ⟨k, hk', e'⟩ := List.mem_map.mp m
      have := (Prod.mk.inj (Option.some.inj e')).1
      exact this ▸ hk'
    · intro hz
      have m : some (z, PyData.keyHash w.params z) ∈ es.toList.map He.keyOf := keys ▸ List.mem_map.mpr ⟨z, hz, rfl⟩
      obtain ⟨e, he, q⟩ := List.mem_map.mp m
      unfold He.keyOf at q
      split at q
      · rename_i x t kq
        have := (Prod.mk.inj (Option.some.inj q)).1
        exact ⟨e, he, t, by rw [kq, this]⟩
      · cases q
  unfold PySem.W.nsIn
  rw [D.at_]
  dsimp only
  rw [← hk z, ← mem, ← l1]
  cases f : es.toList.find? (·.key.isStr z) with
  | some e => exact ⟨_, rfl, by simp⟩
  | none =>
    dsimp only
    rw [l2]
    exact ⟨none, rfl, by simp⟩
end Wd

set_option Elab.async false
set_option linter.all false
set_option maxRecDepth 100000
set_option maxHeartbeats 4000000
/-! tapes: their class, a row of events, a new tape, == -/
namespace Wd
open PySem PySem.Spec PyProof.Rows L2
/-- == by an own __eq__, against anything that is not asked first -/
theorem cmp_own {X : Cx} {CX : CXT} {n : Nat} {C f : Addr} {fd : FuncData} {ps : List Str} {sp : Sp} {E : XK} {a dx : Addr} {fs : List (Str × V)} {y : V} {v tb : Value} {pins : List (Addr × Obj)} {s : Shared} {σ : L2.St} {H : Hp} {Q : VK}
    (F : FnOk X.prog X.w X.K X.mg X.base CX n f fd ps sp) (hs : PySem.W.findIn X.K (.ref C) "__eq__" = some (some (.ref f))) (hf : PySem.W.isFn X.K (.ref f) = true) (hb : Binds X.K fd ps []) (hx : Passes CX X E) (hr : Room n X.A)
    (I : Inv X pins σ H s) (ha : H a = some (.ins C dx fs)) (ry : RelV y v) (ht : PySem.W.Looks (model X.prog X.w) s.heap (typeOf v) tb) (hn : PySem.W.notFirst X.K C tb = true)
    (hsp : sp [.ref a, y] H (fun z H' => ∃ b, z = .bl b ∧ Q (.bl b) H') E) : wpAny (model X.prog X.w) X.A (compareOp .Eq (.ref a) v) (EP X pins σ Q) X.xe s := by
  show wpAny (model X.prog X.w) X.A (richCompare .Eq (.ref a) v) _ _ _
  obtain ⟨mA, J, _⟩ := ins_get I.hok ha
  obtain ⟨od, J, _⟩ := J.look
  obtain ⟨m, hF⟩ := I.fr
  refine PySem.W.cmp_K (op := .Eq) (tb := tb) hr.units0 hF I.ok.mod.kin J ht hn hs hf ?_
  have hl := F.len _ _ _ _ hsp
  have r2 : Vals [V.ref a, y] [Value.ref a, v] := .cons rfl (.cons ry .nil)
  refine wpAny_call (codeAny_mono (F.run X.A X.stack s H ⟨[.ref a, v], []⟩ [.ref a, v] [.ref a, y] _ E hr I.env0 (by
    have := hb s [.ref a, v] I.kIn (by simpa using hl)
    simpa using this) r2 hsp) fun r s' hq => ?_)
  cases r with
  | error e => exact hx pins σ H s e s' I hq
  | ok fl =>
    cases fl with
    | ret w =>
      obtain ⟨z, H', I', rz, b, ez, q⟩ := I.after hq
      subst ez
      cases rz
      exact ⟨.bl b, H', I', rfl, q⟩
    | next => exact False.elim hq
    | brk => exact False.elim hq
    | cont => exact False.elim hq
/-- the same objects, item by item -/
def DSame : Eqv := fun x y _ => ∃ a : Addr, x = .ref a ∧ y = .ref a
theorem mon_same : Mon DSame := fun _ _ _ _ _ d => d
theorem eqG_same {X : Cx} : EqG X 0 DSame := by
  intro A pins s σ H x y u v sb I rx ry d
  obtain ⟨a, rfl, rfl⟩ := d
  cases rx
  cases ry
  exact SeqAt.EqAt.same (A := A) (s := s) (.ref a) X.prog X.w X.xe _ ⟨rfl, H, I, Ext.rfl'⟩
/-! ### the class -/
def tf (t : Addr) (k : Int) : List (Str × V) := putF "_last" (.int k) (putF "_events" (.ref t) [])
theorem el : ¬ (("_events" : Str) = "_last") := by decide +kernel
theorem tf_events (t : Addr) (k : Int) : (tf t k).lookup ("_events" : Str) = some (.ref t) := by
  unfold tf
  rw [lookup_putF, if_neg el, lookup_putF, if_pos rfl]
theorem tf_last (t : Addr) (k : Int) : (tf t k).lookup ("_last" : Str) = some (.int k) := by
  unfold tf
  rw [lookup_putF, if_pos rfl]
/-- what is asked of class Tape as the top has made it -/
structure TpTxt (K : PySem.W.Frag) (mg : Str → Option Value) (C fI fE : Addr) : Prop where
  cl : Cls K C
  nE : NoAttr K C "_events"
  nL : NoAttr K C "_last"
  mak : Mk K C fI
  mgC : mg "Tape" = some (.ref C)
  eqm : PySem.W.findIn K (.ref C) "__eq__" = some (some (.ref fE))
  eqf : PySem.W.isFn K (.ref fE) = true
  ca : PySem.W.findIn K (.ref C) "__class__" = some (some (.builtin "object.__class__"))
  cg : PySem.W.specialIn K (.builtin "object.__class__") "__get__" = some (some (.builtin "getset_descriptor.__get__"))
  ct : PySem.W.takesIn K (.builtin "object.__class__") = some true
  ob : PySem.W.mroIn K C (.type "object") = some true
  no : PySem.W.kitOne K (.ref C) (.type "int") = some false ∧ PySem.W.kitOne K (.ref C) (.type "bool") = some false ∧ PySem.W.kitOne K (.ref C) (.type "str") = some false ∧ PySem.W.kitOne K (.ref C) (.type "tuple") = some false ∧
    PySem.W.kitOne K (.ref C) (.type "list") = some false ∧ PySem.W.kitOne K (.ref C) (.type "dict") = some false
  kC : PySem.W.kitOne K (.ref C) (.ref C) = some true
  kS : PySem.W.kitOne K (.type "str") (.ref C) = some false
  nf : PySem.W.notFirst K C (.ref C) = true
  nfS : PySem.W.notFirst K C (.type "str") = true
/-- what isinstance and == ask of the class, all in one -/
def tapOk (K : PySem.W.Frag) (C : Addr) : Bool :=
  (PySem.W.kitOne K (.ref C) (.type "int") == some false) && (PySem.W.kitOne K (.ref C) (.type "bool") == some false) && (PySem.W.kitOne K (.ref C) (.type "str") == some false) && (PySem.W.kitOne K (.ref C) (.type "tuple") == some false) &&
  (PySem.W.kitOne K (.ref C) (.type "list") == some false) && (PySem.W.kitOne K (.ref C) (.type "dict") == some false) && (PySem.W.kitOne K (.ref C) (.ref C) == some true) && (PySem.W.kitOne K (.type "str") (.ref C) == some false) &&
  PySem.W.notFirst K C (.ref C) && PySem.W.notFirst K C (.type "str")
theorem tapOk_iff {K : PySem.W.Frag} {C : Addr} (h : tapOk K C = true) : (PySem.W.kitOne K (.ref C) (.type "int") = some false ∧ PySem.W.kitOne K (.ref C) (.type "bool") = some false ∧ PySem.W.kitOne K (.ref C) (.type "str") = some false ∧ PySem.W.kitOne K (.ref C) (.type "tuple") = some false ∧
    PySem.W.kitOne K (.ref C) (.type "list") = some false ∧ PySem.W.kitOne K (.ref C) (.type "dict") = some false) ∧ PySem.W.kitOne K (.ref C) (.ref C) = some true ∧ PySem.W.kitOne K (.type "str") (.ref C) = some false ∧
    PySem.W.notFirst K C (.ref C) = true ∧ PySem.W.notFirst K C (.type "str") = true := by
  unfold tapOk at h
  simp only [Bool.and_eq_true, beq_iff_eq] at h
  obtain ⟨⟨⟨⟨⟨⟨⟨⟨⟨h1, h2⟩, h3⟩, h4⟩, h5⟩, h6⟩, h7⟩, h8⟩, h9⟩, h10⟩ := h
  exact ⟨⟨h1, h2, h3, h4, h5, h6⟩, h7, h8, h9, h10⟩
theorem TpTxt.ty {K : PySem.W.Frag} {mg : Str → Option Value} {C fI fE : Addr} (Y : TpTxt K mg C fI fE) {H : Hp} {a dx : Addr} {fs : List (Str × V)} (e : H a = some (.ins C dx fs)) : TyX K H (.ref a) (.ref C) :=
  .base (.ins e Y.cl Y.ca Y.cg Y.ct Y.ob)
/-- a tape at a whose events stand at t -/
def TapeOf (K : PySem.W.Frag) (C : Addr) (B : List Addr) (H : Hp) (a : Addr) : Prop := a ∉ B ∧ ∃ dx t k xs, H a = some (.ins C dx (tf t k)) ∧
  ((∀ H', SqT K H' t xs) ∨ (t ∉ B ∧ H t = some (.tup xs))) ∧ ∀ x ∈ xs, ∃ e : Addr, x = .ref e
theorem own_tape {K : PySem.W.Frag} {mg : Str → Option Value} {C fI fE : Addr} (Y : TpTxt K mg C fI fE) : Own K (TapeOf K C) where
  mono := fun sb ⟨na, dx, t, k, xs, e, h, g⟩ => ⟨na, dx, t, k, xs, sb _ _ na e, h.elim .inl fun ⟨nt, h⟩ => .inr ⟨nt, sb _ _ nt h⟩, g⟩
  more := fun {B H a d} ⟨kvs, hd⟩ ⟨na, dx, t, k, xs, e, h, g⟩ => by
    refine ⟨?_, dx, t, k, xs, e, h.elim .inl fun ⟨nt, h⟩ => .inr ⟨?_, h⟩, g⟩
    · intro q
      rcases List.mem_cons.mp q with rfl | q
      · rw [hd] at e
        cases e
      · exact na q
    · intro q
      rcases List.mem_cons.mp q with rfl | q
      · rw [hd] at h
        cases h
      · exact nt q
  tup := fun ⟨na, dx, t, k, xs, e, _⟩ q => by
    rw [e] at q
    cases q
  lst := fun ⟨na, dx, t, k, xs, e, _⟩ q => by
    rw [e] at q
    cases q
  dK := fun ⟨na, dx, t, k, xs, e, _⟩ q => by
    rw [e] at q
    cases q
  ty := fun ⟨na, dx, t, k, xs, e, _⟩ => by
    refine ⟨.ref C, Y.ty e, fun n hn => ?_⟩
    obtain ⟨h1, h2, h3, h4, h5, h6⟩ := Y.no
    simp only [List.mem_cons, List.not_mem_nil, or_false] at hn
    rcases hn with rfl | rfl | rfl | rfl | rfl | rfl <;> assumption
/-! ### a row of events -/
theorem Dat.nin {K : PySem.W.Frag} {T : List Addr → Hp → Addr → Prop} {B : List Addr} {H : Hp} {m n : Nat} {a : Addr} {xs : List V} (O : Own K T) (d : Dat T B H m n (.ref a)) (h : H a = some (.tup xs)) : a ∉ B := by
  cases d with
  | own t => exact (O.tup t h).elim
  | tup ne e _ _ => exact ne
  | lst ne e _ _ => exact ne
  | dic ne e _ _ _ _ => exact ne
/-- the argument of a row: no tuple, or a tuple (of the heap or of the written part) of data -/
def TupArg (K : PySem.W.Frag) (T : List Addr → Hp → Addr → Prop) (B : List Addr) (H0 H : Hp) (m n : Nat) (v : V) : Option (List V) → Prop
  | none => Isi K H v "tuple" false
  | some xs => ∃ a : Addr, v = .ref a ∧ xs.length ≤ m ∧ (∀ x ∈ xs, Dat T B H0 m n x) ∧ ∀ H', Same H H' → Isi K H' v "tuple" true ∧ SqT K H' a xs
def Tm (H : Hp) (x : V) (i : Int) : Prop := ∃ (a : Addr) (r : List V), x = .ref a ∧ H a = some (.tup (.int i :: r))
def RowOf (H : Hp) (xs : List V) : Prop := (∀ x ∈ xs, IsEvent H x) ∧ ∀ (k : Nat) (x y : V) (i j : Int), xs[k]? = some x → xs[k + 1]? = some y → Tm H x i → Tm H y j → i ≤ j
def spRow (K : PySem.W.Frag) (T : List Addr → Hp → Addr → Prop) : Sp := fun vs H Q _ => ∃ (v : V) (B : List Addr) (H0 : Hp) (m n : Nat) (o : Option (List V)), vs = [v] ∧ Ob B H0 H ∧ m ≤ 1000 ∧ TupArg K T B H0 H m n v o ∧
  ∀ H' b, Same H H' → (b = true ↔ ∃ xs, o = some xs ∧ RowOf H0 xs) → Q (.bl b) H'
theorem ev_at {K : PySem.W.Frag} {T : List Addr → Hp → Addr → Prop} {B : List Addr} {H0 H : Hp} {m n : Nat} {x : V} (O : Own K T) (sb : Ob B H0 H) (d : Dat T B H0 m n x) (e : IsEvent H0 x) :
    ∃ (a : Addr) (i : Int) (u l w : V), x = .ref a ∧ H a = some (.tup [.int i, u, l, w]) ∧ H0 a = some (.tup [.int i, u, l, w]) ∧ 0 ≤ i ∧ i < ten60 := by
  obtain ⟨a, t, u, l, w, rfl, h, ⟨i, rfl, h0, h1⟩, _⟩ := e
  exact ⟨a, i, u, l, w, rfl, sb _ _ (d.nin O h) h, h, h0, h1⟩
section
variable {P : Program} {w : World} {K : PySem.W.Frag} {mg : Str → Option Value} {base : Heap} {T : List Addr → Hp → Addr → Prop} {fI fL fN fE fR C f1 f2 : Addr} {dA : Addr} {es : Array DictEntry} {nA : Nat}
abbrev nRow : List Str := ["value", "event", "k"]
theorem scRow : FnScope nRow ["value"] (defScope sIsRowOfEvents) := ⟨rfl, rfl, rfl, by decide +kernel, rfl, by decide +kernel, by decide +kernel⟩
theorem ok_row (O : Own K T) {f : Addr} {fd fdE : FuncData} (F : Fun K "is_row_of_events" "is_row_of_events" sIsRowOfEvents f fd) (X : WTxt mg fI fL) (mE : mg "is_event" = some (.ref fE))
    (kE : PySem.W.keepIn K (.ref fE) = true) (bE : Binds K fdE ["value"] []) (GE : FnOk P w K mg base CX0 3 fE fdE ["value"] (spIs T IsEvent)) :
    FnOk P w K mg base CX0 4 f fd ["value"] (spRow K T) := by
  refine F.ok scRow (fun vs H Q E h => ?_) (fun cdv A outer s H vs Q E hr h => ?_)
  · obtain ⟨v, B, H0, m, n, o, rfl, _⟩ := h
    rfl
  · obtain ⟨v, B, H0, m, n, o, rfl, sb, hm, arg, k⟩ := h
    refine ⟨_, pss_cons (ps_if (PW.pt (pw_or (pt_not (pt_val (pe_isi (N := "tuple") (pv 0) X.isin X.tup))) (pw_or1 (pt_not (pt_val (pe_callB (cr_all rfl) (by rfl) X.all (by decide +kernel) (pa_cons (pe_lc (own := [("event", 1)]) (g := gName 1) (tt := tYes) rfl scRow.nd (pi_tup (pv 0))
          (blkOk_by (N := nRow) (sc := defScope sIsRowOfEvents) (by decide +kernel)) (fun _ _ _ _ _ => pg_name (i := 1) scRow.nd rfl (Or.inl rfl)) (fun _ _ _ _ _ => pts_nil)
          (fun _ _ _ _ _ => pe_call GE hr rfl mE kE bE .nil pass0 (pa_cons (pv 1) pa_nil))) pa_nil))))))) (pss_one (ps_ret pe_bl)) pss_nil)
      (pss_one (ps_ret (pe_callB (cr_all rfl) (by rfl) X.all (by decide +kernel) (pa_cons (pe_lc (own := [("k", 2)]) (g := gName 2) (tt := tYes) rfl scRow.nd
          (pi_range1 rfl X.range (pa_cons (pe_op op_sub (pe_callB call_len_seq (by rfl) X.len PySem.boot_len (pa_cons (pv 0) pa_nil)) pe_int) pa_nil))
          (blkOk_by (N := nRow) (sc := defScope sIsRowOfEvents) (by decide +kernel)) (fun _ _ _ _ _ => pg_name (i := 2) scRow.nd rfl (Or.inl rfl)) (fun _ _ _ _ _ => pts_nil)
          (fun _ _ _ _ _ => pe_cmpR op_le (pe_ix (r := rIxT K) ix_tup (pe_ix (r := rIxT K) ix_tup (pv 0) (pv 2) (fun _ _ => rfl)) pe_int (fun _ _ => rfl))
            (pe_ix (r := rIxT K) ix_tup (pe_ix (r := rIxT K) ix_tup (pv 0) (pe_op op_add (pv 2) pe_int) (fun _ _ => rfl)) pe_int (fun _ _ => rfl)) (nomark _))) pa_nil)))), ?_⟩
    cases o with
    | none =>
      exact ⟨_, rfl, _, arg, _, rfl, iteT (k _ _ (Same.refl _) (nay fun ⟨xs, e, _⟩ => nomatch e))⟩
    | some xs =>
      obtain ⟨a, rfl, hl, hk, tp⟩ := arg
      refine ⟨_, rfl, _, (tp _ (Same.refl _)).1, _, rfl, iteF ⟨_, rfl, a, rfl, ⟨xs, (tp _ (Same.refl _)).2⟩, fun D hD => ?_⟩⟩
      refine lc_bools (walk_tup (K := K) (xs := xs) (a := a)) (fun i => ∃ x, xs[i]? = some x ∧ IsEvent H0 x) hD (by omega) (fun H s => (tp _ s).2) ?_ ?_
      · rintro i x H1 H' kk hi s1 ⟨rfl, hx⟩ h
        exact ⟨rfl, _, rfl, x, B, H0, m, n, rfl, sb.same s1, hm, hk x (List.mem_of_getElem? hx), fun H4 b s4 hb => h b H4 s4 (at_one hx hb)⟩
      · rintro H1 bs s1 hD1 hb
        refine ⟨D, bs, rfl, SqL.of hD1, _, rfl, ?_⟩
        cases hbs : bs.all id with
        | false =>
          refine iteT (k _ _ s1 (nay fun ⟨ys, e, g, _⟩ => ?_))
          cases e
          rw [hbs] at hb
          exact Bool.noConfusion (hb.mpr (all_at.mpr g))
        | true =>
          have ev := all_at.mp (hb.mp hbs)
          refine iteF ⟨_, rfl, a, _, rfl, .inr (tp _ s1).2, _, _, rfl, rfl, _, rfl, by omega, by omega, fun D2 hD2 => ?_⟩
          have en : ((xs.length : Int) - 1).toNat = xs.length - 1 := by omega
          refine lc_bools (walk_range (n := ((xs.length : Int) - 1).toNat)) (fun q => ∀ (x y : V) (i j : Int), xs[q]? = some x → xs[q + 1]? = some y → Tm H0 x i → Tm H0 y j → i ≤ j) hD2 (by omega) (fun _ _ => trivial) ?_ ?_
          · rintro i x H2 H' kk hi s2 ⟨rfl, rfl⟩ h
            have hi1 : i < xs.length := by omega
            have hi2 : i + 1 < xs.length := by omega
            have g1 := List.getElem?_eq_getElem hi1
            have g2 := List.getElem?_eq_getElem hi2
            have s12 := s1.trans s2
            obtain ⟨a1, t1, u1, l1, w1, e1, q1, p1, _⟩ := ev_at O (sb.same s12) (hk _ (List.getElem_mem hi1)) (ev _ (List.getElem_mem hi1))
            obtain ⟨a2, t2, u2, l2, w2, e2, q2, p2, _⟩ := ev_at O (sb.same s12) (hk _ (List.getElem_mem hi2)) (ev _ (List.getElem_mem hi2))
            rw [e1] at g1
            rw [e2] at g2
            refine ⟨rfl, _, rfl, _, rfl, a, _, _, _, rfl, rfl, (tp _ s12).2, at_nn (by omega) (by rw [show (0 + (i : Int)).toNat = i by omega]; exact g1), ?_⟩
            refine ⟨a1, _, _, _, rfl, rfl, SqT.of q1, atI_nat (j := 0) rfl, ?_⟩
            refine ⟨_, rfl, _, rfl, _, _, rfl, rfl, a, _, _, _, rfl, rfl, (tp _ s12).2, at_nn (by omega) (by rw [show (0 + (i : Int) + 1).toNat = i + 1 by omega]; exact g2), ?_⟩
            refine ⟨a2, _, _, _, rfl, rfl, SqT.of q2, atI_nat (j := 0) rfl, ?_⟩
            refine ⟨_, _, rfl, rfl, h _ _ (Same.refl _) (decide_eq_true_iff.trans ⟨fun q x y i' j' h1 h2 h3 h4 => ?_, fun q => q _ _ t1 t2 g1 g2 ⟨a1, _, rfl, p1⟩ ⟨a2, _, rfl, p2⟩⟩)⟩
            rw [g1] at h1
            rw [g2] at h2
            obtain ⟨b1, r1, z1, y1⟩ := h3
            obtain ⟨b2, r2, z2, y2⟩ := h4
            rw [← Option.some.inj h1] at z1
            rw [← Option.some.inj h2] at z2
            cases z1
            cases z2
            rw [p1] at y1
            rw [p2] at y2
            cases y1
            cases y2
            exact q
          · rintro H2 bs2 s2 hD2' hb2
            rw [en] at hb2
            refine ⟨D2, bs2, rfl, SqL.of hD2', k _ _ (s1.trans s2) (hb2.trans ⟨fun q => ⟨xs, rfl, ev, fun j x y i1 i2 h1 h2 => q j ?_ x y i1 i2 h1 h2⟩, fun ⟨ys, e, _, g⟩ j _ => ?_⟩)⟩
            · have := (List.getElem?_eq_some_iff.mp h2).1
              omega
            · cases e
              exact g j
/-! ### a new tape without a last time -/
def spNew (K : PySem.W.Frag) (T : List Addr → Hp → Addr → Prop) (C : Addr) : Sp := fun vs H Q _ => ∃ (p dx t : Addr) (B : List Addr) (H0 : Hp) (m n : Nat) (xs : List V), vs = [.ref p, .ref t, .non] ∧ H p = some (.ins C dx []) ∧ Ob B H0 H ∧ m ≤ 1000 ∧ TupArg K T B H0 H m n (.ref t) (some xs) ∧ RowOf H0 xs ∧
  ∀ k H', (∀ b o, b ≠ p → H b = some o → H' b = some o) → H' p = some (.ins C dx (tf t k)) → Q .non H'
theorem scInit : FnScope ["self", "events", "last", "least"] ["self", "events", "last"] (defScope cTape_init) := ⟨rfl, rfl, rfl, by decide +kernel, rfl, by decide +kernel, by decide +kernel⟩
theorem ok_new (O : Own K T) {f : Addr} {fd fdR fdI : FuncData} {dvs : List V} {kws : List (Str × V)} (F : FunD K "__init__" "Tape.__init__" (defArgs cTape_init) (defBody cTape_init) (defScope cTape_init) dvs kws f fd) (Y : TpTxt K mg C f1 f2) (X : WTxt mg fI fL)
    (mR : mg "is_row_of_events" = some (.ref fR)) (kR : PySem.W.keepIn K (.ref fR) = true) (bR : Binds K fdR ["value"] []) (GR : FnOk P w K mg base CX0 4 fR fdR ["value"] (spRow K T))
    (FI : Fun K "is_integer" "is_integer" sIsInteger fI fdI) (bI : Binds K fdI ["value"] []) :
    FnOk P w K mg base CX0 5 f fd ["self", "events", "last"] (spNew K T C) := by
  have GI : FnOk P w K mg base CX0 1 fI fdI ["value"] (spIs T fun _ => IsInt) := ok_is_integer O FI X
  refine F.ok scInit (fun vs H Q E h => ?_) (fun cdv A outer s H vs Q E hr h => ?_)
  · obtain ⟨p, dx, t, B, H0, m, n, xs, rfl, _⟩ := h
    rfl
  · obtain ⟨p, dx, t, B, H0, m, n, xs, rfl, hp, sb, hm, arg, row, k⟩ := h
    have hr1 : Room 1 _ := hr.mono (by decide)
    refine ⟨_, PSs.nox (pss_cons (ps_if (pt_not (pt_val (pe_call GR hr rfl mR kR bR .nil pass0 (pa_cons (pv 1) pa_nil)))) (pss_one ps_never) pss_nil)
      (pss_cons (ps_set (i := 3) scInit.nd rfl (Or.inl rfl) (pe_ifExp (pt_cmpR op_gt (pe_callB call_len_seq (by rfl) X.len PySem.boot_len (pa_cons (pv 1) pa_nil)) pe_int (nomark _))
          (pe_ix (r := rIxT K) ix_tup (pe_ix (r := rIxT K) ix_tup (pv 1) (pe_un un_neg pe_int) (fun _ _ => rfl)) pe_int (fun _ _ => rfl)) pe_int))
      (pss_cons (ps_if (PW.pt (pw_and (pt_cmp (pc_notN (pv 2)) rfl) (pw_and1 (PW.pt (pw_or (pt_not (pt_val (pe_call GI hr1 rfl X.fi FI.kp bI .nil pass0 (pa_cons (pv 2) pa_nil)))) (pw_or1 (pt_cmpR op_lt (pv 2) (pv 3) (nomark _)))))))) (pss_one ps_never) pss_nil)
      (pss_cons (ps_fld (pv 0) (pv 1) rfl)
      (pss_one (ps_fld (pv 0) (pe_ifExp (pt_cmp (pc_isN (pv 2)) rfl) (pv 3) (pv 2)) rfl)))))), ?_⟩
    refine ⟨_, rfl, .ref t, B, H0, m, n, some xs, rfl, sb, hm, arg, fun H1 b s1 hb => ⟨b, rfl, ?_⟩⟩
    obtain rfl : b = true := hb.mpr ⟨xs, rfl, row⟩
    obtain ⟨a, ea, hl, hk, tp⟩ := arg
    cases ea
    have sq := (tp _ s1).2
    refine iteF ⟨_, rfl, t, xs, rfl, .inr sq, _, _, rfl, rfl, _, rfl, ?_⟩
    have fin : ∀ i : Int, (∃ b, (fun (k : Bool) => V.bl k) b = .bl (!decide (V.non = V.non)) ∧ b = false) → True := fun _ _ => trivial
    have hp1 := s1 _ _ hp
    have done : ∀ i : Int, Q .non (upd (upd H1 p (.ins C dx (putF "_events" (.ref t) []))) p (.ins C dx (tf t i))) := fun i => by
      refine k i _ (fun b o nb e => ?_) upd_same
      rw [upd_ne nb, upd_ne nb]
      exact s1 _ _ e
    refine ite2 (fun c => ?_) (fun c => ?_)
    · have c' : 0 < xs.length := by
        have := of_decide_eq_true c
        omega
      obtain ⟨ws, y, ew⟩ : ∃ ws y, xs = ws ++ [y] := ⟨xs.dropLast, xs.getLast (fun q => by rw [q] at c'; cases c'), (List.dropLast_concat_getLast _).symm⟩
      have lw : xs.length = ws.length + 1 := by rw [ew]; simp
      have ly : xs[ws.length]? = some y := by rw [ew]; simp
      have my := List.mem_of_getElem? ly
      obtain ⟨a1, t1, u1, l1, w1, rfl, q1, p1, _⟩ := ev_at O (sb.same s1) (hk _ my) (row.1 _ my)
      have q : atI xs (-1) = some (.ref a1) := by
        unfold atI ixN
        rw [if_neg (by decide), if_pos (by omega)]
        show xs[((xs.length : Int) + -1).toNat]? = _
        rw [show ((xs.length : Int) + -1).toNat = ws.length by omega]
        exact ly
      refine ⟨_, rfl, _, rfl, t, xs, -1, _, rfl, rfl, sq, q, a1, _, _, _, rfl, rfl, SqT.of q1, atI_nat (j := 0) rfl, ?_⟩
      refine ⟨_, rfl, _, rfl, iteF ?_⟩
      exact ⟨_, rfl, _, rfl, p, C, dx, _, rfl, hp1, Y.cl, Y.nE, (by show 0 < 1000; decide), _, rfl, _, rfl, iteT ⟨_, rfl, _, rfl, p, C, dx, _, rfl, upd_same, Y.cl, Y.nL, (by show 1 < 1000; decide), done t1⟩⟩
    · refine ⟨_, rfl, _, rfl, iteF ?_⟩
      exact ⟨_, rfl, _, rfl, p, C, dx, _, rfl, hp1, Y.cl, Y.nE, (by show 0 < 1000; decide), _, rfl, _, rfl, iteT ⟨_, rfl, _, rfl, p, C, dx, _, rfl, upd_same, Y.cl, Y.nL, (by show 1 < 1000; decide), done 0⟩⟩
/-! ### == of tapes -/
def spTEq (K : PySem.W.Frag) (C : Addr) : Sp := fun vs H Q _ => ∃ (a dx t : Addr) (k : Int) (y : V), vs = [.ref a, y] ∧ H a = some (.ins C dx (tf t k)) ∧
  ((∃ ty, TyX K H y ty ∧ PySem.W.kitOne K ty (.ref C) = some false ∧ Q (.bl false) H) ∨
    (y = .ref a ∧ ∃ xs, SqT K H t xs ∧ (∀ x ∈ xs, ∃ e : Addr, x = .ref e) ∧ ∀ H', Same H H' → Q (.bl true) H'))
theorem scEq : FnScope ["self", "other"] ["self", "other"] (defScope cTape_eq) := ⟨rfl, rfl, rfl, by decide +kernel, rfl, by decide +kernel, by decide +kernel⟩
theorem ok_teq {f : Addr} {fd : FuncData} (F : Fun K "__eq__" "Tape.__eq__" cTape_eq f fd) (Y : TpTxt K mg C f1 f2) (isin : mg "isinstance" = none) : FnOk P w K mg base CX0 2 f fd ["self", "other"] (spTEq K C) := by
  refine F.ok scEq (fun vs H Q E h => ?_) (fun cdv A outer s H vs Q E hr h => ?_)
  · obtain ⟨a, dx, t, k, y, rfl, _⟩ := h
    rfl
  · obtain ⟨a, dx, t, k, y, rfl, ha, h⟩ := h
    refine ⟨_, pss_one (ps_ret (pe_and (pe_callB call_isi (by rfl) isin (by decide +kernel) (pa_cons (pv 1) (pa_cons (pe_gcon rfl ⟨_, Y.mgC, (show RelV (.ref C) (.ref C) from rfl)⟩) pa_nil)))
      (pe_and (pe_cmpR (op_eqG (rcG_tup mon_same eqG_same) hr) (pe_fld (pv 0) rfl) (pe_fld (pv 1) rfl) (nomark _)) (pe_one (pe_cmpR op_eq (pe_fld (pv 0) rfl) (pe_fld (pv 1) rfl) (nomark _)))))), ?_⟩
    rcases h with ⟨ty, hty, kf, q⟩ | ⟨rfl, xs, sq, rf, q⟩
    · exact ⟨_, rfl, y, .ref C, ty, .ref C, false, rfl, .own C, hty, kf, false, rfl, iteF q⟩
    · refine ⟨_, rfl, .ref a, .ref C, .ref C, .ref C, true, rfl, .own C, Y.ty ha, Y.kC, true, rfl, iteT ?_⟩
      refine ⟨_, rfl, a, C, dx, _, _, rfl, ha, Y.cl, Y.nE, tf_events t k, _, rfl, a, C, dx, _, _, rfl, ha, Y.cl, Y.nE, tf_events t k, ⟨t, t, xs, xs, rfl, rfl, sq, sq, rfl, fun i x y h1 h2 => ?_⟩, fun H1 e1 => ?_⟩
      · rw [h1] at h2
        cases h2
        obtain ⟨e, rfl⟩ := rf x (List.mem_of_getElem? h1)
        exact ⟨e, rfl, rfl⟩
      · have ha1 := e1 _ _ ha
        refine ⟨true, rfl, iteT ⟨_, rfl, a, C, dx, _, _, rfl, ha1, Y.cl, Y.nL, tf_last t k, _, rfl, a, C, dx, _, _, rfl, ha1, Y.cl, Y.nL, tf_last t k, rfl, ?_⟩⟩
        rw [decide_eq_true rfl]
        exact q _ e1
theorem op_eqOS {X : Cx} {fd : FuncData} (Y : TpTxt K mg C f1 f2) (G : FnOk P w K mg base CX0 2 f2 fd ["self", "other"] (spTEq K C)) (b : Binds K fd ["self", "other"] []) (e1 : X.prog = P) (e2 : X.w = w) (e3 : X.K = K) (e4 : X.mg = mg) (e5 : X.base = base) (hr : Room 2 X.A) : OpR X (compareOp .Eq) (rEqOS (TapeOf K C)) := by
  subst e1 e2 e3 e4 e5
  intro pins s σ H x y v u Q I rx ry ⟨B, a, z, ex, ey, ⟨na, dx, t, k, xs, e, h, g⟩, q⟩
  subst ex ey
  cases rx
  obtain ⟨tk, rfl⟩ := ry
  refine cmp_own (E := E0) (y := .str z) (tb := .type "str") G Y.eqm Y.eqf b pass0 hr I e ⟨tk, rfl⟩ (PySem.W.Looks.of_pure rfl) Y.nfS ?_
  exact ⟨a, dx, t, k, _, rfl, e, .inl ⟨_, .base (.str z), Y.kS, false, rfl, q H (Same.refl _)⟩⟩
theorem op_eqO {X : Cx} {fd : FuncData} (Y : TpTxt K mg C f1 f2) (G : FnOk P w K mg base CX0 2 f2 fd ["self", "other"] (spTEq K C)) (b : Binds K fd ["self", "other"] []) (e1 : X.prog = P) (e2 : X.w = w) (e3 : X.K = K) (e4 : X.mg = mg) (e5 : X.base = base) (hr : Room 2 X.A) : OpR X (compareOp .Eq) (rEqO (TapeOf K C)) := by
  subst e1 e2 e3 e4 e5
  intro pins s σ H x y v u Q I rx ry ⟨B, a, ex, ey, ⟨na, dx, t, k, xs, e, h, g⟩, q⟩
  subst ex ey
  cases rx
  cases ry
  obtain ⟨mA, J, _⟩ := ins_get I.hok e
  obtain ⟨od, J, _⟩ := J.look
  refine cmp_own (E := E0) (y := .ref a) (tb := .ref C) G Y.eqm Y.eqf b pass0 hr I e rfl J.type Y.nf ?_
  exact ⟨a, dx, t, k, _, rfl, e, .inr ⟨rfl, xs, h.elim (fun h => h H) fun ⟨_, h⟩ => SqT.of h, g, fun H' s' => ⟨true, rfl, q H' s'⟩⟩⟩
end
end Wd

set_option Elab.async false
set_option linter.all false
set_option maxRecDepth 100000
set_option maxHeartbeats 4000000
/-! the law's odd values -/
namespace Wd
open PySem PySem.Spec PyProof.Rows L2
/-- an expression that makes data, all of it new or flat -/
def Mks (T : List Addr → Hp → Addr → Prop) (m n : Nat) (σ : L2.St) (te : TE) : Prop := ∀ (Bs : List Addr) (H : Hp) (Q : VK), (∀ b ∈ Bs, ∃ o, H b = some o) → (∀ v H', Same H H' → Dat T Bs H' m n v → Q v H') → te σ H Q
def MksA (T : List Addr → Hp → Addr → Prop) (m n : Nat) (σ : L2.St) (k : Nat) (ta : TA) : Prop := ∀ (Bs : List Addr) (H : Hp) (Q : List V → Hp → Prop), (∀ b ∈ Bs, ∃ o, H b = some o) → (∀ vs H', Same H H' → vs.length = k → (∀ v ∈ vs, Dat T Bs H' m n v) → Q vs H') → ta σ H Q
section
variable {K : PySem.W.Frag} {T : List Addr → Hp → Addr → Prop} {m n k : Nat} {σ : L2.St} {te : TE} {ta : TA}
theorem asg_go {te : TE} {g : TG} {D : Ends} {σ : L2.St} {H : Hp} (h : te σ H fun x H1 => g x σ H1 D.nx) : tAsg te g D σ H := h
theorem seq_go {t u : TS} {D : Ends} {σ : L2.St} {H : Hp} (h : t { D with nx := u D } σ H) : tSeq t u D σ H := h
theorem name_go {i : Nat} {v : V} {σ : L2.St} {H : Hp} {Q : L2.St → Hp → Prop} (h : Q (σ.set i (some v)) H) : gName i v σ H Q := h
theorem lst_go {ta : TA} {σ : L2.St} {H : Hp} {Q : VK} (h : ta σ H fun xs H1 => xs.length ≤ sizeLine ∧ ∀ p, H1 p = none → Q (.ref p) (upd H1 p (.lst xs))) : tLst ta σ H Q := h
theorem cons_go {te : TE} {ta : TA} {σ : L2.St} {H : Hp} {Q : List V → Hp → Prop} (h : te σ H fun x H1 => ta σ H1 fun xs H2 => Q (x :: xs) H2) : tCons te ta σ H Q := h
theorem op_go {r : R2} {ta tb : TE} {σ : L2.St} {H : Hp} {Q : VK} (h : ta σ H fun x H1 => tb σ H1 fun y H2 => r x y H2 Q) : tOp r ta tb σ H Q := h
theorem var_go {i : Nat} {v : V} {σ : L2.St} {H : Hp} {Q : VK} (e : σ[i]? = some (some v)) (h : Q v H) : tVar i σ H Q := ⟨v, e, h⟩
theorem stand {Bs : List Addr} {H H' : Hp} (s : Same H H') (h : ∀ b ∈ Bs, ∃ o, H b = some o) : ∀ b ∈ Bs, ∃ o, H' b = some o := fun b q => let ⟨o, e⟩ := h b q; ⟨o, s _ _ e⟩
theorem same_new {H : Hp} {p : Addr} {o : HO} (hp : H p = none) : Same H (upd H p o) := fun b u e => by rw [upd_ne (ne_of_none e hp)]; exact e
theorem new_nin {Bs : List Addr} {H : Hp} {p : Addr} (h : ∀ b ∈ Bs, ∃ o, H b = some o) (hp : H p = none) : p ∉ Bs := fun q => by
  obtain ⟨o, e⟩ := h p q
  rw [hp] at e
  cases e
theorem mks_c {v : V} (h : ∀ Bs H, Dat T Bs H m n v) : Mks T m n σ (tC v) := fun Bs H Q _ q => q v H (Same.refl _) (h Bs H)
theorem mks_str (z : Str) (h : z.length ≤ m) (o : PyData.strOk z = true) : Mks T m (n + 1) σ (tC (.str z)) := mks_c fun _ _ => .str z h o
def okT (z : Str) : Bool := decide (z.length ≤ 200) && PyData.strOk z
theorem lit (z : Str) (h : okT z = true) : Mks T 200 (n + 1) σ (tC (.str z)) := by
  unfold okT at h
  rw [Bool.and_eq_true, decide_eq_true_iff] at h
  exact mks_str z h.1 h.2
theorem mks_var {i : Nat} {v : V} (e : σ[i]? = some (some v)) (d : ∀ Bs H, Dat T Bs H m n v) : Mks T m n σ (tVar i) := fun Bs H Q _ q => ⟨v, e, q _ _ (Same.refl _) (d _ _)⟩
theorem mks_neg {i : Nat} {j : Int} (e : σ[i]? = some (some (.int j))) : Mks T m (n + 1) σ (tUn (rU fun i => .int (-i)) (tVar i)) := fun Bs H Q _ q => ⟨.int j, e, j, rfl, q _ _ (Same.refl _) (.int _)⟩
theorem mksA_nil : MksA T m n σ 0 tNil := fun Bs H Q _ q => q [] H (Same.refl _) rfl (fun v h => by cases h)
theorem mksA_cons (O : Own K T) (h : Mks T m n σ te) (h' : MksA T m n σ k ta) : MksA T m n σ (k + 1) (tCons te ta) := fun Bs H Q hb q =>
  h Bs H _ hb fun v H1 s1 d1 => h' Bs H1 _ (stand s1 hb) fun vs H2 s2 l2 d2 => q (v :: vs) H2 (s1.trans s2) (by rw [List.length_cons, l2]) fun u hu => by
    rcases List.mem_cons.mp hu with rfl | hu
    · exact d1.mono O (Ob.of s2)
    · exact d2 u hu
theorem mks_lst (O : Own K T) (hk : k ≤ m) (hm : m ≤ 1000) (h : MksA T m n σ k ta) : Mks T m (n + 1) σ (tLst ta) := fun Bs H Q hb q =>
  h Bs H _ hb fun vs H1 s1 l1 d1 => ⟨Nat.le_of_lt (small1000 (by omega)), fun p hp => q _ _ (s1.trans (same_new hp)) (.lst (new_nin (stand s1 hb) hp) upd_same (by omega) fun x hx => (d1 x hx).mono O (Ob.of (same_new hp)))⟩
theorem mks_tup (O : Own K T) (hk : k ≤ m) (hm : m ≤ 1000) (h : MksA T m n σ k ta) : Mks T m (n + 1) σ (tTup ta) := fun Bs H Q hb q =>
  h Bs H _ hb fun vs H1 s1 l1 d1 => ⟨Nat.le_of_lt (small1000 (by omega)), fun p hp => q _ _ (s1.trans (same_new hp)) (.tup (new_nin (stand s1 hb) hp) upd_same (by omega) fun x hx => (d1 x hx).mono O (Ob.of (same_new hp)))⟩
theorem mks_dnew : Mks T m (n + 1) σ tDNewK := fun Bs H Q hb q p hp => q _ _ (same_new hp) (.dic (new_nin hb hp) upd_same (Nat.zero_le _) List.nodup_nil (fun x h => by cases h) (fun x h => by cases h))
theorem Dat.less {d : Addr} {B : List Addr} {H : Hp} {v : V} (hT : ∀ a, T (d :: B) H a → T B H a) (x : Dat T (d :: B) H m n v) : Dat T B H m n v := by
  induction x with
  | non => exact .non
  | bl b => exact .bl b
  | int i => exact .int i
  | str s h o => exact .str s h o
  | own t => exact .own (hT _ t)
  | tup ne e l p ih => exact .tup (fun q => ne (List.mem_cons_of_mem _ q)) e l ih
  | lst ne e l p ih => exact .lst (fun q => ne (List.mem_cons_of_mem _ q)) e l ih
  | dic ne e l nd ks p ih => exact .dic (fun q => ne (List.mem_cons_of_mem _ q)) e l nd ks ih
theorem mks_dict1 (O : Own K T) (hT : ∀ d B H a, T (d :: B) H a → T B H a) {z : Str} (hz : z.length ≤ m) (hs : PyData.strOk z = true) (hm : 20 ≤ m) (h : Mks T m n σ te) : Mks T m (n + 1) σ (tDisp [(tC (.str z), te)]) := fun Bs H Q hb q p hp => by
  refine h (p :: Bs) (upd H p (.dK [])) _ (fun b hb' => ?_) fun v H1 s1 d1 => ?_
  · rcases List.mem_cons.mp hb' with rfl | hb'
    · exact ⟨_, upd_same⟩
    · exact stand (same_new hp) hb b hb'
  · have np : p ∉ Bs := new_nin hb hp
    refine ⟨s1 _ _ upd_same, [(Sum.inr z, v)], rfl, (by show 1 ≤ 15; decide), ?_⟩
    have ob : Ob (p :: Bs) H1 (upd H1 p (.dK (mergeK [] [(Sum.inr z, v)]))) := fun b o nb e => by
      rw [upd_ne (fun q => nb (by rw [q]; exact List.mem_cons_self ..))]
      exact e
    refine q _ _ (fun b o e => ?_) (.dic np upd_same ?_ ?_ ?_ ?_)
    · have nb : b ≠ p := ne_of_none e hp
      rw [upd_ne nb]
      exact s1 _ _ (by rw [upd_ne nb]; exact e)
    · show 20 * 1 ≤ m
      omega
    · show ([Sum.inr z] : List Key).Nodup
      simp
    · intro x hx
      obtain rfl : x = (Sum.inr z, v) := List.mem_singleton.mp hx
      exact ⟨z, rfl, hz, hs⟩
    · intro x hx
      obtain rfl : x = (Sum.inr z, v) := List.mem_singleton.mp hx
      exact (d1.mono O ob).less fun a => hT p Bs _ a
theorem tape_less {C : Addr} : ∀ d B H a, TapeOf K C (d :: B) H a → TapeOf K C B H a := fun d B H a ⟨na, dx, t, k, xs, e, h, g⟩ =>
  ⟨fun q => na (List.mem_cons_of_mem _ q), dx, t, k, xs, e, h.elim .inl fun ⟨nt, h⟩ => .inr ⟨fun q => nt (List.mem_cons_of_mem _ q), h⟩, g⟩
theorem mks_tape0 {C t0 : Addr} (h0 : ∀ H, Isi K H (.ref t0) "tuple" true ∧ SqT K H t0 []) : Mks (TapeOf K C) m (n + 1) σ (tMake C (spNew K (TapeOf K C) C) [.ref t0, .non] E0 tNil) := fun Bs H Q hb q x dx hx hd ne => by
  refine ⟨x, dx, t0, [], _, 0, 0, [], rfl, upd_same, Ob.refl _ _, Nat.zero_le _, ⟨t0, rfl, Nat.le_refl _, (fun x h => by cases h), fun H' _ => h0 H'⟩, ⟨(fun x h => by cases h), fun k x y i j h => by simp at h⟩, fun k H1 s1 e1 => ⟨rfl, ?_⟩⟩
  exact q _ _ (Same.made hx hd fun b o e nb => s1 b o nb e) (.own ⟨new_nin hb hx, dx, t0, k, [], e1, .inl fun H' => (h0 H').2, fun x h => by cases h⟩)
theorem mks_tape1 {C : Addr} : Mks (TapeOf K C) m (n + 1) σ (tMake C (spNew K (TapeOf K C) C) [.non] E0 (tCons (tTup (tCons (tTup (tCons (tC (.int 2)) (tCons (tC (.str (Str.ofString "s"))) (tCons (tC (.str (Str.ofString "a"))) (tCons (tC (.int 1)) tNil))))) tNil)) tNil)) := fun Bs H Q hb q => by
  refine ⟨(by show 4 ≤ sizeLine; decide), fun e he => ⟨(by show 1 ≤ sizeLine; decide), fun t ht => fun x dx hx hd ne => ?_⟩⟩
  have s1 : Same H (upd H e (.tup [.int 2, .str (Str.ofString "s"), .str (Str.ofString "a"), .int 1])) := same_new he
  have e1 : (upd H e (.tup [.int 2, .str (Str.ofString "s"), .str (Str.ofString "a"), .int 1])) e = some (.tup [.int 2, .str (Str.ofString "s"), .str (Str.ofString "a"), .int 1]) := upd_same
  generalize upd H e (.tup [.int 2, .str (Str.ofString "s"), .str (Str.ofString "a"), .int 1]) = H1 at s1 e1 ht hx hd
  have s2 : Same H1 (upd H1 t (.tup [.ref e])) := same_new ht
  have t1 : (upd H1 t (.tup [.ref e])) t = some (.tup [.ref e]) := upd_same
  have ne' : e ∉ Bs := new_nin hb he
  have nt : t ∉ Bs := new_nin (stand s1 hb) ht
  generalize upd H1 t (.tup [.ref e]) = H2 at s2 t1 hx hd
  have nx : x ∉ Bs := new_nin (stand s2 (stand s1 hb)) hx
  have sd : Same H2 (upd H2 dx (.own x)) := same_new hd
  have sx : Same (upd H2 dx (.own x)) (upd (upd H2 dx (.own x)) x (.ins C dx [])) := same_new (by rw [upd_ne (Ne.symm ne)]; exact hx)
  have s3 := sd.trans sx
  have x3 : (upd (upd H2 dx (.own x)) x (.ins C dx [])) x = some (.ins C dx []) := upd_same
  have mk : ∀ H9, (∀ b o, b ≠ x → (upd (upd H2 dx (.own x)) x (.ins C dx [])) b = some o → H9 b = some o) → Same H2 H9 := fun H9 h => Same.made hx hd fun b o q nb => h b o nb q
  show spNew K (TapeOf K C) C _ _ _ _
  generalize upd (upd H2 dx (.own x)) x (.ins C dx []) = H3 at s3 x3 mk
  have e3 := s3 _ _ (s2 _ _ e1)
  have t3 := s3 _ _ t1
  refine ⟨x, dx, t, [], H3, 4, 2, [.ref e], rfl, x3, Ob.refl _ _, by decide, ⟨t, rfl, (by show 1 ≤ 4; decide), fun y hy => ?_, fun H' s' => ⟨isi_ty (.base (.tup (s' _ _ t3))) (by decide), SqT.of (s' _ _ t3)⟩⟩, ⟨fun y hy => ?_, fun k x y i j h1 h2 => ?_⟩, fun k H4 s4 e4 => ⟨rfl, ?_⟩⟩
  · obtain rfl := List.mem_singleton.mp hy
    refine .tup (by simp) e3 (by decide) fun z hz => ?_
    simp only [List.mem_cons, List.not_mem_nil, or_false] at hz
    rcases hz with rfl | rfl | rfl | rfl
    · exact .int _
    · exact .str _ (by decide +kernel) (by decide +kernel)
    · exact .str _ (by decide +kernel) (by decide +kernel)
    · exact .int _
  · obtain rfl := List.mem_singleton.mp hy
    refine ⟨e, _, _, _, _, rfl, e3, ⟨2, rfl, by decide, by decide +kernel⟩, ⟨_, rfl, by decide +kernel, by decide +kernel, ?_, by decide +kernel⟩, ⟨97, by decide +kernel, (by unfold low; decide)⟩, ⟨1, rfl, by decide +kernel, by decide +kernel⟩⟩
    have hc : ∀ c ∈ (Str.ofString "s").cps.toList, 97 ≤ c ∧ c ≤ 122 := by decide +kernel
    exact hc
  · simp at h2
  · have s24 := mk H4 s4
    exact q _ _ ((s1.trans s2).trans s24) (.own ⟨nx, dx, t, k, [.ref e], e4, .inr ⟨nt, s24 _ _ t1⟩, fun y hy => ⟨e, List.mem_singleton.mp hy⟩⟩)
end
section
variable {P : Program} {w : World} {K : PySem.W.Frag} {mg : Str → Option Value} {base : Heap} {fT fP C f1 f2 t0 : Addr}
theorem scOdd : FnScope ["bag", "edge", "some"] ["bag"] (defScope sOdd) := ⟨rfl, rfl, rfl, by decide +kernel, rfl, by decide +kernel, by decide +kernel⟩
theorem ok_odd {f : Addr} {fd fdT fdP fdN : FuncData} (F : Fun K "_law_odd" "_law_odd" sOdd f fd) (X : GTxt mg fT fP) (Y : TpTxt K mg C f1 f2) (FT : Fun K "_law_throw" "_law_throw" sThrow fT fdT) (bT : Binds K fdT ["bag", "total"] []) (FP : Fun K "_law_pick" "_law_pick" sPick fP fdP) (bP : Binds K fdP ["bag", "items"] [])
    (GN : FnOk P w K mg base CX0 5 f1 fdN ["self", "events", "last"] (spNew K (TapeOf K C) C)) {ds0 ds1 : List Value} (v0 : Vals [.ref t0, .non] ds0) (b0 : Binds K fdN ["self", "events", "last"] ds0) (v1 : Vals [.non] ds1) (b1 : Binds K fdN ["self", "events", "last"] ds1)
    (h0 : ∀ H, Isi K H (.ref t0) "tuple" true ∧ SqT K H t0 []) : FnOk P w K mg base CX0 7 f fd ["bag"] (spOdd (TapeOf K C)) := by
  have O : Own K (TapeOf K C) := own_tape Y
  have GT : FnOk P w K mg base CX0 1 fT fdT ["bag", "total"] spThrow := ok_throw FT X.toTxtA
  have GL : FnOk P w K mg base CX0 2 fP fdP ["bag", "items"] spPickL := ok_pickL FP X.toTxtA FT bT
  refine F.ok scOdd (fun vs H Q E h => ?_) (fun cdv A outer s H vs Q E hr h => ?_)
  · obtain ⟨B, rfl, _⟩ := h
    rfl
  · obtain ⟨B, rfl, hB, k⟩ := h
    have hr1 : Room 1 _ := hr.mono (by decide)
    have hr2 : Room 2 _ := hr.mono (by decide)
    refine ⟨_, pss_cons (ps_set (i := 1) scOdd.nd rfl (Or.inl rfl) (pe_call GL hr2 rfl X.pick FP.kp bP .nil pass0 (pa_cons (pv 0) (pa_cons (pe_lst (pa_cons (pe_op op_pow pe_int pe_int) (pa_cons (pe_op op_sub (pe_op op_pow pe_int pe_int) pe_int) (pa_cons pe_int (pa_cons pe_int
          (pa_cons (pe_op op_mulW (pe_op op_pow pe_int pe_int) (pe_op op_pow pe_int pe_int)) pa_nil)))))) pa_nil))))
      (pss_cons (ps_set (i := 2) scOdd.nd rfl (Or.inl rfl) (pe_lst (pa_cons pe_non (pa_cons pe_bl (pa_cons pe_bl (pa_cons (pv 1) (pa_cons (pe_un un_neg (pv 1)) (pa_cons pe_str (pa_cons pe_str (pa_cons pe_str (pa_cons pe_str (pa_cons pe_str (pa_cons pe_str (pa_cons (pe_tup pa_nil)
          (pa_cons (pe_lst pa_nil) (pa_cons pe_dnewK (pa_cons (pe_tup (pa_cons pe_str pa_nil)) pa_nil)))))))))))))))))
      (pss_cons (ps_set (i := 2) scOdd.nd rfl (Or.inl rfl) (pe_op op_cat (pv 2) (pe_lst (pa_cons (pe_lst (pa_cons pe_str pa_nil)) (pa_cons (pe_disp (pps_cons pe_str pe_str pps_nil) (by rfl) (by rfl) (fun z => by cases z) (by decide))
          (pa_cons (pe_disp (pps_cons pe_str (pe_tup (pa_cons pe_str (pa_cons pe_str pa_nil))) pps_nil) (by rfl) (by rfl) (fun z => by cases z) (by decide)) (pa_cons (pe_tup (pa_cons pe_non pa_nil)) (pa_cons (pe_tup (pa_cons pe_int (pa_cons pe_str (pa_cons pe_str (pa_cons pe_int pa_nil)))))
          (pa_cons (pe_tup (pa_cons pe_str (pa_cons (pe_tup pa_nil) pa_nil))) (pa_cons (pe_tup (pa_cons pe_str pa_nil)) (pa_cons pe_str pa_nil)))))))))))
      (pss_one (ps_ret (pe_call GL hr2 rfl X.pick FP.kp bP .nil pass0 (pa_cons (pv 0) (pa_cons (pe_op op_cat (pv 2) (pe_lst (pa_cons (pe_call GT hr1 rfl X.thr FT.kp bT .nil pass0 (pa_cons (pv 0) (pa_cons (pe_op op_pow pe_int pe_int) pa_nil)))
          (pa_cons (pe_make0 Y.mak GN hr rfl Y.mgC b0 v0 pass0) (pa_cons (pe_make Y.mak GN hr rfl Y.mgC b1 v1 pass0 (pa_cons (pe_tup (pa_cons (pe_tup (pa_cons pe_int (pa_cons pe_str (pa_cons pe_str (pa_cons pe_int pa_nil))))) pa_nil)) pa_nil)) pa_nil))))) pa_nil))))))), ?_⟩
    -- edge
    refine ⟨_, rfl, _, _, rfl, rfl, ⟨by decide, by decide, by decide⟩, _, _, rfl, rfl, ⟨by decide, by decide, by decide⟩, _, _, rfl, rfl, _, _, rfl, rfl, ⟨by decide, by decide, by decide⟩, _, _, rfl, rfl, ⟨by decide, by decide, by decide⟩,
      _, _, rfl, rfl, wide_mul (a := 300) (b := 300) (by decide +kernel) (by decide +kernel) (by decide) (by decide) (by decide), (by show 5 ≤ sizeLine; decide), fun l0 hl0 => ?_⟩
    refine ⟨B, l0, _, rfl, hB.new hl0, (hB.ne hl0).symm, upd_same, (by show 0 < 5; decide), (by show 5 ≤ 100; decide), fun y H1 hy s1' b1' => ?_⟩
    have s1 : SB B H H1 := ((SB.refl B H).new hl0).trans s1'
    obtain ⟨i, rfl⟩ : ∃ i : Int, y = .int i := by
      simp only [List.mem_cons, List.not_mem_nil, or_false] at hy
      rcases hy with rfl | rfl | rfl | rfl | rfl <;> exact ⟨_, rfl⟩
    clear hy s1'
    have stB : ∀ b ∈ [B], ∃ o, H1 b = some o := fun b hb => by
      obtain rfl := List.mem_singleton.mp hb
      obtain ⟨x, y, z, e⟩ := b1'
      exact ⟨_, e⟩
    -- some = [..]
    have mk15 := fun (σ : L2.St) (e : σ[1]? = some (some (V.int i))) => (mksA_cons O (mks_c fun _ _ => .non) (mksA_cons O (mks_c fun _ _ => .bl true) (mksA_cons O (mks_c fun _ _ => .bl false) (mksA_cons O (mks_var (i := 1) (v := .int i) e fun _ _ => .int i) (mksA_cons O (mks_neg (i := 1) (j := i) e)
      (mksA_cons O (lit (Str.ofString "") (by decide +kernel)) (mksA_cons O (lit (Str.ofString "end") (by decide +kernel)) (mksA_cons O (lit (Str.ofString "A") (by decide +kernel)) (mksA_cons O (lit (Str.ofString "a1") (by decide +kernel)) (mksA_cons O (lit (Str.ofString "nine letter") (by decide +kernel)) (mksA_cons O (lit (Str.ofString "longnames") (by decide +kernel))
      (mksA_cons O (mks_tup O (by decide) (by decide) mksA_nil) (mksA_cons O (mks_lst O (by decide) (by decide) mksA_nil) (mksA_cons O mks_dnew (mksA_cons O (mks_tup O (by decide) (by decide) (mksA_cons O (lit (Str.ofString "a") (by decide +kernel)) mksA_nil)) mksA_nil)))))))))))))) : MksA (TapeOf K C) 200 3 σ 15 _)
    refine name_go (seq_go (asg_go (lst_go (mk15 _ (by rfl) [B] H1 _ stB fun vs H2 s2 l2 d2 => ?_))))
    refine ⟨by rw [l2]; decide, fun l1 hl1 => ?_⟩
    have nB1 : l1 ≠ B := fun q => by
      obtain ⟨o, e⟩ := stand s2 stB B (List.mem_singleton.mpr rfl)
      rw [q, e] at hl1
      cases hl1
    have sb3 : Same H2 (upd H2 l1 (.lst vs)) := same_new hl1
    have e3 : (upd H2 l1 (.lst vs)) l1 = some (.lst vs) := upd_same
    have d3 : ∀ v ∈ vs, Dat (TapeOf K C) [B] (upd H2 l1 (.lst vs)) 200 3 v := fun v hv => (d2 v hv).mono O (Ob.of sb3)
    generalize upd H2 l1 (.lst vs) = H3 at sb3 e3 d3
    have st3 := stand sb3 (stand s2 stB)
    -- some = some + [..]
    refine name_go (seq_go (asg_go (op_go (var_go (by rfl) (lst_go ((mksA_cons O (mks_lst O (by decide) (by decide) (mksA_cons O (lit (Str.ofString "a") (by decide +kernel)) mksA_nil)) (mksA_cons O (mks_dict1 (z := Str.ofString "a") O tape_less (by decide +kernel) (by decide +kernel) (by decide) (lit (Str.ofString "b") (by decide +kernel)))
      (mksA_cons O (mks_dict1 (z := Str.ofString "s") O tape_less (by decide +kernel) (by decide +kernel) (by decide) (mks_tup O (by decide) (by decide) (mksA_cons O (lit (Str.ofString "a") (by decide +kernel)) (mksA_cons O (lit (Str.ofString "b") (by decide +kernel)) mksA_nil))))
      (mksA_cons O (mks_tup O (by decide) (by decide) (mksA_cons O (mks_c fun _ _ => .non) mksA_nil))
      (mksA_cons O (mks_tup O (by decide) (by decide) (mksA_cons O (mks_c fun _ _ => .int _) (mksA_cons O (lit (Str.ofString "s") (by decide +kernel)) (mksA_cons O (lit (Str.ofString "a") (by decide +kernel)) (mksA_cons O (mks_c fun _ _ => .int _) mksA_nil)))))
      (mksA_cons O (mks_tup O (by decide) (by decide) (mksA_cons O (lit (Str.ofString "a") (by decide +kernel)) (mksA_cons O (mks_tup O (by decide) (by decide) mksA_nil) mksA_nil)))
      (mksA_cons O (mks_tup O (by decide) (by decide) (mksA_cons O (lit (Str.ofString "end") (by decide +kernel)) mksA_nil)) (mksA_cons O (lit (Str.ofString "told") (by decide +kernel)) mksA_nil))))))) : MksA (TapeOf K C) 200 3 _ 8 _) [B] H3 _ st3 fun us H4 s4 l4 d4 => ?_))))))
    refine ⟨by rw [l4]; decide, fun l5 hl5 => ?_⟩
    have s5 : Same H4 (upd H4 l5 (.lst us)) := same_new hl5
    refine ⟨l1, l5, vs, us, rfl, rfl, s5 _ _ (s4 _ _ e3), upd_same, by rw [l2, l4]; decide, fun l6 hl6 => ?_⟩
    have s6 : Same H3 (upd (upd H4 l5 (.lst us)) l6 (.lst (vs ++ us))) := (s4.trans s5).trans (same_new hl6)
    have e6 : (upd (upd H4 l5 (.lst us)) l6 (.lst (vs ++ us))) l6 = some (.lst (vs ++ us)) := upd_same
    have d6 : ∀ v ∈ vs ++ us, Dat (TapeOf K C) [B] (upd (upd H4 l5 (.lst us)) l6 (.lst (vs ++ us))) 200 3 v := fun v hv => by
      rcases List.mem_append.mp hv with hv | hv
      · exact (d3 v hv).mono O (Ob.of s6)
      · exact (d4 v hv).mono O (Ob.of (s5.trans (same_new hl6)))
    have n6 : l6 ≠ B := fun q => by
      obtain ⟨o, e⟩ := stand (s4.trans s5) st3 B (List.mem_singleton.mpr rfl)
      rw [q, e] at hl6
      cases hl6
    generalize upd (upd H4 l5 (.lst us)) l6 (.lst (vs ++ us)) = H6 at s6 e6 d6
    have s16 : Same H1 H6 := (s2.trans sb3).trans s6
    have b6 : BagAt H6 B := by
      obtain ⟨x, y, z, e⟩ := b1'
      exact ⟨x, y, z, s16 _ _ e⟩
    -- the last list
    refine ⟨_, rfl, _, rfl, _, rfl, _, _, rfl, rfl, ⟨by decide, by decide, by decide⟩, B, _, rfl, b6, by decide +kernel, by decide +kernel, fun r H7 r0 r1 s7 b7 => ?_⟩
    have st7 : ∀ b ∈ [B], ∃ o, H7 b = some o := fun b hb => by
      obtain rfl := List.mem_singleton.mp hb
      obtain ⟨x, y, z, e⟩ := b7
      exact ⟨_, e⟩
    refine mks_tape0 (m := 200) (n := 2) (σ := _) h0 [B] H7 _ st7 fun v8 H8 s8 d8 => ?_
    refine mks_tape1 (m := 200) (n := 2) (σ := _) [B] H8 _ (stand s8 st7) fun v9 H9 s9 d9 => ?_
    refine ⟨(by show 3 ≤ sizeLine; decide), fun l10 hl10 => ?_⟩
    have s79 : SB B H6 H9 := s7.trans (SB.of (s8.trans s9))
    have e10 : (upd H9 l10 (.lst [.int r, v8, v9])) l6 = some (.lst (vs ++ us)) := same_new hl10 _ _ (s79 _ _ n6 e6)
    refine ⟨l6, l10, _, _, rfl, rfl, e10, upd_same, (by rw [List.length_append, l2, l4]; show 14 + 1 + (7 + 1) + 3 ≤ sizeLine; decide), fun l11 hl11 => ?_⟩
    have s11 : Same H9 (upd (upd H9 l10 (.lst [.int r, v8, v9])) l11 (.lst ((vs ++ us) ++ [.int r, v8, v9]))) := (same_new hl10).trans (same_new hl11)
    have b11 : BagAt (upd (upd H9 l10 (.lst [.int r, v8, v9])) l11 (.lst ((vs ++ us) ++ [.int r, v8, v9]))) B := by
      obtain ⟨x, y, z, e⟩ := b7
      exact ⟨x, y, z, s11 _ _ (s9 _ _ (s8 _ _ e))⟩
    have n11 : B ≠ l11 := fun q => by
      obtain ⟨x, y, z, e⟩ := b7
      have := same_new hl10 (o := .lst [.int r, v8, v9]) _ _ (s9 _ _ (s8 _ _ e))
      rw [q, hl11] at this
      cases this
    refine ⟨B, l11, _, rfl, b11, n11, upd_same, (by rw [List.length_append]; show 0 < _ + 3; omega), (by rw [List.length_append, List.length_append, l2, l4]; show 14 + 1 + (7 + 1) + 3 ≤ 100; decide), fun y H12 hy s12 b12 => ?_⟩
    have ob12 : Ob [B] (upd (upd H9 l10 (.lst [.int r, v8, v9])) l11 (.lst ((vs ++ us) ++ [.int r, v8, v9]))) H12 := fun b o nb e => s12 b o (fun q => nb (by rw [q]; exact List.mem_singleton.mpr rfl)) e
    have ob79 : Ob [B] H6 H9 := fun b o nb e => s79 b o (fun q => nb (by rw [q]; exact List.mem_singleton.mpr rfl)) e
    refine k y H12 ?_ (s1.trans ((SB.of s16).trans (s79.trans ((SB.of s11).trans s12)))) b12
    rcases List.mem_append.mp hy with hy | hy
    · exact (d6 y hy).mono O ((ob79.same s11).trans ob12)
    · simp only [List.mem_cons, List.not_mem_nil, or_false] at hy
      rcases hy with rfl | rfl | rfl
      · exact .int _
      · exact (d8.mono O (Ob.of (s9.trans s11))).mono O ob12
      · exact (d9.mono O (Ob.of s11)).mono O ob12
end
end Wd

set_option Elab.async false
set_option linter.all false
set_option maxRecDepth 100000
set_option maxHeartbeats 4000000
namespace Wd
open PySem L2
open PySem.W (nsIn codeIn fnOf keepIn)
def keys25 : List Str := ["source", "never", "one", "after", "every", "told", "it", "only", "pick", "fold", "first", "changes", "pairs", "quiet", "spaced", "late", "again", "+", "&", "at", "until", "then", "else", "switch", "busy"].map Str.ofString
theorem keys25_mem (z : Str) : z ∈ keys25 ↔ z ∈ words ∨ z = Str.ofString "+" ∨ z = Str.ofString "&" := by
  constructor
  · intro h
    have all : ∀ y ∈ keys25, y ∈ words ∨ y = Str.ofString "+" ∨ y = Str.ofString "&" := by decide +kernel
    exact all z h
  · rintro (h | rfl | rfl)
    · have all : ∀ y ∈ words, y ∈ keys25 := by decide +kernel
      exact all z h
    · decide +kernel
    · decide +kernel
abbrev sRow : Stmt := sIsRowOfEvents
theorem all_mk {l : PySem.W.OpenLaw} {w : World} {K : PySem.W.Frag} {h : Heap} {mg : Str → Option Value} {fa : Addr} (KX : K.In h) (G : h.Ns mainGlobals mg) (hfa : mg "law" = some (.ref fa))
    {uIsInteger uIsLetter uIsLetters uIsName uIsLayout uIsSrcL uIsEvent uIsOutput uIsValues uIsList uRow uStart uThrow uPick uLetter uLetters uWords uName uLayout uValue uSame uLInt uLLet uLName uLLayout uLEvent uLOutput uLList uCopied uOdd uSpoiled uGood uLaw dA uNew uDf uKw uZ uTe uC : Addr} {ocNew dcNew pmNew cdNew ctNew ocDf ocTe kVTe dcTe pmTe cdTe ctTe : Value} {odNew anNew odDf odZ odTe anTe : Option Addr} {slNew slDf slZ slTe : Array (Option Value)} {nDf nZ : Nat}
    {ocIsInteger kVIsInteger dcIsInteger pmIsInteger cdIsInteger ctIsInteger ocIsLetter kVIsLetter dcIsLetter pmIsLetter cdIsLetter ctIsLetter ocIsLetters kVIsLetters dcIsLetters pmIsLetters cdIsLetters ctIsLetters ocIsName kVIsName dcIsName pmIsName cdIsName ctIsName ocIsLayout kVIsLayout dcIsLayout pmIsLayout cdIsLayout ctIsLayout ocIsSrcL kVIsSrcL dcIsSrcL pmIsSrcL cdIsSrcL ctIsSrcL ocIsEvent kVIsEvent dcIsEvent pmIsEvent cdIsEvent ctIsEvent ocIsOutput kVIsOutput dcIsOutput pmIsOutput cdIsOutput ctIsOutput ocIsValues kVIsValues dcIsValues pmIsValues cdIsValues ctIsValues ocIsList kVIsList dcIsList pmIsList cdIsList ctIsList ocRow kVRow dcRow pmRow cdRow ctRow ocStart kVStart dcStart pmStart cdStart ctStart ocThrow kVThrow dcThrow pmThrow cdThrow ctThrow ocPick kVPick dcPick pmPick cdPick ctPick ocLetter kVLetter dcLetter pmLetter cdLetter ctLetter ocLetters kVLetters dcLetters pmLetters cdLetters ctLetters ocWords kVWords dcWords pmWords cdWords ctWords ocName kVName dcName pmName cdName ctName ocLayout kVLayout dcLayout pmLayout cdLayout ctLayout ocValue kVValue dcValue pmValue cdValue ctValue ocSame kVSame dcSame pmSame cdSame ctSame ocLInt kVLInt dcLInt pmLInt cdLInt ctLInt ocLLet kVLLet dcLLet pmLLet cdLLet ctLLet ocLName kVLName dcLName pmLName cdLName ctLName ocLLayout kVLLayout dcLLayout pmLLayout cdLLayout ctLLayout ocLEvent kVLEvent dcLEvent pmLEvent cdLEvent ctLEvent ocLOutput kVLOutput dcLOutput pmLOutput cdLOutput ctLOutput ocLList kVLList dcLList pmLList cdLList ctLList ocCopied kVCopied dcCopied pmCopied cdCopied ctCopied ocOdd kVOdd dcOdd pmOdd cdOdd ctOdd ocSpoiled kVSpoiled dcSpoiled pmSpoiled cdSpoiled ctSpoiled ocGood kVGood dcGood pmGood cdGood ctGood ocLaw kVLaw dcLaw pmLaw cdLaw ctLaw : Value} {odIsInteger anIsInteger odIsLetter anIsLetter odIsLetters anIsLetters odIsName anIsName odIsLayout anIsLayout odIsSrcL anIsSrcL odIsEvent anIsEvent odIsOutput anIsOutput odIsValues anIsValues odIsList anIsList odRow anRow odStart anStart odThrow anThrow odPick anPick odLetter anLetter odLetters anLetters odWords anWords odName anName odLayout anLayout odValue anValue odSame anSame odLInt anLInt odLLet anLLet odLName anLName odLLayout anLLayout odLEvent anLEvent odLOutput anLOutput odLList anLList odCopied anCopied odOdd anOdd odSpoiled anSpoiled odGood anGood odLaw anLaw : Option Addr} {slIsInteger slIsLetter slIsLetters slIsName slIsLayout slIsSrcL slIsEvent slIsOutput slIsValues slIsList slRow slStart slThrow slPick slLetter slLetters slWords slName slLayout slValue slSame slLInt slLLet slLName slLLayout slLEvent slLOutput slLList slCopied slOdd slSpoiled slGood slLaw : Array (Option Value)}
    {vIE vMN vMS vML vMV : Int} {tIE tMN tMS tML tMV tLS : Tok} {vLS : Str}
    (aIsInteger : nsIn K mainGlobals "is_integer" = some (some (.ref uIsInteger))) (lIsInteger : K.lookup uIsInteger = some ⟨ocIsInteger, odIsInteger, .func (fnOf "is_integer" "is_integer" (defArgs sIsInteger) (defBody sIsInteger) (defScope sIsInteger) .none kVIsInteger dcIsInteger pmIsInteger anIsInteger cdIsInteger ctIsInteger), slIsInteger⟩) (qIsInteger : codeIn K cdIsInteger "is_integer" = true) (kIsInteger : keepIn K (.ref uIsInteger) = true)
    (aIsLetter : nsIn K mainGlobals "is_letter" = some (some (.ref uIsLetter))) (lIsLetter : K.lookup uIsLetter = some ⟨ocIsLetter, odIsLetter, .func (fnOf "is_letter" "is_letter" (defArgs sIsLetter) (defBody sIsLetter) (defScope sIsLetter) .none kVIsLetter dcIsLetter pmIsLetter anIsLetter cdIsLetter ctIsLetter), slIsLetter⟩) (qIsLetter : codeIn K cdIsLetter "is_letter" = true) (kIsLetter : keepIn K (.ref uIsLetter) = true)
    (aIsLetters : nsIn K mainGlobals "is_letters" = some (some (.ref uIsLetters))) (lIsLetters : K.lookup uIsLetters = some ⟨ocIsLetters, odIsLetters, .func (fnOf "is_letters" "is_letters" (defArgs sIsLetters) (defBody sIsLetters) (defScope sIsLetters) .none kVIsLetters dcIsLetters pmIsLetters anIsLetters cdIsLetters ctIsLetters), slIsLetters⟩) (qIsLetters : codeIn K cdIsLetters "is_letters" = true) (kIsLetters : keepIn K (.ref uIsLetters) = true)
    (aIsName : nsIn K mainGlobals "is_name" = some (some (.ref uIsName))) (lIsName : K.lookup uIsName = some ⟨ocIsName, odIsName, .func (fnOf "is_name" "is_name" (defArgs sIsName) (defBody sIsName) (defScope sIsName) .none kVIsName dcIsName pmIsName anIsName cdIsName ctIsName), slIsName⟩) (qIsName : codeIn K cdIsName "is_name" = true) (kIsName : keepIn K (.ref uIsName) = true)
    (aIsLayout : nsIn K mainGlobals "is_layout" = some (some (.ref uIsLayout))) (lIsLayout : K.lookup uIsLayout = some ⟨ocIsLayout, odIsLayout, .func (fnOf "is_layout" "is_layout" (defArgs sIsLayout) (defBody sIsLayout) (defScope sIsLayout) .none kVIsLayout dcIsLayout pmIsLayout anIsLayout cdIsLayout ctIsLayout), slIsLayout⟩) (qIsLayout : codeIn K cdIsLayout "is_layout" = true) (kIsLayout : keepIn K (.ref uIsLayout) = true)
    (aIsSrcL : nsIn K mainGlobals "is_source_letters" = some (some (.ref uIsSrcL))) (lIsSrcL : K.lookup uIsSrcL = some ⟨ocIsSrcL, odIsSrcL, .func (fnOf "is_source_letters" "is_source_letters" (defArgs sIsSrcL) (defBody sIsSrcL) (defScope sIsSrcL) .none kVIsSrcL dcIsSrcL pmIsSrcL anIsSrcL cdIsSrcL ctIsSrcL), slIsSrcL⟩) (qIsSrcL : codeIn K cdIsSrcL "is_source_letters" = true) (kIsSrcL : keepIn K (.ref uIsSrcL) = true)
    (aIsEvent : nsIn K mainGlobals "is_event" = some (some (.ref uIsEvent))) (lIsEvent : K.lookup uIsEvent = some ⟨ocIsEvent, odIsEvent, .func (fnOf "is_event" "is_event" (defArgs sIsEvent) (defBody sIsEvent) (defScope sIsEvent) .none kVIsEvent dcIsEvent pmIsEvent anIsEvent cdIsEvent ctIsEvent), slIsEvent⟩) (qIsEvent : codeIn K cdIsEvent "is_event" = true) (kIsEvent : keepIn K (.ref uIsEvent) = true)
    (aIsOutput : nsIn K mainGlobals "is_output" = some (some (.ref uIsOutput))) (lIsOutput : K.lookup uIsOutput = some ⟨ocIsOutput, odIsOutput, .func (fnOf "is_output" "is_output" (defArgs sIsOutput) (defBody sIsOutput) (defScope sIsOutput) .none kVIsOutput dcIsOutput pmIsOutput anIsOutput cdIsOutput ctIsOutput), slIsOutput⟩) (qIsOutput : codeIn K cdIsOutput "is_output" = true) (kIsOutput : keepIn K (.ref uIsOutput) = true)
    (aIsValues : nsIn K mainGlobals "is_values" = some (some (.ref uIsValues))) (lIsValues : K.lookup uIsValues = some ⟨ocIsValues, odIsValues, .func (fnOf "is_values" "is_values" (defArgs sIsValues) (defBody sIsValues) (defScope sIsValues) .none kVIsValues dcIsValues pmIsValues anIsValues cdIsValues ctIsValues), slIsValues⟩) (qIsValues : codeIn K cdIsValues "is_values" = true) (kIsValues : keepIn K (.ref uIsValues) = true)
    (aIsList : nsIn K mainGlobals "is_list" = some (some (.ref uIsList))) (lIsList : K.lookup uIsList = some ⟨ocIsList, odIsList, .func (fnOf "is_list" "is_list" (defArgs sIsList) (defBody sIsList) (defScope sIsList) .none kVIsList dcIsList pmIsList anIsList cdIsList ctIsList), slIsList⟩) (qIsList : codeIn K cdIsList "is_list" = true) (kIsList : keepIn K (.ref uIsList) = true)
    (aRow : nsIn K mainGlobals "is_row_of_events" = some (some (.ref uRow))) (lRow : K.lookup uRow = some ⟨ocRow, odRow, .func (fnOf "is_row_of_events" "is_row_of_events" (defArgs sRow) (defBody sRow) (defScope sRow) .none kVRow dcRow pmRow anRow cdRow ctRow), slRow⟩) (qRow : codeIn K cdRow "is_row_of_events" = true) (kRow : keepIn K (.ref uRow) = true)
    (aStart : nsIn K mainGlobals "_law_start" = some (some (.ref uStart))) (lStart : K.lookup uStart = some ⟨ocStart, odStart, .func (fnOf "_law_start" "_law_start" (defArgs sStart) (defBody sStart) (defScope sStart) .none kVStart dcStart pmStart anStart cdStart ctStart), slStart⟩) (qStart : codeIn K cdStart "_law_start" = true) (kStart : keepIn K (.ref uStart) = true)
    (aThrow : nsIn K mainGlobals "_law_throw" = some (some (.ref uThrow))) (lThrow : K.lookup uThrow = some ⟨ocThrow, odThrow, .func (fnOf "_law_throw" "_law_throw" (defArgs sThrow) (defBody sThrow) (defScope sThrow) .none kVThrow dcThrow pmThrow anThrow cdThrow ctThrow), slThrow⟩) (qThrow : codeIn K cdThrow "_law_throw" = true) (kThrow : keepIn K (.ref uThrow) = true)
    (aPick : nsIn K mainGlobals "_law_pick" = some (some (.ref uPick))) (lPick : K.lookup uPick = some ⟨ocPick, odPick, .func (fnOf "_law_pick" "_law_pick" (defArgs sPick) (defBody sPick) (defScope sPick) .none kVPick dcPick pmPick anPick cdPick ctPick), slPick⟩) (qPick : codeIn K cdPick "_law_pick" = true) (kPick : keepIn K (.ref uPick) = true)
    (aLetter : nsIn K mainGlobals "_law_letter" = some (some (.ref uLetter))) (lLetter : K.lookup uLetter = some ⟨ocLetter, odLetter, .func (fnOf "_law_letter" "_law_letter" (defArgs sLetter) (defBody sLetter) (defScope sLetter) .none kVLetter dcLetter pmLetter anLetter cdLetter ctLetter), slLetter⟩) (qLetter : codeIn K cdLetter "_law_letter" = true) (kLetter : keepIn K (.ref uLetter) = true)
    (aLetters : nsIn K mainGlobals "_law_letters" = some (some (.ref uLetters))) (lLetters : K.lookup uLetters = some ⟨ocLetters, odLetters, .func (fnOf "_law_letters" "_law_letters" (defArgs sLetters) (defBody sLetters) (defScope sLetters) .none kVLetters dcLetters pmLetters anLetters cdLetters ctLetters), slLetters⟩) (qLetters : codeIn K cdLetters "_law_letters" = true) (kLetters : keepIn K (.ref uLetters) = true)
    (aWords : nsIn K mainGlobals "_law_words" = some (some (.ref uWords))) (lWords : K.lookup uWords = some ⟨ocWords, odWords, .func (fnOf "_law_words" "_law_words" (defArgs sWords) (defBody sWords) (defScope sWords) .none kVWords dcWords pmWords anWords cdWords ctWords), slWords⟩) (qWords : codeIn K cdWords "_law_words" = true) (kWords : keepIn K (.ref uWords) = true)
    (aName : nsIn K mainGlobals "_law_name" = some (some (.ref uName))) (lName : K.lookup uName = some ⟨ocName, odName, .func (fnOf "_law_name" "_law_name" (defArgs sName) (defBody sName) (defScope sName) .none kVName dcName pmName anName cdName ctName), slName⟩) (qName : codeIn K cdName "_law_name" = true) (kName : keepIn K (.ref uName) = true)
    (aLayout : nsIn K mainGlobals "_law_layout" = some (some (.ref uLayout))) (lLayout : K.lookup uLayout = some ⟨ocLayout, odLayout, .func (fnOf "_law_layout" "_law_layout" (defArgs sLayout) (defBody sLayout) (defScope sLayout) .none kVLayout dcLayout pmLayout anLayout cdLayout ctLayout), slLayout⟩) (qLayout : codeIn K cdLayout "_law_layout" = true) (kLayout : keepIn K (.ref uLayout) = true)
    (aValue : nsIn K mainGlobals "_law_value" = some (some (.ref uValue))) (lValue : K.lookup uValue = some ⟨ocValue, odValue, .func (fnOf "_law_value" "_law_value" (defArgs sValue) (defBody sValue) (defScope sValue) .none kVValue dcValue pmValue anValue cdValue ctValue), slValue⟩) (qValue : codeIn K cdValue "_law_value" = true) (kValue : keepIn K (.ref uValue) = true)
    (aSame : nsIn K mainGlobals "_law_same" = some (some (.ref uSame))) (lSame : K.lookup uSame = some ⟨ocSame, odSame, .func (fnOf "_law_same" "_law_same" (defArgs sSame) (defBody sSame) (defScope sSame) .none kVSame dcSame pmSame anSame cdSame ctSame), slSame⟩) (qSame : codeIn K cdSame "_law_same" = true) (kSame : keepIn K (.ref uSame) = true)
    (aLInt : nsIn K mainGlobals "_law_is_integer" = some (some (.ref uLInt))) (lLInt : K.lookup uLInt = some ⟨ocLInt, odLInt, .func (fnOf "_law_is_integer" "_law_is_integer" (defArgs sLInt) (defBody sLInt) (defScope sLInt) .none kVLInt dcLInt pmLInt anLInt cdLInt ctLInt), slLInt⟩) (qLInt : codeIn K cdLInt "_law_is_integer" = true) (kLInt : keepIn K (.ref uLInt) = true)
    (aLLet : nsIn K mainGlobals "_law_is_letter" = some (some (.ref uLLet))) (lLLet : K.lookup uLLet = some ⟨ocLLet, odLLet, .func (fnOf "_law_is_letter" "_law_is_letter" (defArgs sLLet) (defBody sLLet) (defScope sLLet) .none kVLLet dcLLet pmLLet anLLet cdLLet ctLLet), slLLet⟩) (qLLet : codeIn K cdLLet "_law_is_letter" = true) (kLLet : keepIn K (.ref uLLet) = true)
    (aLName : nsIn K mainGlobals "_law_is_name" = some (some (.ref uLName))) (lLName : K.lookup uLName = some ⟨ocLName, odLName, .func (fnOf "_law_is_name" "_law_is_name" (defArgs sLName) (defBody sLName) (defScope sLName) .none kVLName dcLName pmLName anLName cdLName ctLName), slLName⟩) (qLName : codeIn K cdLName "_law_is_name" = true) (kLName : keepIn K (.ref uLName) = true)
    (aLLayout : nsIn K mainGlobals "_law_is_layout" = some (some (.ref uLLayout))) (lLLayout : K.lookup uLLayout = some ⟨ocLLayout, odLLayout, .func (fnOf "_law_is_layout" "_law_is_layout" (defArgs sLLayout) (defBody sLLayout) (defScope sLLayout) .none kVLLayout dcLLayout pmLLayout anLLayout cdLLayout ctLLayout), slLLayout⟩) (qLLayout : codeIn K cdLLayout "_law_is_layout" = true) (kLLayout : keepIn K (.ref uLLayout) = true)
    (aLEvent : nsIn K mainGlobals "_law_is_event" = some (some (.ref uLEvent))) (lLEvent : K.lookup uLEvent = some ⟨ocLEvent, odLEvent, .func (fnOf "_law_is_event" "_law_is_event" (defArgs sLEvent) (defBody sLEvent) (defScope sLEvent) .none kVLEvent dcLEvent pmLEvent anLEvent cdLEvent ctLEvent), slLEvent⟩) (qLEvent : codeIn K cdLEvent "_law_is_event" = true) (kLEvent : keepIn K (.ref uLEvent) = true)
    (aLOutput : nsIn K mainGlobals "_law_is_output" = some (some (.ref uLOutput))) (lLOutput : K.lookup uLOutput = some ⟨ocLOutput, odLOutput, .func (fnOf "_law_is_output" "_law_is_output" (defArgs sLOutput) (defBody sLOutput) (defScope sLOutput) .none kVLOutput dcLOutput pmLOutput anLOutput cdLOutput ctLOutput), slLOutput⟩) (qLOutput : codeIn K cdLOutput "_law_is_output" = true) (kLOutput : keepIn K (.ref uLOutput) = true)
    (aLList : nsIn K mainGlobals "_law_is_list" = some (some (.ref uLList))) (lLList : K.lookup uLList = some ⟨ocLList, odLList, .func (fnOf "_law_is_list" "_law_is_list" (defArgs sLList) (defBody sLList) (defScope sLList) .none kVLList dcLList pmLList anLList cdLList ctLList), slLList⟩) (qLList : codeIn K cdLList "_law_is_list" = true) (kLList : keepIn K (.ref uLList) = true)
    (aCopied : nsIn K mainGlobals "_law_copied" = some (some (.ref uCopied))) (lCopied : K.lookup uCopied = some ⟨ocCopied, odCopied, .func (fnOf "_law_copied" "_law_copied" (defArgs sCopied) (defBody sCopied) (defScope sCopied) .none kVCopied dcCopied pmCopied anCopied cdCopied ctCopied), slCopied⟩) (qCopied : codeIn K cdCopied "_law_copied" = true) (kCopied : keepIn K (.ref uCopied) = true)
    (aOdd : nsIn K mainGlobals "_law_odd" = some (some (.ref uOdd))) (lOdd : K.lookup uOdd = some ⟨ocOdd, odOdd, .func (fnOf "_law_odd" "_law_odd" (defArgs sOdd) (defBody sOdd) (defScope sOdd) .none kVOdd dcOdd pmOdd anOdd cdOdd ctOdd), slOdd⟩) (qOdd : codeIn K cdOdd "_law_odd" = true) (kOdd : keepIn K (.ref uOdd) = true)
    (aSpoiled : nsIn K mainGlobals "_law_spoiled" = some (some (.ref uSpoiled))) (lSpoiled : K.lookup uSpoiled = some ⟨ocSpoiled, odSpoiled, .func (fnOf "_law_spoiled" "_law_spoiled" (defArgs sSpoiled) (defBody sSpoiled) (defScope sSpoiled) .none kVSpoiled dcSpoiled pmSpoiled anSpoiled cdSpoiled ctSpoiled), slSpoiled⟩) (qSpoiled : codeIn K cdSpoiled "_law_spoiled" = true) (kSpoiled : keepIn K (.ref uSpoiled) = true)
    (aGood : nsIn K mainGlobals "_law_good" = some (some (.ref uGood))) (lGood : K.lookup uGood = some ⟨ocGood, odGood, .func (fnOf "_law_good" "_law_good" (defArgs sGood) (defBody sGood) (defScope sGood) .none kVGood dcGood pmGood anGood cdGood ctGood), slGood⟩) (qGood : codeIn K cdGood "_law_good" = true) (kGood : keepIn K (.ref uGood) = true)
    (aLaw : nsIn K mainGlobals "law" = some (some (.ref uLaw))) (lLaw : K.lookup uLaw = some ⟨ocLaw, odLaw, .func (fnOf "law" "law" (defArgs sLaw) (defBody sLaw) (defScope sLaw) .none kVLaw dcLaw pmLaw anLaw cdLaw ctLaw), slLaw⟩) (qLaw : codeIn K cdLaw "law" = true) (kLaw : keepIn K (.ref uLaw) = true)
    (zlen : nsIn K mainGlobals "len" = some none)
    (zint : nsIn K mainGlobals "int" = some none)
    (zbool : nsIn K mainGlobals "bool" = some none)
    (zstr : nsIn K mainGlobals "str" = some none)
    (ztuple : nsIn K mainGlobals "tuple" = some none)
    (zdict : nsIn K mainGlobals "dict" = some none)
    (zall : nsIn K mainGlobals "all" = some none)
    (zrange : nsIn K mainGlobals "range" = some none)
    (zisinstance : nsIn K mainGlobals "isinstance" = some none)
    (zabs : nsIn K mainGlobals "abs" = some none)
    (zlist : nsIn K mainGlobals "list" = some none)
    (zset : nsIn K mainGlobals "set" = some none)
    (zsorted : nsIn K mainGlobals "sorted" = some none)
    (zmax : nsIn K mainGlobals "max" = some none)
    (cIE : nsIn K mainGlobals "INTEGER_END" = some (some (.int vIE tIE))) (eIE : vIE = ten60)
    (cMN : nsIn K mainGlobals "MAX_NAME" = some (some (.int vMN tMN))) (eMN : vMN = 8)
    (cMS : nsIn K mainGlobals "MAX_SOURCES" = some (some (.int vMS tMS))) (eMS : vMS = 4)
    (cML : nsIn K mainGlobals "MAX_SOURCE_LETTERS" = some (some (.int vML tML))) (eML : vML = 4)
    (cMV : nsIn K mainGlobals "MAX_VALUES" = some (some (.int vMV tMV))) (eMV : vMV = 4)
    (aC : nsIn K mainGlobals "Tape" = some (some (.ref uC)))
    (t8 : PySem.W.findIn K (.ref uC) "__init__" = some (some (.ref uNew)))
    (t11 : PySem.W.findIn K (.ref uC) "__eq__" = some (some (.ref uTe)))
    (lNew : K.lookup uNew = some ⟨ocNew, odNew, .func (fnOf "__init__" "Tape.__init__" (defArgs cTape_init) (defBody cTape_init) (defScope cTape_init) (.ref uDf) (.ref uKw) dcNew pmNew anNew cdNew ctNew), slNew⟩)
    (qNew : codeIn K cdNew "Tape.__init__" = true)
    (kNew : keepIn K (.ref uNew) = true)
    (lDf : K.lookup uDf = some ⟨ocDf, odDf, .seq #[.ref uZ] nDf, slDf⟩)
    (lZ : K.lookup uZ = some ⟨.type "tuple", odZ, .seq #[] nZ, slZ⟩)
    (nKw : nsIn K uKw "last" = some (some .none))
    (lTe : K.lookup uTe = some ⟨ocTe, odTe, .func (fnOf "__eq__" "Tape.__eq__" (defArgs cTape_eq) (defBody cTape_eq) (defScope cTape_eq) .none kVTe dcTe pmTe anTe cdTe ctTe), slTe⟩)
    (qTe : codeIn K cdTe "Tape.__eq__" = true)
    (kTe : keepIn K (.ref uTe) = true)
    (t1 : PySem.W.plainGet K uC Str.empty = true)
    (t2 : PySem.W.hasDictIn K uC = true)
    (t3 : PySem.W.plainOver K uC = true)
    (t4 : PySem.W.findIn K (.ref uC) "__setattr__" = some (some (.builtin "object.__setattr__")))
    (t5 : PySem.W.findIn K (.ref uC) "_events" = some none)
    (t6 : PySem.W.findIn K (.ref uC) "_last" = some none)
    (t7 : PySem.W.makesIn K uC = true)
    (t9 : PySem.W.isFn K (.ref uNew) = true)
    (t10 : keepIn K (.ref uC) = true)
    (t12 : PySem.W.isFn K (.ref uTe) = true)
    (t13 : PySem.W.findIn K (.ref uC) "__class__" = some (some (.builtin "object.__class__")))
    (t14 : PySem.W.specialIn K (.builtin "object.__class__") "__get__" = some (some (.builtin "getset_descriptor.__get__")))
    (t15 : PySem.W.takesIn K (.builtin "object.__class__") = some true)
    (t16 : PySem.W.mroIn K uC (.type "object") = some true)
    (t17 : tapOk K uC = true)
    (cLS : nsIn K mainGlobals "LETTERS" = some (some (.str vLS tLS))) (eLS : vLS = Str.ofString "abcdefghijklmnopqrstuvwxyz")
    (cA : nsIn K mainGlobals "ARGUMENTS" = some (some (.ref dA))) (eA : He.dicW K dA = some (He.keysIn w.params keys25)) :
    ∃ fd : FuncData, (∀ (s : Shared) (v : Value), BindsTo s fd ⟨[v], []⟩ [("script", v)]) ∧ ∀ base : Heap, K.In base → base.Ns mainGlobals mg → FnOk l.prog w K mg base CX0 16 fa fd ["script"] (spLaw K) := by
  have e := hfa.symm.trans (PySem.W.mg_of KX G aLaw)
  cases e
  have FIsInteger := fun_mk (st := sIsInteger) lIsInteger qIsInteger kIsInteger
  have bIsInteger := FIsInteger.binds (ps := ["value"]) fun _ _ _ _ _ _ us hl => match us, hl with | [_], _ => rfl
  have FIsLetter := fun_mk (st := sIsLetter) lIsLetter qIsLetter kIsLetter
  have bIsLetter := FIsLetter.binds (ps := ["value"]) fun _ _ _ _ _ _ us hl => match us, hl with | [_], _ => rfl
  have FIsLetters := fun_mk (st := sIsLetters) lIsLetters qIsLetters kIsLetters
  have bIsLetters := FIsLetters.binds (ps := ["value"]) fun _ _ _ _ _ _ us hl => match us, hl with | [_], _ => rfl
  have FIsName := fun_mk (st := sIsName) lIsName qIsName kIsName
  have bIsName := FIsName.binds (ps := ["value"]) fun _ _ _ _ _ _ us hl => match us, hl with | [_], _ => rfl
  have FIsLayout := fun_mk (st := sIsLayout) lIsLayout qIsLayout kIsLayout
  have bIsLayout := FIsLayout.binds (ps := ["value"]) fun _ _ _ _ _ _ us hl => match us, hl with | [_], _ => rfl
  have FIsSrcL := fun_mk (st := sIsSrcL) lIsSrcL qIsSrcL kIsSrcL
  have bIsSrcL := FIsSrcL.binds (ps := ["value"]) fun _ _ _ _ _ _ us hl => match us, hl with | [_], _ => rfl
  have FIsEvent := fun_mk (st := sIsEvent) lIsEvent qIsEvent kIsEvent
  have bIsEvent := FIsEvent.binds (ps := ["value"]) fun _ _ _ _ _ _ us hl => match us, hl with | [_], _ => rfl
  have FIsOutput := fun_mk (st := sIsOutput) lIsOutput qIsOutput kIsOutput
  have bIsOutput := FIsOutput.binds (ps := ["value"]) fun _ _ _ _ _ _ us hl => match us, hl with | [_], _ => rfl
  have FIsValues := fun_mk (st := sIsValues) lIsValues qIsValues kIsValues
  have bIsValues := FIsValues.binds (ps := ["value"]) fun _ _ _ _ _ _ us hl => match us, hl with | [_], _ => rfl
  have FIsList := fun_mk (st := sIsList) lIsList qIsList kIsList
  have bIsList := FIsList.binds (ps := ["value"]) fun _ _ _ _ _ _ us hl => match us, hl with | [_], _ => rfl
  have FRow := fun_mk (st := sRow) lRow qRow kRow
  have bRow := FRow.binds (ps := ["value"]) fun _ _ _ _ _ _ us hl => match us, hl with | [_], _ => rfl
  have FStart := fun_mk (st := sStart) lStart qStart kStart
  have bStart := FStart.binds (ps := ["script", "at"]) fun _ _ _ _ _ _ us hl => match us, hl with | [_, _], _ => rfl
  have FThrow := fun_mk (st := sThrow) lThrow qThrow kThrow
  have bThrow := FThrow.binds (ps := ["bag", "total"]) fun _ _ _ _ _ _ us hl => match us, hl with | [_, _], _ => rfl
  have FPick := fun_mk (st := sPick) lPick qPick kPick
  have bPick := FPick.binds (ps := ["bag", "items"]) fun _ _ _ _ _ _ us hl => match us, hl with | [_, _], _ => rfl
  have FLetter := fun_mk (st := sLetter) lLetter qLetter kLetter
  have bLetter := FLetter.binds (ps := ["bag"]) fun _ _ _ _ _ _ us hl => match us, hl with | [_], _ => rfl
  have FLetters := fun_mk (st := sLetters) lLetters qLetters kLetters
  have bLetters := FLetters.binds (ps := ["bag", "most"]) fun _ _ _ _ _ _ us hl => match us, hl with | [_, _], _ => rfl
  have FWords := fun_mk (st := sWords) lWords qWords kWords
  have bWords := FWords.binds (ps := []) fun _ _ _ _ _ _ us hl => match us, hl with | [], _ => rfl
  have FName := fun_mk (st := sName) lName qName kName
  have bName := FName.binds (ps := ["bag", "known"]) fun _ _ _ _ _ _ us hl => match us, hl with | [_, _], _ => rfl
  have FLayout := fun_mk (st := sLayout) lLayout qLayout kLayout
  have bLayout := FLayout.binds (ps := ["bag", "sources", "letters"]) fun _ _ _ _ _ _ us hl => match us, hl with | [_, _, _], _ => rfl
  have FValue := fun_mk (st := sValue) lValue qValue kValue
  have bValue := FValue.binds (ps := ["bag"]) fun _ _ _ _ _ _ us hl => match us, hl with | [_], _ => rfl
  have FSame := fun_mk (st := sSame) lSame qSame kSame
  have bSame := FSame.binds (ps := ["one", "other"]) fun _ _ _ _ _ _ us hl => match us, hl with | [_, _], _ => rfl
  have FLInt := fun_mk (st := sLInt) lLInt qLInt kLInt
  have bLInt := FLInt.binds (ps := ["value"]) fun _ _ _ _ _ _ us hl => match us, hl with | [_], _ => rfl
  have FLLet := fun_mk (st := sLLet) lLLet qLLet kLLet
  have bLLet := FLLet.binds (ps := ["value"]) fun _ _ _ _ _ _ us hl => match us, hl with | [_], _ => rfl
  have FLName := fun_mk (st := sLName) lLName qLName kLName
  have bLName := FLName.binds (ps := ["value"]) fun _ _ _ _ _ _ us hl => match us, hl with | [_], _ => rfl
  have FLLayout := fun_mk (st := sLLayout) lLLayout qLLayout kLLayout
  have bLLayout := FLLayout.binds (ps := ["value"]) fun _ _ _ _ _ _ us hl => match us, hl with | [_], _ => rfl
  have FLEvent := fun_mk (st := sLEvent) lLEvent qLEvent kLEvent
  have bLEvent := FLEvent.binds (ps := ["value"]) fun _ _ _ _ _ _ us hl => match us, hl with | [_], _ => rfl
  have FLOutput := fun_mk (st := sLOutput) lLOutput qLOutput kLOutput
  have bLOutput := FLOutput.binds (ps := ["value"]) fun _ _ _ _ _ _ us hl => match us, hl with | [_], _ => rfl
  have FLList := fun_mk (st := sLList) lLList qLList kLList
  have bLList := FLList.binds (ps := ["value"]) fun _ _ _ _ _ _ us hl => match us, hl with | [_], _ => rfl
  have FCopied := fun_mk (st := sCopied) lCopied qCopied kCopied
  have bCopied := FCopied.binds (ps := ["value"]) fun _ _ _ _ _ _ us hl => match us, hl with | [_], _ => rfl
  have FOdd := fun_mk (st := sOdd) lOdd qOdd kOdd
  have bOdd := FOdd.binds (ps := ["bag"]) fun _ _ _ _ _ _ us hl => match us, hl with | [_], _ => rfl
  have FSpoiled := fun_mk (st := sSpoiled) lSpoiled qSpoiled kSpoiled
  have bSpoiled := FSpoiled.binds (ps := ["bag", "value"]) fun _ _ _ _ _ _ us hl => match us, hl with | [_, _], _ => rfl
  have FGood := fun_mk (st := sGood) lGood qGood kGood
  have bGood := FGood.binds (ps := ["bag", "way"]) fun _ _ _ _ _ _ us hl => match us, hl with | [_, _], _ => rfl
  have FLaw := fun_mk (st := sLaw) lLaw qLaw kLaw
  have X : WTxt mg uIsInteger uIsLetter := {
    len := (PySem.W.mg_none_of KX G zlen), isin := (PySem.W.mg_none_of KX G zisinstance), int := (PySem.W.mg_none_of KX G zint), bool := (PySem.W.mg_none_of KX G zbool), str := (PySem.W.mg_none_of KX G zstr), tup := (PySem.W.mg_none_of KX G ztuple), dict := (PySem.W.mg_none_of KX G zdict), all := (PySem.W.mg_none_of KX G zall), range := (PySem.W.mg_none_of KX G zrange),
    ie := ⟨_, (PySem.W.mg_of KX G cIE), tIE, by rw [eIE]⟩, ls := ⟨_, (PySem.W.mg_of KX G cLS), tLS, by rw [eLS]⟩, mn := ⟨_, (PySem.W.mg_of KX G cMN), tMN, by rw [eMN]⟩, ms := ⟨_, (PySem.W.mg_of KX G cMS), tMS, by rw [eMS]⟩, ml := ⟨_, (PySem.W.mg_of KX G cML), tML, by rw [eML]⟩, mv := ⟨_, (PySem.W.mg_of KX G cMV), tMV, by rw [eMV]⟩, fi := (PySem.W.mg_of KX G aIsInteger), fl := (PySem.W.mg_of KX G aIsLetter) }
  have Y : LTxt mg uWords uLInt uLLet uLName uLOutput := { abs := (PySem.W.mg_none_of KX G zabs), wrds := (PySem.W.mg_of KX G aWords), li := (PySem.W.mg_of KX G aLInt), ll := (PySem.W.mg_of KX G aLLet), ln := (PySem.W.mg_of KX G aLName), lo := (PySem.W.mg_of KX G aLOutput) }
  have GX : GTxt mg uThrow uPick := { len := (PySem.W.mg_none_of KX G zlen), int := (PySem.W.mg_none_of KX G zint), abs := (PySem.W.mg_none_of KX G zabs), max := (PySem.W.mg_none_of KX G zmax), thr := (PySem.W.mg_of KX G aThrow), pick := (PySem.W.mg_of KX G aPick), range := (PySem.W.mg_none_of KX G zrange), sorted := (PySem.W.mg_none_of KX G zsorted), list := (PySem.W.mg_none_of KX G zlist), tuple := (PySem.W.mg_none_of KX G ztuple) }
  have GY : GoTxt mg uOdd uWords uLetter uName uLayout uValue := ⟨(PySem.W.mg_of KX G aOdd), (PySem.W.mg_of KX G aWords), (PySem.W.mg_of KX G aLetter), (PySem.W.mg_of KX G aName), (PySem.W.mg_of KX G aLayout), (PySem.W.mg_of KX G aValue)⟩
  obtain ⟨es, nA, Z⟩ := atxt_of (K := K) (w := w) (mg := mg) (d := dA) ⟨_, (PySem.W.mg_of KX G cA), rfl⟩ eA keys25_mem
  have TY : TpTxt K mg uC uNew uTe := ⟨⟨t1, t2, t3, t4⟩, t5, t6, ⟨t7, t8, t9, t10⟩, (PySem.W.mg_of KX G aC), t11, t12, t13, t14, t15, t16, (tapOk_iff t17).1, (tapOk_iff t17).2.1, (tapOk_iff t17).2.2.1, (tapOk_iff t17).2.2.2.1, (tapOk_iff t17).2.2.2.2⟩
  have O : Own K (TapeOf K uC) := own_tape TY
  have FTe := fun_mk (st := cTape_eq) lTe qTe kTe
  have bTe := FTe.binds (ps := ["self", "other"]) fun _ _ _ _ _ _ us hl => match us, hl with | [_, _], _ => rfl
  have FNew : FunD K "__init__" "Tape.__init__" (defArgs cTape_init) (defBody cTape_init) (defScope cTape_init) [.ref uZ] [("last", .non)] uNew _ := ⟨⟨_, _, _, _, _, _, _, _, _, _, rfl, lNew, qNew, .inr ⟨fun z => (nomatch z), uDf, _, [.ref uZ], nDf, rfl, lDf, rfl, .cons rfl .nil⟩, .inr ⟨uKw, rfl, fun q hq => by
    obtain rfl := List.mem_singleton.mp hq
    exact ⟨.none, nKw, rfl⟩⟩⟩, kNew⟩
  obtain ⟨ds0, v0, b0⟩ := FNew.binds (ps := ["self", "events", "last"]) 1 0 (fun z => nomatch z) rfl (fun T D doc pm an cdv ct us its ks h1 h2 h3 => match us, h1, its, h2, ks, h3 with | [_], _, [_], _, [_], _ => ⟨_, rfl, _, _, _, _, _, _, rfl, rfl, rfl⟩) (fun z => nomatch z)
  obtain ⟨ds1, v1, b1⟩ := FNew.binds (ps := ["self", "events", "last"]) 2 1 (fun z => nomatch z) rfl (fun T D doc pm an cdv ct us its ks h1 h2 h3 => match us, h1, its, h2, ks, h3 with | [_, _], _, [_], _, [_], _ => ⟨_, rfl, _, _, _, _, _, _, rfl, rfl, rfl⟩) (fun z => nomatch z)
  have hZ : ∀ H, Isi K H (.ref uZ) "tuple" true ∧ SqT K H uZ [] := fun H => ⟨isi_ty (.kTuple lZ rfl) (by decide), .inr ⟨_, #[], nZ, lZ, rfl, rfl, Nat.zero_le _, .nil⟩⟩
  refine ⟨fnOf "law" "law" (defArgs sLaw) (defBody sLaw) (defScope sLaw) .none kVLaw dcLaw pmLaw anLaw cdLaw ctLaw, fun s v => .of_eq rfl, fun base _ _ => ?_⟩
  have GTe : FnOk l.prog w K mg base CX0 2 uTe _ ["self", "other"] (spTEq K uC) := ok_teq FTe TY (PySem.W.mg_none_of KX G zisinstance)
  have hE : ∀ X : Cx, X.prog = l.prog → X.w = w → X.K = K → X.mg = mg → X.base = base → Room 3 X.A → OpR X (compareOp .Eq) (rEqT (TapeOf K uC)) := fun X e1 e2 e3 e4 e5 hr => op_eqT (Nat.lt_of_le_of_lt (Nat.le_add_right _ _) hr.units) (op_eqOS TY GTe bTe e1 e2 e3 e4 e5 (hr.mono (by decide)))
  have hO : ∀ X : Cx, X.prog = l.prog → X.w = w → X.K = K → X.mg = mg → X.base = base → Room 2 X.A → OpR X (compareOp .Eq) (rEqO (TapeOf K uC)) := fun X e1 e2 e3 e4 e5 hr => op_eqO TY GTe bTe e1 e2 e3 e4 e5 hr
  have GEv : FnOk l.prog w K mg base CX0 3 uIsEvent _ ["value"] (spIs (TapeOf K uC) IsEvent) := ok_is_event O FIsEvent X Z (PySem.W.mg_of KX G aIsName) FIsLetter bIsLetter FIsInteger bIsInteger FIsName bIsName
  have GRow : FnOk l.prog w K mg base CX0 4 uRow _ ["value"] (spRow K (TapeOf K uC)) := ok_row O FRow X (PySem.W.mg_of KX G aIsEvent) kIsEvent bIsEvent GEv
  have GNew : FnOk l.prog w K mg base CX0 5 uNew _ ["self", "events", "last"] (spNew K (TapeOf K uC) uC) := ok_new O FNew TY X (PySem.W.mg_of KX G aRow) kRow bRow GRow FIsInteger bIsInteger
  have GO : FnOk l.prog w K mg base CX0 7 uOdd _ ["bag"] (spOdd (TapeOf K uC)) := ok_odd FOdd GX TY FThrow bThrow FPick bPick GNew v0 b0 v1 b1 hZ
  have GLe : FnOk l.prog w K mg base CX0 3 uLetter _ ["bag"] spLetter := ok_letter FLetter GX FThrow bThrow FPick bPick
  have GN : FnOk l.prog w K mg base CX0 3 uName _ ["bag", "known"] spName := ok_name FName GX (PySem.W.mg_of KX G aWords) FThrow bThrow FPick bPick FWords bWords
  have GLa : FnOk l.prog w K mg base CX0 4 uLayout _ ["bag", "sources", "letters"] spLayout := ok_layout FLayout GX (PySem.W.mg_of KX G aWords) (PySem.W.mg_of KX G aName) (PySem.W.mg_of KX G aLetters) FThrow bThrow FPick bPick FWords bWords FName bName FLetters bLetters
  have GV : FnOk l.prog w K mg base CX0 2 uValue _ ["bag"] spValue := ok_value FValue GX.toTxtA FThrow bThrow
  exact ok_law (lo := 7) O FLaw X (PySem.W.mg_none_of KX G zmax)
    ⟨(PySem.W.mg_of KX G aThrow), kThrow, bThrow, ok_throw FThrow GX.toTxtA⟩
    ⟨(PySem.W.mg_of KX G aStart), kStart, bStart, ok_start FStart GX.toTxtA⟩
    ⟨(PySem.W.mg_of KX G aGood), kGood, bGood, ok_good FGood GX GY FThrow bThrow FPick bPick FWords bWords kLetter bLetter GLe kName bName GN kLayout bLayout GLa kValue bValue GV kOdd bOdd GO (by decide)⟩
    ⟨(PySem.W.mg_of KX G aSpoiled), kSpoiled, bSpoiled, fn_many fun n hn => (ok_spoiled O FSpoiled bSpoiled GX (PySem.W.mg_none_of KX G zisinstance) (PySem.W.mg_none_of KX G zstr) (PySem.W.mg_none_of KX G zdict) (PySem.W.mg_of KX G aSpoiled) (PySem.W.mg_of KX G aOdd) FThrow bThrow FPick bPick kOdd bOdd GO (by decide) n).mono (by omega)⟩
    ⟨(PySem.W.mg_of KX G aLLet), kLLet, bLLet, ok_llet O FLLet X⟩
    ⟨(PySem.W.mg_of KX G aLName), kLName, bLName, ok_lname O FLName X Y FLLet bLLet FWords bWords⟩
    ⟨(PySem.W.mg_of KX G aLLayout), kLLayout, bLLayout, ok_llayout O FLLayout X Y (PySem.W.mg_none_of KX G zlist) (PySem.W.mg_none_of KX G zset) (PySem.W.mg_none_of KX G zsorted) FLLet bLLet FLName bLName FWords bWords⟩
    ⟨(PySem.W.mg_of KX G aLEvent), kLEvent, bLEvent, ok_levent O FLEvent X Y FLLet bLLet FLInt bLInt FLName bLName FWords bWords⟩
    ⟨(PySem.W.mg_of KX G aLOutput), kLOutput, bLOutput, ok_loutput O FLOutput X Y FLLet bLLet FLInt bLInt⟩
    ⟨(PySem.W.mg_of KX G aLList), kLList, bLList, ok_llist O FLList X Y FLLet bLLet FLInt bLInt FLOutput bLOutput⟩
    ⟨(PySem.W.mg_of KX G aIsLetter), kIsLetter, bIsLetter, ok_is_letter O FIsLetter X⟩
    ⟨(PySem.W.mg_of KX G aIsName), kIsName, bIsName, ok_is_name O FIsName X Z FIsLetter bIsLetter⟩
    ⟨(PySem.W.mg_of KX G aIsLayout), kIsLayout, bIsLayout, ok_is_layout O FIsLayout X Z (PySem.W.mg_of KX G aIsLetters) (PySem.W.mg_of KX G aIsName) (PySem.W.mg_of KX G aIsSrcL) FIsLetter bIsLetter FIsLetters bIsLetters FIsName bIsName FIsSrcL bIsSrcL⟩
    ⟨(PySem.W.mg_of KX G aIsEvent), kIsEvent, bIsEvent, ok_is_event O FIsEvent X Z (PySem.W.mg_of KX G aIsName) FIsLetter bIsLetter FIsInteger bIsInteger FIsName bIsName⟩
    ⟨(PySem.W.mg_of KX G aIsOutput), kIsOutput, bIsOutput, ok_is_output O FIsOutput X (PySem.W.mg_of KX G aIsValues) FIsLetter bIsLetter FIsInteger bIsInteger FIsValues bIsValues⟩
    ⟨(PySem.W.mg_of KX G aIsList), kIsList, bIsList, ok_is_list O FIsList X (PySem.W.mg_of KX G aIsValues) (PySem.W.mg_of KX G aIsOutput) FIsLetter bIsLetter FIsInteger bIsInteger FIsValues bIsValues FIsOutput bIsOutput hE⟩
    ⟨(PySem.W.mg_of KX G aCopied), kCopied, bCopied, ok_copied O FCopied X (PySem.W.mg_none_of KX G zlist) (PySem.W.mg_of KX G aCopied) bCopied 10⟩
    ⟨(PySem.W.mg_of KX G aSame), kSame, bSame, ok_same O FSame X (PySem.W.mg_none_of KX G zlist) (PySem.W.mg_none_of KX G zsorted) (PySem.W.mg_of KX G aSame) bSame hO 10⟩ (by decide)
theorem walk {l : PySem.W.OpenLaw} {q : Program} {loose : List Str} {XP : (Str → Option Value) → Heap → Prop} {YP : World → Heap → Prop} {d : DefRec} {K : Params → PySem.W.Frag} (hn : l.most = some 63) (hdf : d.params.defaults = [])
    (hY : ∀ (w : World) (h : Heap), YP w h → (K w.params).In h)
    (F : ∀ (w : World) (mg : Str → Option Value) (fa : Addr) (h : Heap), (K w.params).In h → h.Ns mainGlobals mg → mg d.name = some (.ref fa) →
      ∃ fd : FuncData, (∀ (s : Shared) (u : Value), BindsTo s fd ⟨[u], []⟩ [("script", u)]) ∧ ∀ base : Heap, (K w.params).In base → base.Ns mainGlobals mg → FnOk l.prog w (K w.params) mg base CX0 16 fa fd ["script"] (spLaw (K w.params))) :
    PySem.W.WalkO q loose XP YP l.row.toRowW d [] (fun f vs => PySem.call f vs) :=
  L2.walk_of (n := 63) (k := 16) (x := "script") (CX := fun _ => CX0) (sp := fun w => spLaw (K w.params)) hn (by decide) hdf ⟨rfl, by decide, by decide⟩ hY F (fun _ _ a ns hl _ hS => ⟨a, ns, rfl, hS, hl, fun _ => rfl⟩) fun _ _ _ _ _ z => z
end Wd

set_option Elab.async false
set_option linter.all false
set_option pp.maxSteps 300
set_option pp.deepTerms false
open PySem PySem.W PyProof.Rows in
set_option maxRecDepth 100000 in
set_option maxHeartbeats 0 in
theorem PySem.Challenge.cw_pushalike_k01_words_holds : PySem.Challenge.rw_pushalike_k01_words.Holds := by
  w_on; o_law; k_head; (case hw => w_witness2)
  k_fill
  refine Wd.walk (l := PySem.Challenge.rw_pushalike_k01_words) rfl rfl (fun w h Y => PySem.W.kIn_of Y) ?F
  case F =>
    intro w mg fa h KX G hmg
    refine' Wd.all_mk KX G hmg ?aIsInteger ?lIsInteger ?qIsInteger ?kIsInteger ?aIsLetter ?lIsLetter ?qIsLetter ?kIsLetter ?aIsLetters ?lIsLetters ?qIsLetters ?kIsLetters ?aIsName ?lIsName ?qIsName ?kIsName ?aIsLayout ?lIsLayout ?qIsLayout ?kIsLayout ?aIsSrcL ?lIsSrcL ?qIsSrcL ?kIsSrcL ?aIsEvent ?lIsEvent ?qIsEvent ?kIsEvent ?aIsOutput ?lIsOutput ?qIsOutput ?kIsOutput ?aIsValues ?lIsValues ?qIsValues ?kIsValues ?aIsList ?lIsList ?qIsList ?kIsList ?aRow ?lRow ?qRow ?kRow ?aStart ?lStart ?qStart ?kStart ?aThrow ?lThrow ?qThrow ?kThrow ?aPick ?lPick ?qPick ?kPick ?aLetter ?lLetter ?qLetter ?kLetter ?aLetters ?lLetters ?qLetters ?kLetters ?aWords ?lWords ?qWords ?kWords ?aName ?lName ?qName ?kName ?aLayout ?lLayout ?qLayout ?kLayout ?aValue ?lValue ?qValue ?kValue ?aSame ?lSame ?qSame ?kSame ?aLInt ?lLInt ?qLInt ?kLInt ?aLLet ?lLLet ?qLLet ?kLLet ?aLName ?lLName ?qLName ?kLName ?aLLayout ?lLLayout ?qLLayout ?kLLayout ?aLEvent ?lLEvent ?qLEvent ?kLEvent ?aLOutput ?lLOutput ?qLOutput ?kLOutput ?aLList ?lLList ?qLList ?kLList ?aCopied ?lCopied ?qCopied ?kCopied ?aOdd ?lOdd ?qOdd ?kOdd ?aSpoiled ?lSpoiled ?qSpoiled ?kSpoiled ?aGood ?lGood ?qGood ?kGood ?aLaw ?lLaw ?qLaw ?kLaw ?zlen ?zint ?zbool ?zstr ?ztuple ?zdict ?zall ?zrange ?zisinstance ?zabs ?zlist ?zset ?zsorted ?zmax ?cIE ?eIE ?cMN ?eMN ?cMS ?eMS ?cML ?eML ?cMV ?eMV ?aC ?t8 ?t11 ?lNew ?qNew ?kNew ?lDf ?lZ ?nKw ?lTe ?qTe ?kTe ?t1 ?t2 ?t3 ?t4 ?t5 ?t6 ?t7 ?t9 ?t10 ?t12 ?t13 ?t14 ?t15 ?t16 ?t17 ?cLS ?eLS ?cA ?eA
    (case aIsInteger => k_is)
    (case lIsInteger => k_is)
    (case qIsInteger => k_is)
    (case kIsInteger => k_is)
    (case aIsLetter => k_is)
    (case lIsLetter => k_is)
    (case qIsLetter => k_is)
    (case kIsLetter => k_is)
    (case aIsLetters => k_is)
    (case lIsLetters => k_is)
    (case qIsLetters => k_is)
    (case kIsLetters => k_is)
    (case aIsName => k_is)
    (case lIsName => k_is)
    (case qIsName => k_is)
    (case kIsName => k_is)
    (case aIsLayout => k_is)
    (case lIsLayout => k_is)
    (case qIsLayout => k_is)
    (case kIsLayout => k_is)
    (case aIsSrcL => k_is)
    (case lIsSrcL => k_is)
    (case qIsSrcL => k_is)
    (case kIsSrcL => k_is)
    (case aIsEvent => k_is)
    (case lIsEvent => k_is)
    (case qIsEvent => k_is)
    (case kIsEvent => k_is)
    (case aIsOutput => k_is)
    (case lIsOutput => k_is)
    (case qIsOutput => k_is)
    (case kIsOutput => k_is)
    (case aIsValues => k_is)
    (case lIsValues => k_is)
    (case qIsValues => k_is)
    (case kIsValues => k_is)
    (case aIsList => k_is)
    (case lIsList => k_is)
    (case qIsList => k_is)
    (case kIsList => k_is)
    (case aRow => k_is)
    (case lRow => k_is)
    (case qRow => k_is)
    (case kRow => k_is)
    (case aStart => k_is)
    (case lStart => k_is)
    (case qStart => k_is)
    (case kStart => k_is)
    (case aThrow => k_is)
    (case lThrow => k_is)
    (case qThrow => k_is)
    (case kThrow => k_is)
    (case aPick => k_is)
    (case lPick => k_is)
    (case qPick => k_is)
    (case kPick => k_is)
    (case aLetter => k_is)
    (case lLetter => k_is)
    (case qLetter => k_is)
    (case kLetter => k_is)
    (case aLetters => k_is)
    (case lLetters => k_is)
    (case qLetters => k_is)
    (case kLetters => k_is)
    (case aWords => k_is)
    (case lWords => k_is)
    (case qWords => k_is)
    (case kWords => k_is)
    (case aName => k_is)
    (case lName => k_is)
    (case qName => k_is)
    (case kName => k_is)
    (case aLayout => k_is)
    (case lLayout => k_is)
    (case qLayout => k_is)
    (case kLayout => k_is)
    (case aValue => k_is)
    (case lValue => k_is)
    (case qValue => k_is)
    (case kValue => k_is)
    (case aSame => k_is)
    (case lSame => k_is)
    (case qSame => k_is)
    (case kSame => k_is)
    (case aLInt => k_is)
    (case lLInt => k_is)
    (case qLInt => k_is)
    (case kLInt => k_is)
    (case aLLet => k_is)
    (case lLLet => k_is)
    (case qLLet => k_is)
    (case kLLet => k_is)
    (case aLName => k_is)
    (case lLName => k_is)
    (case qLName => k_is)
    (case kLName => k_is)
    (case aLLayout => k_is)
    (case lLLayout => k_is)
    (case qLLayout => k_is)
    (case kLLayout => k_is)
    (case aLEvent => k_is)
    (case lLEvent => k_is)
    (case qLEvent => k_is)
    (case kLEvent => k_is)
    (case aLOutput => k_is)
    (case lLOutput => k_is)
    (case qLOutput => k_is)
    (case kLOutput => k_is)
    (case aLList => k_is)
    (case lLList => k_is)
    (case qLList => k_is)
    (case kLList => k_is)
    (case aCopied => k_is)
    (case lCopied => k_is)
    (case qCopied => k_is)
    (case kCopied => k_is)
    (case aOdd => k_is)
    (case lOdd => k_is)
    (case qOdd => k_is)
    (case kOdd => k_is)
    (case aSpoiled => k_is)
    (case lSpoiled => k_is)
    (case qSpoiled => k_is)
    (case kSpoiled => k_is)
    (case aGood => k_is)
    (case lGood => k_is)
    (case qGood => k_is)
    (case kGood => k_is)
    (case aLaw => k_is)
    (case lLaw => k_is)
    (case qLaw => k_is)
    (case kLaw => k_is)
    (case zlen => k_is)
    (case zint => k_is)
    (case zbool => k_is)
    (case zstr => k_is)
    (case ztuple => k_is)
    (case zdict => k_is)
    (case zall => k_is)
    (case zrange => k_is)
    (case zisinstance => k_is)
    (case zabs => k_is)
    (case zlist => k_is)
    (case zset => k_is)
    (case zsorted => k_is)
    (case zmax => k_is)
    (case cIE => k_is)
    (case eIE => first | rfl | decide +kernel)
    (case cMN => k_is)
    (case eMN => first | rfl | decide +kernel)
    (case cMS => k_is)
    (case eMS => first | rfl | decide +kernel)
    (case cML => k_is)
    (case eML => first | rfl | decide +kernel)
    (case cMV => k_is)
    (case eMV => first | rfl | decide +kernel)
    (case aC => k_is)
    (case t8 => k_is)
    (case t11 => k_is)
    (case lNew => k_is)
    (case qNew => k_is)
    (case kNew => k_is)
    (case lDf => k_is)
    (case lZ => k_is)
    (case nKw => k_is)
    (case lTe => k_is)
    (case qTe => k_is)
    (case kTe => k_is)
    (case t1 => k_is)
    (case t2 => k_is)
    (case t3 => k_is)
    (case t4 => k_is)
    (case t5 => k_is)
    (case t6 => k_is)
    (case t7 => k_is)
    (case t9 => k_is)
    (case t10 => k_is)
    (case t12 => k_is)
    (case t13 => k_is)
    (case t14 => k_is)
    (case t15 => k_is)
    (case t16 => k_is)
    (case t17 => kernel_rfl)
    (case cLS => k_is)
    (case eLS => first | rfl | decide +kernel)
    (case cA => k_is)
    (case eA => first | rfl | kernel_rfl | k_is)
