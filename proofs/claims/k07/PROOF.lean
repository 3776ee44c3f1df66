import PyProof.Rows.All
import Wide.All
import OpenK.AllK
import Wide.FinOn
import HandS.ForMost
import HandS.IsInst
import HandS.Zip
import HandS.SetKeys
import HandS.Walk
import HandS.Wide
import KE.KDictWalk
import HandS.SortRule
import KE.KSortTupAny
import PyProof.DictMoreH
import HandS.GenList
import HandS.EndTab
import KE.KNestM
import PyProof.Rows.MatchSeqLen
import HandS.More
import HandS.TupAny
import HandS.TupLe
import KE.GoesMore
import HandS.Deep
import HandS.Star
import HandS.DictComp
import KE.DataFind
import HandS.DictTup
import KE.KDictKeyed
import KE.KDictItemsList
import HandS.Rev
import PySem.Challenge.RW_farbooks_k07_whole_cut_and_joined
set_option Elab.async false
set_option linter.all false
set_option maxRecDepth 100000
set_option maxHeartbeats 4000000
set_option synthInstance.maxSize 100000
set_option synthInstance.maxHeartbeats 0
namespace FB
open PySem PySem.Spec PyProof.Rows L2
def DefOk (P : Program) (w : World) (K : PySem.W.Frag) (mg : Str → Option Value) (base : Heap) (k : Nat) (x : Str) (ps : List Str) (sp : Sp) : Prop :=
  ∃ f fd, FnOk P w K mg base CX0 k f fd ps sp ∧ mg x = some (.ref f) ∧ PySem.W.keepIn K (.ref f) = true ∧ L2.Binds K fd ps []
theorem pe_def {X : Cx} {k : Nat} {x : Str} {ps : List Str} {sp : Sp} {e : Expr} {es : List Expr} {t : TA} {p pos : Pos} (D : DefOk X.prog X.w X.K X.mg X.base k x ps sp) (hr : Room k X.A) (hg : Gl X x) (ha : PA X (e :: es) t)
    (hd : (x == ("__debug__" : Str)) = false := by decide) (hs : starEach (e :: es) X.env = (false, eval e X.env) :: starEach es X.env := by rfl) (hpl : (backTo pos (starEach es X.env)).any (·.1) = false := by rfl) :
    PE X (.Call (.Name x p) (e :: es) [] pos) (tCall sp [] E0 t) := by
  obtain ⟨f, fd, F, hm, hk, hb⟩ := D
  exact pe_call F hr hg hm hk hb .nil pass0 ha hd hs hpl
/-- where a def of the text stands -/
def DefAt (K : PySem.W.Frag) (mg : Str → Option Value) (x : Str) (st : Stmt) (ps : List Str) : Prop :=
  ∃ f fd, Fun K x x st f fd ∧ mg x = some (.ref f) ∧ L2.Binds K fd ps []
theorem DefAt.ok {P : Program} {w : World} {K : PySem.W.Frag} {mg : Str → Option Value} {base : Heap} {k : Nat} {x : Str} {st : Stmt} {ps : List Str} {sp : Sp} (A : DefAt K mg x st ps)
    (h : ∀ f fd, Fun K x x st f fd → FnOk P w K mg base CX0 k f fd ps sp) : DefOk P w K mg base k x ps sp := by
  obtain ⟨f, fd, F, hm, hb⟩ := A
  exact ⟨f, fd, h f fd F, hm, F.kp, hb⟩
/-- all but what stands at d stays -/
def Keep (d : Addr) (H H' : Hp) : Prop := ∀ b o, H b = some o → b ≠ d → H' b = some o
theorem Keep.refl (d : Addr) (H : Hp) : Keep d H H := fun _ _ h _ => h
theorem Keep.trans {d : Addr} {H H1 H2 : Hp} (a : Keep d H H1) (b : Keep d H1 H2) : Keep d H H2 := fun c o h n => b c o (a c o h n) n
theorem same_new {H : Hp} {p : Addr} {o : HO} (h : H p = none) : Same H (upd H p o) := fun b x e => by
  rw [upd_ne (ne_of_none e h)]
  exact e
abbrev tk (x : Str) : Key := Sum.inr x
def drawKvs (c : Addr) (a l n : Int) (g : Bool) : List (Key × V) :=
  [(tk "cells", .ref c), (tk "at", .int a), (tk "left", .int l), (tk "number", .int n), (tk "digits", .bl g)]
/-- a draw's dict stands at d, its cells at c, at most n draws were mixed -/
def DrawAt (H : Hp) (d c : Addr) (cs : List Int) (n : Nat) : Prop := ∃ (a l m : Int) (g : Bool), H d = some (.dK (drawKvs c a l m g)) ∧ H c = some (.lst (cs.map V.int)) ∧ 0 < cs.length ∧ cs.length ≤ 64 ∧ 0 ≤ a ∧ a ≤ n
section
variable {H H' : Hp} {d c p : Addr} {cs : List Int} {n m : Nat} {o : HO}
theorem DrawAt.mono (h : DrawAt H d c cs n) (e : n ≤ m) : DrawAt H d c cs m := by
  obtain ⟨a, l, k, g, h1, h2, h3, h4, h5, h6⟩ := h
  exact ⟨a, l, k, g, h1, h2, h3, h4, h5, by omega⟩
theorem DrawAt.same (h : DrawAt H d c cs n) (e : Same H H') : DrawAt H' d c cs n := by
  obtain ⟨a, l, k, g, h1, h2, h3⟩ := h
  exact ⟨a, l, k, g, e _ _ h1, e _ _ h2, h3⟩
theorem DrawAt.is (h : DrawAt H d c cs n) : ∃ kvs, H d = some (.dK kvs) := by
  obtain ⟨a, l, k, g, h1, _⟩ := h
  exact ⟨_, h1⟩
theorem DrawAt.cells (h : DrawAt H d c cs n) : H c = some (.lst (cs.map V.int)) := by
  obtain ⟨a, l, k, g, h1, h2, _⟩ := h
  exact h2
theorem DrawAt.ne (h : DrawAt H d c cs n) (hp : H p = none) : p ≠ d := by
  obtain ⟨kvs, e⟩ := h.is
  exact (ne_of_none e hp).symm
end
end FB
namespace FB
open PySem PySem.Spec PyProof.Rows L2
def ltS (a b : Str) : Bool := decide (a.cps.toList < b.cps.toList)
/-- whether the span (l, h) has the key k -/
def hasB (l h k : Str) : Bool := !ltS k l && (decide (V.str h = V.str "") || ltS k h)
def IsKey (z : Str) : Prop := 0 < z.length ∧ z.length ≤ 8 ∧ ∀ c ∈ z.cps.toList, 97 ≤ c ∧ c ≤ 122
abbrev Sp3 := Addr × Str × Str
structure SpansAt (H : Hp) (a : Addr) (zs : List Sp3) : Prop where
  ls : H a = some (.lst (zs.map fun z => V.ref z.1))
  tp : ∀ z ∈ zs, H z.1 = some (.tup [.str z.2.1, .str z.2.2])
theorem SpansAt.keep {H H' : Hp} {a d : Addr} {zs : List Sp3} (h : SpansAt H a zs) (k : Keep d H H') (hd : ∃ kvs, H d = some (.dK kvs)) : SpansAt H' a zs := by
  obtain ⟨kvs, hd⟩ := hd
  exact ⟨k _ _ h.ls (ne_of h.ls hd (by intro z; cases z)), fun z hz => k _ _ (h.tp z hz) (ne_of (h.tp z hz) hd (by intro z; cases z))⟩
theorem SpansAt.same {H H' : Hp} {a : Addr} {zs : List Sp3} (h : SpansAt H a zs) (k : Same H H') : SpansAt H' a zs :=
  ⟨k _ _ h.ls, fun z hz => k _ _ (h.tp z hz)⟩
/-- the pairs of neighbours -/
def nexts : List Str → List (Str × Str)
  | x :: y :: r => (x, y) :: nexts (y :: r)
  | _ => []
end FB
namespace FB
open PySem PySem.Spec PyProof.Rows L2
theorem ltS_irrefl (a : Str) : ltS a a = false := decide_eq_false (List.lt_irrefl _)
theorem ltS_trans {a b c : Str} (h : ltS a b = true) (h' : ltS b c = true) : ltS a c = true := decide_eq_true (List.lt_trans (of_decide_eq_true h) (of_decide_eq_true h'))
theorem ltS_asymm {a b : Str} (h : ltS a b = true) : ltS b a = false := by
  cases e : ltS b a with
  | false => rfl
  | true => exact absurd (ltS_trans h e) (by rw [ltS_irrefl]; decide)
theorem ltS_tri {a b : Str} (h : ltS b a = false) (h' : a ≠ b) : ltS a b = true := by
  have h1 : ¬ b.cps.toList < a.cps.toList := of_decide_eq_false h
  apply decide_eq_true
  apply Decidable.byContradiction
  intro h2
  apply h'
  have e : a.cps.toList = b.cps.toList := List.le_antisymm (List.not_lt.mp h1) (List.not_lt.mp h2)
  cases a; cases b
  simp only [Str.mk.injEq]
  exact Array.toList_inj.mp e
theorem strict_of_rising : ∀ (p : Str) (l : List Str), risingS p l = true → (p :: l).Nodup → (p :: l).Pairwise (fun a b => ltS a b = true)
  | p, [], _, _ => by simp
  | p, x :: r, h, nd => by
    have h' : (!ltCps x.cps.toList p.cps.toList && risingS x r) = true := h
    rw [Bool.and_eq_true] at h'
    obtain ⟨h1, h2⟩ := h'
    have nd' := List.nodup_cons.mp nd
    have ih := strict_of_rising x r h2 nd'.2
    have hne : p ≠ x := fun e => nd'.1 (by rw [e]; simp)
    have hlt : ltS p x = true := by
      apply ltS_tri _ hne
      rw [ltCps_eq] at h1
      unfold ltS
      cases e : decide (x.cps.toList < p.cps.toList) with
      | false => rfl
      | true => rw [e] at h1; cases h1
    refine List.pairwise_cons.mpr ⟨fun y hy => ?_, ih⟩
    rcases List.mem_cons.mp hy with rfl | hy
    · exact hlt
    · exact ltS_trans hlt ((List.pairwise_cons.mp ih).1 y hy)
theorem strict_of_sorted (l : List Str) (h : sortedS l = true) (nd : l.Nodup) : l.Pairwise (fun a b => ltS a b = true) := by
  cases l with
  | nil => simp
  | cons p r => exact strict_of_rising p r h nd
theorem nexts_len : ∀ xs : List Str, (nexts xs).length = xs.length - 1
  | [] => rfl
  | [_] => rfl
  | x :: y :: r => by
    show (nexts (y :: r)).length + 1 = (y :: r).length + 1 - 1
    rw [nexts_len (y :: r)]
    simp
def KeyOr (z : Str) : Prop := z = "" ∨ IsKey z
theorem KeyOr.ok {z : Str} (h : KeyOr z) : PyData.strOk z = true := by
  rcases h with rfl | ⟨_, _, h⟩
  · decide +kernel
  · unfold PyData.strOk
    rw [Array.all_eq_true']
    intro c hc
    have := h c (Array.mem_toList_iff.mpr hc)
    exact decide_eq_true (by omega)
theorem nexts_mem : ∀ (xs : List Str) (p : Str × Str), p ∈ nexts xs → p.1 ∈ xs ∧ p.2 ∈ xs
  | [], _, h => by simp [nexts] at h
  | [_], _, h => by simp [nexts] at h
  | a :: b :: r, p, h => by
    rcases List.mem_cons.mp h with rfl | h
    · simp
    · obtain ⟨h1, h2⟩ := nexts_mem (b :: r) p h
      exact ⟨List.mem_cons_of_mem _ h1, List.mem_cons_of_mem _ h2⟩
theorem full_keys {ys : List Str} (h : ∀ k ∈ ys, IsKey k) : ∀ z ∈ (("" : Str) :: (ys ++ [("" : Str)])), KeyOr z := fun z hz => by
  have : z = "" ∨ z ∈ ys ∨ z = "" := by simpa using hz
  rcases this with q | q | q
  · exact .inl q
  · exact .inr (h z q)
  · exact .inl q
end FB
namespace FB
open PySem PySem.Spec PyProof.Rows L2
section
variable {prog : Program} {w : World} {A : Around} {E : Value → Shared → Prop} {s : Shared}
theorem cmp_strs {P : Nat → Value → Prop} (val : Nat → Str) (hval : ∀ i v, P i v → ∃ t, v = .str (val i) t) : CmpOf prog w A .Gt P (fun i j => ltS (val j) (val i)) := fun i j vi vj s Q E hi hj h => by
  obtain ⟨t, rfl⟩ := hval i vi hi
  obtain ⟨u, rfl⟩ := hval j vj hj
  exact PySem.P.gt_str (t := t) (u := u) h
theorem max_two_strs {a b : Str} {t u : Tok} {Q : Value → Shared → Prop} (hh : A.handled = none)
    (h : ∀ h' tk, (∀ c o, s.heap.get? c = some o → h'.get? c = some o) → Q (if ltS a b = true then .str b u else .str a t) { s with heap := h', toks := tk }) :
    wpAny (model prog w) A (call (.builtin "max") [.str a t, .str b u]) Q E s := by
  have hT : (s.heap.push { cls := .type "tuple", data := .seq #[.str a t, .str b u] }).IsTuple s.heap.objs.size #[.str a t, .str b u] := ⟨_, Heap.get?_push_size _ rfl, rfl, 0, rfl⟩
  refine call_max_two (wpAny_pyIter_tuple hT ?_)
  have hsz : (s.heap.push { cls := .type "tuple", data := .seq #[.str a t, .str b u] }).objs.size = s.heap.objs.size + 1 := Heap.size_push ..
  refine ⟨_, [_, s.heap.objs.size], [_], _, _, _, _, rfl, Walks.tuple (A := A.in1) hh _ s.heap.objs.size (by rw [hsz]; exact Nat.ne_of_lt (Nat.lt_succ_self _)) #[.str a t, .str b u],
    ⟨⟨_, Heap.get?_push_size _ rfl, rfl, rfl⟩, hT.push _⟩, fun c hc => ?_, by simp, cmp_strs (fun i => if i = 0 then a else b) (fun i v hv => ?_), fun v h' tk hP hk => ?_⟩
  · show c < ((s.heap.push _).push _).objs.size
    rw [Heap.size_push, hsz]
    rcases List.mem_cons.mp hc with rfl | hc
    · rw [hsz]; exact Nat.lt_succ_self _
    · rcases List.mem_cons.mp hc with rfl | hc
      · exact Nat.lt_succ_of_lt (Nat.lt_succ_self _)
      · cases hc
  · match i, hv with
    | 0, hv => exact ⟨t, by simpa using hv.symm⟩
    | 1, hv => exact ⟨u, by simpa using hv.symm⟩
    | n + 2, hv => simp at hv
  · have hold : ∀ d o, s.heap.get? d = some o → h'.get? d = some o := fun d o e => by
      refine hk d o (fun hm => ?_) (Heap.get?_push_of_some _ (Heap.get?_push_of_some _ e))
      rcases List.mem_cons.mp hm with e1 | hm
      · have := Heap.lt_size e; rw [e1, hsz] at this; exact Nat.lt_irrefl _ (Nat.lt_of_succ_lt this)
      · cases hm
    have := h h' tk hold
    have hv : v = if ltS a b = true then Value.str b u else Value.str a t := by
      have hP' : (#[Value.str a t, .str b u])[argBest (fun i j => ltS (if j = 0 then a else b) (if i = 0 then a else b)) 1]? = some v := hP
      by_cases hba : ltS a b = true
      · have e : argBest (fun i j => ltS (if j = 0 then a else b) (if i = 0 then a else b)) 1 = 1 := by simp [argBest, hba]
        rw [e] at hP'
        simpa [hba] using hP'.symm
      · have e : argBest (fun i j => ltS (if j = 0 then a else b) (if i = 0 then a else b)) 1 = 0 := by simp [argBest, hba]
        rw [e] at hP'
        simpa [hba] using hP'.symm
    rw [hv]
    exact this
theorem max_three_strs {a b c : Str} {t u x : Tok} {Q : Value → Shared → Prop} (hh : A.handled = none)
    (h : ∀ h' tk, (∀ d o, s.heap.get? d = some o → h'.get? d = some o) → Q (if ltS a b = true then (if ltS b c = true then .str c x else .str b u) else (if ltS a c = true then .str c x else .str a t)) { s with heap := h', toks := tk }) :
    wpAny (model prog w) A (call (.builtin "max") [.str a t, .str b u, .str c x]) Q E s := by
  have hT : (s.heap.push { cls := .type "tuple", data := .seq #[.str a t, .str b u, .str c x] }).IsTuple s.heap.objs.size #[.str a t, .str b u, .str c x] := ⟨_, Heap.get?_push_size _ rfl, rfl, 0, rfl⟩
  refine call_max_three (wpAny_pyIter_tuple hT ?_)
  have hsz : (s.heap.push { cls := .type "tuple", data := .seq #[.str a t, .str b u, .str c x] }).objs.size = s.heap.objs.size + 1 := Heap.size_push ..
  refine ⟨_, [_, s.heap.objs.size], [_], _, _, _, _, rfl, Walks.tuple (A := A.in1) hh _ s.heap.objs.size (by rw [hsz]; exact Nat.ne_of_lt (Nat.lt_succ_self _)) #[.str a t, .str b u, .str c x],
    ⟨⟨_, Heap.get?_push_size _ rfl, rfl, rfl⟩, hT.push _⟩, fun d hd => ?_, by simp, cmp_strs (fun i => if i = 0 then a else if i = 1 then b else c) (fun i v hv => ?_), fun v h' tk hP hk => ?_⟩
  · show d < ((s.heap.push _).push _).objs.size
    rw [Heap.size_push, hsz]
    rcases List.mem_cons.mp hd with rfl | hd
    · rw [hsz]; exact Nat.lt_succ_self _
    · rcases List.mem_cons.mp hd with rfl | hd
      · exact Nat.lt_succ_of_lt (Nat.lt_succ_self _)
      · cases hd
  · match i, hv with
    | 0, hv => exact ⟨t, by simpa using hv.symm⟩
    | 1, hv => exact ⟨u, by simpa using hv.symm⟩
    | 2, hv => exact ⟨x, by simpa using hv.symm⟩
    | n + 3, hv => simp at hv
  · have hold : ∀ d o, s.heap.get? d = some o → h'.get? d = some o := fun d o e => by
      refine hk d o (fun hm => ?_) (Heap.get?_push_of_some _ (Heap.get?_push_of_some _ e))
      rcases List.mem_cons.mp hm with e1 | hm
      · have := Heap.lt_size e; rw [e1, hsz] at this; exact Nat.lt_irrefl _ (Nat.lt_of_succ_lt this)
      · cases hm
    have := h h' tk hold
    have hv : v = if ltS a b = true then (if ltS b c = true then Value.str c x else .str b u) else (if ltS a c = true then .str c x else .str a t) := by
      have hP' : (#[Value.str a t, .str b u, .str c x])[argBest (fun i j => ltS (if j = 0 then a else if j = 1 then b else c) (if i = 0 then a else if i = 1 then b else c)) 2]? = some v := hP
      by_cases hba : ltS a b = true
      · by_cases hc : ltS b c = true
        · have e : argBest (fun i j => ltS (if j = 0 then a else if j = 1 then b else c) (if i = 0 then a else if i = 1 then b else c)) 2 = 2 := by simp [argBest, hba, hc]
          rw [e] at hP'
          simpa [hba, hc] using hP'.symm
        · have e : argBest (fun i j => ltS (if j = 0 then a else if j = 1 then b else c) (if i = 0 then a else if i = 1 then b else c)) 2 = 1 := by simp [argBest, hba, hc]
          rw [e] at hP'
          simpa [hba, hc] using hP'.symm
      · by_cases hc : ltS a c = true
        · have e : argBest (fun i j => ltS (if j = 0 then a else if j = 1 then b else c) (if i = 0 then a else if i = 1 then b else c)) 2 = 2 := by simp [argBest, hba, hc]
          rw [e] at hP'
          simpa [hba, hc] using hP'.symm
        · have e : argBest (fun i j => ltS (if j = 0 then a else if j = 1 then b else c) (if i = 0 then a else if i = 1 then b else c)) 2 = 0 := by simp [argBest, hba, hc]
          rw [e] at hP'
          simpa [hba, hc] using hP'.symm
    rw [hv]
    exact this
end
def maxS (a b : Str) : Str := if ltS a b = true then b else a
section
variable {X : Cx}
theorem call_max2S (hc : X.calm = true) : CallR X (.builtin "max") (fun xs H Q => ∃ i j, xs = [.str i, .str j] ∧ Q (.str (maxS i j)) H) := by
  intro pins s σ H xs us Q I r h
  obtain ⟨i, j, rfl, q⟩ := h
  obtain ⟨u, w', rfl, ⟨t, rfl⟩, ⟨t', rfl⟩⟩ := vals2 r
  refine max_two_strs (I.ok.hd hc) fun h' tk k => ⟨_, H, I.kept k, ?_, q⟩
  unfold maxS
  by_cases hj : ltS i j = true
  · rw [if_pos hj, if_pos hj]; exact ⟨_, rfl⟩
  · rw [if_neg hj, if_neg hj]; exact ⟨_, rfl⟩
theorem call_max3S (hc : X.calm = true) : CallR X (.builtin "max") (fun xs H Q => ∃ i j k, xs = [.str i, .str j, .str k] ∧ Q (.str (maxS (maxS i j) k)) H) := by
  intro pins s σ H xs us Q I r h
  obtain ⟨i, j, k, rfl, q⟩ := h
  cases r with
  | cons r1 r2 =>
    obtain ⟨u, w', rfl, ⟨t', rfl⟩, ⟨t'', rfl⟩⟩ := vals2 r2
    obtain ⟨t, rfl⟩ := r1
    refine max_three_strs (I.ok.hd hc) fun h' tk k' => ⟨_, H, I.kept k', ?_, q⟩
    unfold maxS
    by_cases hj : ltS i j = true
    · rw [if_pos hj, if_pos hj]
      by_cases hk : ltS j k = true
      · rw [if_pos hk, if_pos hk]; exact ⟨_, rfl⟩
      · rw [if_neg hk, if_neg hk]; exact ⟨_, rfl⟩
    · rw [if_neg hj, if_neg hj]
      by_cases hk : ltS i k = true
      · rw [if_pos hk, if_pos hk]; exact ⟨_, rfl⟩
      · rw [if_neg hk, if_neg hk]; exact ⟨_, rfl⟩
variable {K : PySem.W.Frag}
theorem ix_tupK (h : X.K = K) : IxR X (rIxT K) := h ▸ ix_tup
end
end FB
namespace FB
open PySem PySem.Spec PyProof.Rows L2
abbrev Sp2 := Str × Str
theorem nil_or_snoc {α : Type} (A : List α) : A = [] ∨ ∃ B p, A = B ++ [p] := by
  rcases List.eq_nil_or_concat A with h | ⟨B, p, h⟩
  · exact .inl h
  · exact .inr ⟨B, p, by rw [h, List.concat_eq_append]⟩
def jstep (k : Str) (acc : List Sp2) (z : Sp2) : List Sp2 :=
  match acc.getLast? with
  | some p => if p.2 = k ∧ z.1 = k then acc.dropLast ++ [(p.1, z.2)] else acc ++ [z]
  | none => acc ++ [z]
theorem jstep_yes {k : Str} {A : List Sp2} {p z : Sp2} (h : p.2 = k ∧ z.1 = k) : jstep k (A ++ [p]) z = A ++ [(p.1, z.2)] := by
  unfold jstep
  rw [List.getLast?_concat]
  simp only [if_pos h, List.dropLast_concat]
theorem jstep_no {k : Str} {A : List Sp2} {p z : Sp2} (h : ¬ (p.2 = k ∧ z.1 = k)) : jstep k (A ++ [p]) z = A ++ [p] ++ [z] := by
  unfold jstep
  rw [List.getLast?_concat]
  simp only [if_neg h]
theorem jstep_low {k : Str} {A : List Sp2} {z : Sp2} (h : z.1 ≠ k) : jstep k A z = A ++ [z] := by
  rcases nil_or_snoc A with rfl | ⟨B, p, rfl⟩
  · rfl
  · exact jstep_no fun q => h q.2
theorem jfold_low {k : Str} : ∀ (L acc : List Sp2), (∀ z ∈ L, z.1 ≠ k) → L.foldl (jstep k) acc = acc ++ L
  | [], acc, _ => by simp
  | z :: r, acc, h => by
    rw [List.foldl_cons, jstep_low (h z (by simp)), jfold_low r _ fun y hy => h y (by simp [hy]), List.append_assoc]
    rfl
structure Good (L : List Sp2) : Prop where
  pw : L.Pairwise (fun p q => p.2 ≠ ("" : Str) ∧ ltS q.1 p.2 = false)
  up : ∀ p ∈ L, p.2 = ("" : Str) ∨ ltS p.1 p.2 = true
theorem nexts_fst : ∀ (x : Str) (r : List Str) (q : Sp2), q ∈ nexts (x :: (r ++ [("" : Str)])) → q.1 ∈ x :: r
  | x, [], q, h => by
    have : q = (x, ("" : Str)) := by simpa [nexts] using h
    rw [this]
    simp
  | x, y :: r, q, h => by
    rcases List.mem_cons.mp h with rfl | h
    · simp
    · exact List.mem_cons_of_mem _ (nexts_fst y r q h)
theorem good_nexts : ∀ (x : Str) (ys : List Str), (x :: ys).Pairwise (fun a b => ltS a b = true) → (∀ y ∈ ys, y ≠ ("" : Str)) → Good (nexts (x :: (ys ++ [("" : Str)])))
  | x, [], _, _ => ⟨by simp [nexts], fun p hp => .inl (by have : p = (x, ("" : Str)) := by simpa [nexts] using hp
                                                          rw [this])⟩
  | x, y :: r, hp, hy => by
    obtain ⟨h1, h2⟩ := List.pairwise_cons.mp hp
    obtain ⟨g1, g2⟩ := good_nexts y r h2 fun z hz => hy z (by simp [hz])
    refine ⟨List.pairwise_cons.mpr ⟨fun q hq => ⟨hy y (by simp), ?_⟩, g1⟩, fun p hp => ?_⟩
    · have hm := nexts_fst y r q hq
      rcases List.mem_cons.mp hm with e | e
      · rw [e]
        exact ltS_irrefl _
      · exact ltS_asymm ((List.pairwise_cons.mp h2).1 _ e)
    · rcases List.mem_cons.mp hp with rfl | hp
      · exact .inr (h1 y (by simp))
      · exact g2 p hp
theorem Good.sub {L L' : List Sp2} (h : Good L) (s : L'.Sublist L) : Good L' := ⟨h.pw.sublist s, fun p hp => h.up p (s.subset hp)⟩
theorem ltS_ne {a b : Str} (h : ltS a b = true) : a ≠ b := fun e => by
  rw [e, ltS_irrefl] at h
  cases h
/-- not less, and less: less -/
theorem lt_of_nlt {a b c : Str} (h : ltS b a = false) (h' : ltS b c = true) : ltS a c = true ∨ a = b := by
  by_cases e : a = b
  · exact .inr e
  · exact .inl (ltS_trans (ltS_tri h e) h')
end FB
namespace FB
open PySem PySem.Spec PyProof.Rows L2
theorem has_yes {l h k : Str} (h1 : ltS k l = false) (h2 : h = "" ∨ ltS k h = true) : hasB l h k = true := by
  unfold hasB
  rw [h1]
  rcases h2 with e | e
  · rw [decide_eq_true (congrArg V.str e)]
    rfl
  · rw [e]
    simp
theorem has_no1 {l h k : Str} (h1 : ltS k l = true) : hasB l h k = false := by
  unfold hasB
  rw [h1]
  rfl
theorem has_no2 {l h k : Str} (h1 : h ≠ "") (h2 : ltS k h = false) : hasB l h k = false := by
  unfold hasB
  rw [h2, decide_eq_false fun e => h1 (V.str.inj e)]
  simp
end FB
namespace FB
open PySem PySem.Spec PyProof.Rows L2
section
variable (P : Program) (w : World) (K : PySem.W.Frag) (mg : Str → Option Value) (base : Heap)
def MethAt (C : Addr) (m qual : Str) (st : Stmt) (ps : List Str) : Prop := ∃ f fd, Fun K m qual st f fd ∧ Meth K C m f ∧ L2.Binds K fd ps []
def MethOk (k : Nat) (C : Addr) (m : Str) (ps : List Str) (sp : Sp) : Prop := ∃ f fd, FnOk P w K mg base CX0 k f fd ps sp ∧ Meth K C m f ∧ L2.Binds K fd ps []
def MakeAt (C : Addr) (qual : Str) (st : Stmt) (ps : List Str) : Prop := ∃ f fd, Fun K "__init__" qual st f fd ∧ Mk K C f ∧ L2.Binds K fd ps []
def MakeOk (k : Nat) (C : Addr) (ps : List Str) (sp : Sp) : Prop := ∃ f fd, FnOk P w K mg base CX0 k f fd ps sp ∧ Mk K C f ∧ L2.Binds K fd ps []
end
theorem MethAt.ok {P : Program} {w : World} {K : PySem.W.Frag} {mg : Str → Option Value} {base : Heap} {k : Nat} {C : Addr} {m qual : Str} {st : Stmt} {ps : List Str} {sp : Sp} (A : MethAt K C m qual st ps)
    (h : ∀ f fd, Fun K m qual st f fd → FnOk P w K mg base CX0 k f fd ps sp) : MethOk P w K mg base k C m ps sp := by
  obtain ⟨f, fd, F, hm, hb⟩ := A
  exact ⟨f, fd, h f fd F, hm, hb⟩
theorem MakeAt.ok {P : Program} {w : World} {K : PySem.W.Frag} {mg : Str → Option Value} {base : Heap} {k : Nat} {C : Addr} {qual : Str} {st : Stmt} {ps : List Str} {sp : Sp} (A : MakeAt K C qual st ps)
    (h : ∀ f fd, Fun K "__init__" qual st f fd → FnOk P w K mg base CX0 k f fd ps sp) : MakeOk P w K mg base k C ps sp := by
  obtain ⟨f, fd, F, hm, hb⟩ := A
  exact ⟨f, fd, h f fd F, hm, hb⟩
abbrev Put := Str × Int × Int
def pstep (pg : List (Int × Int)) (t v : Int) : List (Int × Int) := if t ∈ pg.map (·.1) then pg else pg ++ [(t, v)]
def pgOf (ps : List Put) (k : Str) : List (Int × Int) := ps.foldl (fun pg q => if q.1 = k then pstep pg q.2.1 q.2.2 else pg) []
/-- what a page has at a moment -/
def AtR (pg : List (Int × Int)) (m r : Int) : Prop := (∀ q ∈ pg, m < q.1) ∧ r = 0 ∨ ∃ t, (t, r) ∈ pg ∧ t ≤ m ∧ ∀ q ∈ pg, q.1 ≤ m → q.1 ≤ t
theorem mem_same {pg : List (Int × Int)} (h : (pg.map (·.1)).Nodup) {t a b : Int} (ha : (t, a) ∈ pg) (hb : (t, b) ∈ pg) : a = b := by
  induction pg with
  | nil => cases ha
  | cons q r ih =>
    rw [List.map_cons, List.nodup_cons] at h
    rcases List.mem_cons.mp ha with e1 | e1
    · rcases List.mem_cons.mp hb with e2 | e2
      · rw [← e1] at e2
        exact (Prod.mk.inj e2).2.symm
      · exact absurd (List.mem_map.mpr ⟨_, e2, by rw [← e1]⟩) h.1
    · rcases List.mem_cons.mp hb with e2 | e2
      · exact absurd (List.mem_map.mpr ⟨_, e1, by rw [← e2]⟩) h.1
      · exact ih h.2 e1 e2
theorem AtR.one {pg : List (Int × Int)} (h : (pg.map (·.1)).Nodup) {m a b : Int} (ha : AtR pg m a) (hb : AtR pg m b) : a = b := by
  rcases ha with ⟨h1, rfl⟩ | ⟨t, h1, h2, h3⟩
  · rcases hb with ⟨_, rfl⟩ | ⟨t, k1, k2, _⟩
    · rfl
    · have := h1 _ k1
      omega
  · rcases hb with ⟨k1, rfl⟩ | ⟨u, k1, k2, k3⟩
    · have := k1 _ h1
      omega
    · have e1 := h3 _ k1 k2
      have e2 := k3 _ h1 h2
      have e : t = u := by
        simp only at e1 e2
        omega
      subst e
      exact mem_same h h1 k1
end FB
namespace FB
open PySem PySem.Spec PyProof.Rows L2
abbrev Pg := Str × Addr × List (Int × Int)
def pgKvs (pg : List (Int × Int)) : List (Key × V) := pg.map fun q => ((Sum.inl q.1 : Key), V.int q.2)
def shKvs (S : List Pg) : List (Key × V) := S.map fun e => (tk e.1, V.ref e.2.1)
def shFlds (d : Addr) : List (Str × V) := putF "pages" (.ref d) []
def foot (d : Addr) (S : List Pg) : List Addr := d :: S.map (·.2.1)
structure ShelfRaw (C : Addr) (H : Hp) (p d : Addr) (S : List Pg) : Prop where
  ob : ∃ dx, H p = some (.ins C dx (shFlds d))
  pg : H d = some (.dK (shKvs S))
  en : ∀ e ∈ S, H e.2.1 = some (.dK (pgKvs e.2.2))
  nk : (S.map (·.1)).Nodup
  na : (S.map (·.2.1)).Nodup
def pgS (S : List Pg) (k : Str) : List (Int × Int) := match S.find? (fun e => decide (e.1 = k)) with
  | some e => e.2.2
  | none => []
/-- a shelf stands at p, in the objects F, behind the puts ps -/
def ShelfAt (C : Addr) (H : Hp) (p : Addr) (F : List Addr) (ps : List Put) : Prop := ∃ d S, ShelfRaw C H p d S ∧ F = foot d S ∧ (∀ k, pgS S k = pgOf ps k) ∧ S.length ≤ ps.length
theorem ShelfAt.same {C : Addr} {H H' : Hp} {p : Addr} {F : List Addr} {ps : List Put} (h : ShelfAt C H p F ps) (s : Same H H') : ShelfAt C H' p F ps := by
  obtain ⟨d, S, ⟨⟨dx, h1⟩, h2, h3, h4, h5⟩, h6⟩ := h
  exact ⟨d, S, ⟨⟨dx, s _ _ h1⟩, s _ _ h2, fun e he => s _ _ (h3 e he), h4, h5⟩, h6⟩
theorem ShelfAt.is {C : Addr} {H : Hp} {p : Addr} {F : List Addr} {ps : List Put} (h : ShelfAt C H p F ps) : ∃ dx d, H p = some (.ins C dx (shFlds d)) := by
  obtain ⟨d, S, ⟨⟨dx, h1⟩, _⟩, _⟩ := h
  exact ⟨dx, d, h1⟩
end FB
namespace FB
open PySem PySem.Spec PyProof.Rows L2
def klt : Key → Key → Bool
  | .inl a, .inl b => decide (a < b)
  | .inr x, .inr y => ltS x y
  | .inl _, .inr _ => true
  | .inr _, .inl _ => false
def llt : List Key → List Key → Bool
  | [], [] => false
  | [], _ :: _ => true
  | _ :: _, [] => false
  | a :: r, b :: q => if a = b then llt r q else klt a b
def isI : Key → Bool
  | .inl _ => true
  | .inr _ => false
def shp (l : List Key) : List Bool := l.map isI
/-- the values of a tuple's items -/
inductive KVals : List Key → List Value → Prop
  | nil : KVals [] []
  | int (i : Int) (t : Tok) {l : List Key} {us : List Value} : KVals l us → KVals (.inl i :: l) (.int i t :: us)
  | str (x : Str) (t : Tok) {l : List Key} {us : List Value} : KVals l us → KVals (.inr x :: l) (.str x t :: us)
theorem KVals.len : ∀ {l : List Key} {us : List Value}, KVals l us → us.length = l.length
  | _, _, .nil => rfl
  | _, _, .int _ _ r => by rw [List.length_cons, List.length_cons, r.len]
  | _, _, .str _ _ r => by rw [List.length_cons, List.length_cons, r.len]
def IsTup (h : Heap) (v : Value) (l : List Key) : Prop := ∃ a o us n, v = .ref a ∧ h.get? a = some o ∧ o.cls = .type "tuple" ∧ o.data = .seq (List.toArray us) n ∧ KVals l us
theorem IsTup.keeps {h h' : Heap} {v : Value} {l : List Key} (p : IsTup h v l) (k : ∀ b o, h.get? b = some o → o.cls = .type "tuple" → h'.get? b = some o) : IsTup h' v l := by
  obtain ⟨a, o, us, n, e, ho, hc, hd, r⟩ := p
  exact ⟨a, o, us, n, e, k _ _ ho hc, hc, hd, r⟩
end FB
namespace FB
open PySem PySem.Spec PyProof.Rows L2
def leastS (l : Str) : Str := if l = "" then "a" else l
theorem key_ge_a {k : Str} (h : IsKey k) : ltS k "a" = false := by
  obtain ⟨h0, _, hc⟩ := h
  apply decide_eq_false
  have ea : ("a" : Str).cps.toList = [97] := by decide +kernel
  rw [ea]
  cases e : k.cps.toList with
  | nil =>
    have : k.length = 0 := by
      show k.cps.size = 0
      rw [← Array.length_toList, e]
      rfl
    omega
  | cons c r =>
    have h1 := (hc c (by rw [e]; simp)).1
    intro hlt
    rcases List.cons_lt_cons_iff.mp hlt with q | ⟨q, q'⟩
    · omega
    · exact absurd q' (by simp)
theorem isKey_of {z : Str} (h : KeyOr z) (h' : z ≠ "") : IsKey z := h.resolve_left h'
theorem a_key : IsKey "a" := by
  unfold IsKey
  decide +kernel
theorem lt_empty_a : ltS "" "a" = true := by decide +kernel
theorem no_lt_empty (k : Str) : ltS k "" = false := by
  apply decide_eq_false
  have ea : ("" : Str).cps.toList = [] := by decide +kernel
  rw [ea]
  exact List.not_lt_nil _
theorem empty_lt {k : Str} (h : k ≠ "") : ltS "" k = true := ltS_tri (no_lt_empty k) (fun e => h e.symm)
theorem IsKey.ne {z : Str} (h : IsKey z) : z ≠ "" := fun e => by
  subst e
  have := h.1
  exact absurd this (by decide +kernel)
theorem max_a {l : Str} (h : KeyOr l) : maxS l "a" = leastS l := by
  unfold maxS leastS
  rcases h with rfl | h
  · rw [if_pos lt_empty_a, if_pos rfl]
  · rw [key_ge_a h, if_neg (by decide), if_neg h.ne]
def canB (l h k : Str) : Bool := hasB l h k && ltS (maxS l "a") k
def cutL (k : Str) (c : Str → Str → Bool) (zs : List (Str × Str)) : List (Str × Str) := (zs.map fun z => if c z.1 z.2 = true then [(z.1, k), (k, z.2)] else [z]).flatten
end FB
namespace FB
open PySem PySem.Spec PyProof.Rows L2 GenW
def TabX (P : Addr) : HO := .ext fun h => ∃ ps : Array Value, h.get? P = some { cls := .none, data := .fields ps } ∧ TriplesOk ps.toList
section
variable {X : Cx} {pins : List (Addr × Obj)} {σ : L2.St} {H : Hp} {s : Shared}
theorem tabX_ok {P : Addr} {Pg : Program} {w : World} {H : Hp} {h : Heap} {ps : Array Value} (hm : h.get? P = some { cls := .none, data := .fields ps }) (ht : TriplesOk ps.toList) : ObjOk Pg w H h P (TabX P) :=
  ⟨⟨ps, hm, ht⟩, ⟨_, hm⟩, fun _ _ ⟨qs, e, t⟩ q => ⟨qs, q _ e, t⟩⟩
theorem inv_tabX {P : Addr} {ps : Array Value} {h' : Heap} {t' : Nat} (I : Inv X pins σ H s) (hP : H P = some (TabX P)) (k : ∀ b o, b ≠ P → s.heap.get? b = some o → h'.get? b = some o)
    (hm : h'.get? P = some { cls := .none, data := .fields ps }) (ht : TriplesOk ps.toList) : Inv X pins σ H { s with heap := h', toks := t' } := by
  have J := I.write (x := P) (e := P) (o := TabX P) (t' := t') (by rw [hP]; trivial) (.inl rfl) k ⟨_, hm⟩ (tabX_ok hm ht)
  have e : upd H P (TabX P) = H := by
    funext b
    unfold upd
    split
    · rename_i e
      rw [e, hP]
    · rfl
  rw [e] at J
  exact J
/-- the state again, the heap as it was -/
theorem Inv.woke {s' : Shared} (I : Inv X pins σ H s) (h : s'.heap = s.heap) (ho : s'.os = s.os) (hb : AllBare s'.gens) : Inv X pins σ H s' :=
  ⟨I.ok, ho.trans I.os, hb, by rw [h]; exact I.base, by rw [h]; exact I.loc, by rw [h]; exact I.cell, I.free, I.freeC, by rw [h]; exact I.pin, by rw [h]; exact I.hok, I.len⟩
end
structure FunC (K : PySem.W.Frag) (x qual : Str) (st : Stmt) (f : Addr) (fd : FuncData) (c : Addr) : Prop where
  ex : ∃ (oc : Value) (od : Option Addr) (kV doc pm : Value) (an : Option Addr) (ct : Value) (osl : Array (Option Value)),
    fd = PySem.W.fnOf x qual (defArgs st) (defBody st) (defScope st) .none kV doc pm an (.ref c) ct ∧ K.lookup f = some ⟨oc, od, .func fd, osl⟩ ∧ PySem.W.codeIn K (.ref c) qual = true
  kp : PySem.W.keepIn K (.ref f) = true
theorem FunC.ok {P : Program} {w : World} {K : PySem.W.Frag} {mg : Str → Option Value} {base : Heap} {x qual : Str} {st : Stmt} {f c : Addr} {fd : FuncData} {N ps : List Str} {k : Nat} {sp : Sp} (F : FunC K x qual st f fd c) (S : FnScope N ps (defScope st)) (len : ∀ vs H Q E, sp vs H Q E → vs.length = ps.length)
    (hbody : ∀ (A : Around) (outer : List Env) (s : Shared) (H : Hp) (vs : List V) (Q : VK) (E : XK), Room k (A.deeper (envOfC qual (defScope st) s.heap.objs.size f (.ref c))) → sp vs H Q E →
      ∃ t, PSs (cxOf CX0 P w K mg base N qual (defScope st) f (.ref c) A outer s H E).nox (defBody st) t ∧ t { nx := fun _ H' => Q .non H', rt := Q } (start N vs) H) : FnOk P w K mg base CX0 (k + 1) f fd ps sp := by
  obtain ⟨oc, od, kV, doc, pm, an, ct, osl, rfl, lk, hcd⟩ := F.ex
  refine fn_of lk hcd S len fun A outer s H vs Q E hr hsp => ?_
  obtain ⟨t, h, q⟩ := hbody A outer s H vs Q E hr hsp
  exact ⟨t, h.nox, q⟩
abbrev gA (X : Cx) (cenv : Env) : Around := X.A.in1.in1.deeper cenv
abbrev gCx (X : Cx) (s : Shared) (H : Hp) (cenv : Env) (fp : List Addr) (pn : List (Addr × Obj)) : Cx :=
  { X with A := gA X cenv, s_0 := s, H_0 := H, env := cenv, outer := X.stack, stack := cenv :: X.stack, ex := fp, fn := fun _ => false, pn := pn, xe := fun _ _ => False }
def genC (scope : Scope) : Bool := !scope.isCoroutine && (scope.names.all fun y => decide (y.2 ≠ .cell)) && decide (scope.names.lookup (".0" : Str) = some NameKind.local)
section
variable {X : Cx} {pins : List (Addr × Obj)} {σ : L2.St} {H : Hp} {s : Shared}
theorem gen_start {scope : Scope} {own : List (Str × Nat)} {fp : List Addr} {h5 : Heap} {a : Addr} {go : Obj} {g' : Array GenState} {tk : Nat} {code : Value} {m : Str → Option Value} (I : Inv X pins σ H s) (ok : BlkOk X.N X.env.scope scope own) (hN : X.N.Nodup)
    (hfp : ∀ b ∈ fp, FpOk X pins H b ∧ b < s.heap.objs.size) (hns : h5.Ns s.heap.objs.size m) (kp : ∀ b o, s.heap.get? b = some o → h5.get? b = some o) (ha : h5.get? a = some go) (hga : s.heap.objs.size < a) (hgd : ∀ v, go.data ≠ .cell v) (hg : AllBare g') (hh : X.A.handled = none) (hcellN : ∀ y ∈ scope.names, y.2 ≠ .cell) :
    Inv (gCx X s H (genEnv scope (cloFrom X.env.cells scope.names []) s.heap.objs.size code builtinsNs X.env) fp [(a, go)]) [] (wipe σ (own.map (·.2))) H { s with heap := h5, gens := g', toks := tk } := by
  have hfree : ∀ y ∈ scope.names, y.2 = .free → ∃ c, X.env.cells.lookup y.1 = some c := fun y hy e => by
    rcases ok.free y hy e with k | k
    · exact I.ok.has _ (.inl k)
    · exact I.ok.has _ (.inr k)
  generalize hcenv : genEnv scope (cloFrom X.env.cells scope.names []) s.heap.objs.size code builtinsNs X.env = cenv
  have hL : cenv.locals = s.heap.objs.size := by rw [← hcenv]; rfl
  have hcl : cenv.cells = cloFrom X.env.cells scope.names [] := by rw [← hcenv]; rfl
  have hsc : cenv.scope = scope := by rw [← hcenv]; rfl
  have cm : ∀ {y c}, (y, c) ∈ cloFrom X.env.cells scope.names [] → X.env.cells.lookup y = some c ∧ c < s.heap.objs.size := fun {y c} hm => by
    rcases cloFrom_mem hm with hm | ⟨h1, rfl⟩
    · cases hm
    · obtain ⟨c, hc⟩ := hfree _ h1 rfl
      rw [hc]
      obtain ⟨w, z⟩ := I.cell _ _ hc
      exact ⟨rfl, z.lt⟩
  have mem : ∀ {y c}, cenv.cells.lookup y = some c → X.env.cells.lookup y = some c ∧ c < s.heap.objs.size := fun {y c} e => by
    rw [hcl] at e
    exact cm (PySem.mem_of_lookup e)
  have look : ∀ {y}, scope.names.lookup y = some .free → ∃ c, cenv.cells.lookup y = some c ∧ X.env.cells.lookup y = some c := fun {y} hl => by
    have hy : (y, NameKind.free) ∈ scope.names := PySem.mem_of_lookup hl
    obtain ⟨c', e'⟩ := mem_lookup (cloFrom_has (cells := X.env.cells) (acc := []) hy)
    rw [← hcl] at e'
    exact ⟨c', e', (mem e').1⟩
  have okB : (gCx X s H cenv fp [(a, go)]).Ok := by
    refine ⟨I.ok.mod, by show cenv.scope.kind = _; rw [hsc]; exact ok.kind, by show cenv.globals = _; rw [← hcenv]; exact I.ok.glob, by show cenv.builtins = _; rw [← hcenv]; rfl, by show s.heap.objs.size ≤ cenv.locals; rw [hL]; exact Nat.le_refl _,
      fun y z c e1 e2 => I.ok.inj y z c (mem e1).1 (mem e2).1, fun y hy => ?_, fun y c z e => (by cases z), fun _ => hh, Around.frames_deeper (show X.A.in1.in1.frames = some X.stack from I.ok.frames), .inr ⟨rfl, by rw [← hcenv]; rfl⟩,
      fun b hb => ⟨?_, fun y c e z => ?_⟩, I.bs, Nat.le_trans I.ok.bsz I.sz, fun b o e hb => ?_, fun b hb z => ?_, I.stack, I.stkFree⟩
    · have key : ∀ k, cenv.kindOf y = some k → (k = .cell ∨ k = .free) → ∃ c, cenv.cells.lookup y = some c := fun k hk hk' => by
        unfold Env.kindOf at hk
        rw [hsc] at hk
        rcases hk' with rfl | rfl
        · obtain ⟨c, e⟩ := mem_lookup (PySem.mem_of_lookup hk)
          exact absurd rfl (hcellN _ (PySem.mem_of_lookup hk))
        · obtain ⟨c, h1, _⟩ := look hk
          exact ⟨c, h1⟩
      rcases hy with hy | hy
      · exact key _ hy (.inl rfl)
      · exact key _ hy (.inr rfl)
    · show b ≠ cenv.locals
      rw [hL]; exact Nat.ne_of_lt (hfp b hb).2
    · exact (hfp b hb).1.2.2.2.2.1 y c (mem e).1 z
    · rcases (hfp b hb).1.2.2.2.1 with z | z
      · exact I.ok.noex b o e z
      · exact absurd (Nat.lt_of_lt_of_le (Heap.lt_size e) (Nat.le_trans I.ok.bsz z)) (Nat.lt_irrefl _)
    · rcases List.mem_cons.mp (I.stkSub b z) with z | z
      · exact (hfp b hb).1.2.1 z
      · exact (hfp b hb).1.2.2.1 z
  refine ⟨okB, rfl, hg, Un.kept kp, ⟨m, by rw [hL]; exact hns, fun i y av e1 e2 e3 => ?_⟩, fun y c e => ?_, ?_, fun y c e => ?_, fun p hp => ?_, I.hok.kept kp, by rw [wipe_length]; exact I.len⟩
  · obtain ⟨e2, hne⟩ := wipe_some e2
    have hfr : scope.names.lookup y = some .free ∧ (cenv.kindOf y = some .cell ∨ cenv.kindOf y = some .free) := by
      have key : ∀ k, cenv.scope.names.lookup y = some k → k = .local ∨ k = .cell ∨ k = .free → scope.names.lookup y = some .free ∧ (cenv.kindOf y = some .cell ∨ cenv.kindOf y = some .free) := fun k hk hk' => by
        have hk0 := hk
        rw [hsc] at hk
        have no : ¬ (k = .local ∨ k = .cell) := fun hh => by
          rcases ok.own _ (PySem.mem_of_lookup hk) hh with e' | e'
          · obtain ⟨p, hp, hpy⟩ := List.mem_map.mp e'
            have e3 := ok.ix p hp
            have : p.1 = y := hpy
            rw [this] at e3
            exact hne (List.mem_map.mpr ⟨p, hp, nodup_ix hN e3 e1⟩)
          · exact e' (List.mem_of_getElem? e1)
        rcases hk' with rfl | rfl | rfl
        · exact absurd (.inl rfl) no
        · exact absurd (.inr rfl) no
        · exact ⟨hk, .inr hk0⟩
      have e3 : Vis cenv.scope y := e3
      rcases e3 with e3 | e3 | e3
      · exact key _ e3 (.inl rfl)
      · exact key _ e3 (.inr (.inl rfl))
      · exact key _ e3 (.inr (.inr rfl))
    obtain ⟨m, hn, hl⟩ := I.loc
    have hvis : Vis X.env.scope y := (ok.free _ (PySem.mem_of_lookup hfr.1) rfl).elim (fun k => .inr (.inl k)) (fun k => .inr (.inr k))
    obtain ⟨w, r, q⟩ := hl i y av e1 e2 hvis
    refine ⟨w, r, .inr ⟨hfr.2, ?_⟩⟩
    obtain ⟨c, h1, h2⟩ := look hfr.1
    rcases q with ⟨k, _⟩ | ⟨_, c', e', z⟩
    · have k : X.env.scope.names.lookup y = some .local := k
      rcases ok.free _ (PySem.mem_of_lookup hfr.1) rfl with k' | k' <;> rw [show X.env.scope.names.lookup y = _ from k'] at k <;> cases k
    · rw [h2] at e'; cases e'
      exact ⟨c, h1, z.keeps kp⟩
  · obtain ⟨w, z⟩ := I.cell y c (mem e).1
    exact ⟨w, z.keeps kp⟩
  · show H cenv.locals = none
    rw [hL]; exact I.hok.fresh (Nat.le_refl _)
  · exact I.freeC y c (mem e).1
  · have e : p = (a, go) := by simpa using hp
    subst e
    refine ⟨ha, I.hok.fresh (Nat.le_of_lt hga), by show a ≠ cenv.locals; rw [hL]; exact Nat.ne_of_gt hga, fun z => ?_, hgd⟩
    rcases List.mem_cons.mp (I.stkSub a z) with z | z
    · have := I.lt
      rw [← z] at this
      exact absurd (Nat.lt_trans hga this) (Nat.lt_irrefl _)
    · exact I.nofs (Nat.le_of_lt hga) z
end
end FB
namespace FB
open PySem PySem.Spec PyProof.Rows L2 GenW
theorem over_comp {A : Around} {elt it acc : Value} {e : Expr} {gens : List Comprehension} {scope : Scope} {pos : Pos} {env : Env} : A.over (.compLoop (.GeneratorExp e gens scope pos) 0 it acc env) [] = A.deeper env := by
  first
    | rfl
    | (obtain ⟨hd, d, fr, gs, u⟩ := A; simp [Around.over, Around.deeper, marksOver, frameCount, unitsOf, envsOf, guardsOf, pushEnvs, pushGuards, Code.envs, Code.env?, Code.isFrame, Code.guards, Code.isGuard, Code.weight, Code.frames, Code.isCreation, Code.isCaller, Code.cUnits])
/-- an item is handed out: a bool; the consumer ends at st -/
def yG (X : Cx) (st : Bool) (Q : VK) : Protocol := fun _ _ v s kap => ∃ (b : Bool) (H : Hp) (σ : L2.St), v = .bool b ∧ Inv X [] σ H s ∧ (if b = st then Q (.bl st) H else ∀ s' : Shared, s'.heap = s.heap → s'.os = s.os → AllBare s'.gens → kap (.send .none) s')
def pG (X : Cx) (st : Bool) (Q : VK) : Nat → Shared → Shared → Prop := fun _ _ s => ∃ (H : Hp) (σ : L2.St), Inv X [] σ H s ∧ Q (.bl (!st)) H
abbrev rG (X : Cx) (st : Bool) (Q : VK) : GenEnd := fun n s₀ r s => r = .ok .next ∧ pG X st Q n s₀ s
/-- the turns: a measure m, the turn i -/
def GStep (st : Bool) (J : It) (g : TG) (te : TE) (σ : L2.St) (vs : List Nat) (Q : VK) (W : Nat → Nat → Hp → Prop) : Prop := ∀ i m H, W i m H →
  (J.stop i H ∧ Q (.bl (!st)) H) ∨ (J.go i H ∧ ∃ Nx : Hp → Prop, (∀ H', Nx H' → ∃ m', m' < m ∧ W (i + 1) m' H') ∧ ∀ x H', J.yld i H x H' → g x (wipe σ vs) H' fun σ2 H2 => wipe σ2 vs = wipe σ vs ∧ te σ2 H2 fun v H3 => ∃ b : Bool, v = .bl b ∧ if b = st then Q (.bl st) H3 else Nx H3)
section
variable {X : Cx} {scope : Scope} {cl : List (Str × Addr)} {C : Addr} {code : Value} {fp : List Addr} {pn : List (Addr × Obj)} {s4 : Shared} {H4 : Hp} {st : Bool} {J : It} {g : TG} {te : TE} {σ : L2.St} {vs : List Nat} {Q : VK} {W : Nat → Nat → Hp → Prop}
  {elt iter : Expr} {x : Str} {px pos : Pos} {it : Addr} {tn : Nat → Heap → Prop}
theorem seg_gen (hc : X.calm = true) (hco : scope.isCoroutine = false) (T : Turn X.prog X.w X.K (.Name x px) J fp it tn)
    (hpn : ∀ b ∈ fp, ∀ p ∈ pn, p.1 ≠ b)
    (pg : PG (gCx X s4 H4 (genEnv scope cl C code builtinsNs X.env) fp pn) (.Name x px) g) (pe : PE (gCx X s4 H4 (genEnv scope cl C code builtinsNs X.env) fp pn) elt te)
    (step : GStep st J g te σ vs Q W) : ∀ (n i m : Nat) (H : Hp) (s₀ s : Shared), W i m H → m < n → Inv (gCx X s4 H4 (genEnv scope cl C code builtinsNs X.env) fp pn) [] (wipe σ vs) H s → tn i s.heap → (∀ b ∈ fp, H b = none) →
      Seg (model X.prog X.w) X.A.in1.in1 (rG (gCx X s4 H4 (genEnv scope cl C code builtinsNs X.env) fp pn) st Q) (yG (gCx X s4 H4 (genEnv scope cl C code builtinsNs X.env) fp pn) st Q) n s₀
        (.compLoop (.GeneratorExp elt [⟨.Name x px, iter, [], 0⟩] scope pos) 0 (.ref it) .none (genEnv scope cl C code builtinsNs X.env))
        ((model X.prog X.w).den (.compLoop (.GeneratorExp elt [⟨.Name x px, iter, [], 0⟩] scope pos) 0 (.ref it) .none (genEnv scope cl C code builtinsNs X.env))) [] s := by
  generalize hce : genEnv scope cl C code builtinsNs X.env = ce at pg pe ⊢
  have hce2 : ce.scope.isCoroutine = false := by rw [← hce]; exact hco
  have ov : X.A.in1.in1.over (.compLoop (.GeneratorExp elt [⟨.Name x px, iter, [], 0⟩] scope pos) 0 (.ref it) .none ce) [] = (gCx X s4 H4 ce fp pn).A := over_comp (elt := .none)
  have stat : ∀ {σ' : L2.St} {H' : Hp} {s' : Shared}, Inv (gCx X s4 H4 ce fp pn) [] σ' H' s' → (∀ b ∈ fp, H' b = none) → ∀ b ∈ fp, FpOk (gCx X s4 H4 ce fp pn) [] H' b := fun {σ' H' s'} I' hn b hb =>
    ⟨hn b hb, (I'.ok.exf b hb).1, I'.ok.exfs b hb, .inl hb, fun y c e => (I'.ok.exf b hb).2 y c e, fun p hp => hpn b hb p (by simpa using hp)⟩
  intro n
  induction n with
  | zero => intro i m H s₀ s _ hm; exact absurd hm (Nat.not_lt_zero _)
  | succ n ih =>
    intro i m H s₀ s hW hm I ht hn
    show Seg _ _ _ _ _ s₀ _ ((compTurn (.GeneratorExp elt [⟨.Name x px, iter, [], 0⟩] scope pos) 0 (.ref it) .none ce).onRaise (leaving ce)) [] s
    rw [compTurn_gen, Sem.onRaise_eq_wrap]
    refine seg_bind_wrap (wpAny_standAt ?_)
    rcases step i m H hW with ⟨stop, q⟩ | ⟨go, Nx, hNx, stp⟩
    · refine seg_bind_wrap ?_
      rw [ov]
      refine wpAny_mono (T.done (gCx X s4 H4 ce fp pn) rfl rfl rfl hc i [] s _ H (fun _ _ => False) I (stat I hn) ht stop) (fun r s1 h1 => ?_) (fun _ _ h => h.elim)
      obtain ⟨hr, I1⟩ := h1
      subst hr
      exact seg_end (.ok .next) ⟨rfl, H, _, I1, q⟩
    · refine seg_bind_wrap ?_
      rw [ov]
      refine wpAny_mono (T.item (gCx X s4 H4 ce fp pn) rfl rfl rfl hc i [] s _ H (fun _ _ => False) I (stat I hn) ht go) (fun r s1 h1 => ?_) (fun _ _ h => h.elim)
      obtain ⟨u, hr, h1⟩ := h1
      subst hr
      refine seg_bind_wrap ?_
      rw [ov]
      refine wpAny_mono h1 (fun _ s2 h2 => ?_) (fun _ _ h => h.elim)
      obtain ⟨xv, H2, I2, r2, y2, tn2, n2⟩ := h2
      have I2' := I2.pinned (stat I2 n2) (T.obj _ _ tn2)
      refine seg_bind_wrap ?_
      rw [ov]
      refine wpAny_mono (pg.run _ s2 _ H2 xv u _ I2' r2 (stp xv H2 y2)) (fun _ s3 h3 => ?_) (fun _ _ h => h.elim)
      obtain ⟨σ3, H3, I3, hw3, q3⟩ := h3
      refine seg_bind_wrap (wpAny_tests_nil ?_)
      simp only [if_true]
      have hy : ∀ v, yieldOut ce v = yieldValue v := fun v => by simp only [yieldOut, hce2, Bool.false_eq_true, if_false]
      simp only [hy]
      rw [Sem.bind_eq_wrap', Sem.bind_eq_wrap', Sem.wrap_wrap, Sem.wrap_wrap]
      refine seg_wrap ?_
      rw [ov]
      refine wpAny_mono (pe.run _ s3 σ3 H3 _ I3 q3) (fun y s5 h5 => ?_) (fun _ _ h => h.elim)
      obtain ⟨v, H5, I5, r5, b, rfl, q5⟩ := h5
      obtain rfl : y = Value.bool b := r5
      refine seg_at (seg_yield rfl rfl rfl ⟨b, H5, σ3, rfl, I5.unpinned (pins := []), ?_⟩)
      by_cases hb : b = st
      · rw [if_pos hb] at q5 ⊢
        exact q5
      · rw [if_neg hb] at q5 ⊢
        obtain ⟨m', hm', hW'⟩ := hNx H5 q5
        intro s6 e1 e2 e3
        have pin' : ∀ b ∈ fp, ∀ o, s2.heap.get? b = some o → s5.heap.get? b = some o ∧ H5 b = none := fun b hb o e =>
          let z := I5.pin (b, o) (List.mem_append_right _ (List.mem_append_right _ (mem_pinsAt hb e)))
          ⟨z.1, z.2.1⟩
        have hl : (wipe σ vs).length = σ3.length := by rw [← hw3, wipe_length]
        have I6 : Inv (gCx X s4 H4 ce fp pn) [] (wipe σ vs) H5 s6 := FB.Inv.woke ((I5.unpinned (pins := [])).weak hl (fun j v e => by
          rw [← hw3] at e
          exact (wipe_some e).1)) e1 e2 e3
        refine seg_again rfl (ih (i + 1) m' H5 s6 s6 hW' (by omega) I6 ?_ fun b hb => ?_)
        · rw [e1]
          exact T.keep _ _ _ tn2 fun b hb o e => (pin' b hb o e).1
        · obtain ⟨o, e, _⟩ := T.obj _ _ tn2 b hb
          exact (pin' b hb o e).2
theorem seg_gen0 (hc : X.calm = true) (hco : scope.isCoroutine = false) (T : Turn X.prog X.w X.K (.Name x px) J fp it tn)
    (hpn : ∀ b ∈ fp, ∀ p ∈ pn, p.1 ≠ b)
    (pg : PG (gCx X s4 H4 (genEnv scope cl C code builtinsNs X.env) fp pn) (.Name x px) g) (pe : PE (gCx X s4 H4 (genEnv scope cl C code builtinsNs X.env) fp pn) elt te)
    (step : GStep st J g te σ vs Q W) (n m : Nat) (H : Hp) (s₀ s : Shared) (hW : W 0 m H) (hm : m < n) (I : Inv (gCx X s4 H4 (genEnv scope cl C code builtinsNs X.env) fp pn) [] (wipe σ vs) H s) (ht : tn 0 s.heap) (hn : ∀ b ∈ fp, H b = none) :
      Seg (model X.prog X.w) X.A.in1.in1 (rG (gCx X s4 H4 (genEnv scope cl C code builtinsNs X.env) fp pn) st Q) (yG (gCx X s4 H4 (genEnv scope cl C code builtinsNs X.env) fp pn) st Q) n s₀
        (.compStart (.GeneratorExp elt [⟨.Name x px, iter, [], 0⟩] scope pos) 0 (.ref it) .none (genEnv scope cl C code builtinsNs X.env))
        ((model X.prog X.w).den (.compStart (.GeneratorExp elt [⟨.Name x px, iter, [], 0⟩] scope pos) 0 (.ref it) .none (genEnv scope cl C code builtinsNs X.env))) [] s := by
  have loop := seg_gen (iter := iter) (pos := pos) hc hco T hpn pg pe step n 0 m H s₀ s hW hm I ht hn
  generalize hce : genEnv scope cl C code builtinsNs X.env = ce at loop ⊢
  show Seg _ _ _ _ _ s₀ _ ((compStart (.GeneratorExp elt [⟨.Name x px, iter, [], 0⟩] scope pos) 0 (.ref it) .none ce).onRaise (leaving ce)) [] s
  unfold compStart
  rw [Sem.onRaise_eq_wrap]
  show Seg _ _ _ _ _ s₀ _ ((ask >>= _).wrap _ _ _ _) [] s
  refine seg_bind_wrap (wpAny_askSetting ?_)
  split
  · exact seg_again rfl loop
  · first
      | exact seg_bind_wrap (wpAny_rule (seg_bind_wrap (wpAny_standAt (seg_bind_wrap (T.self _ 0 s _ _ ht (seg_again rfl loop))))))
      | (refine seg_bind_wrap (wpAny_rule ?_); show Seg _ _ _ _ _ s₀ _ ((standAt iter.pos >>= _).wrap _ _ _ _) [] s; exact seg_bind_wrap (wpAny_standAt (seg_bind_wrap (T.self _ 0 s _ _ ht (seg_again rfl loop)))))
end
section
variable {P : Program} {w : World} {X : Cx} {st : Bool} {Q : VK} {A : Around} {R : Result → Shared → Prop} {a : Addr} {go : Obj} {g : Nat}
theorem next_gen (hp : X.prog = P) (hw : X.w = w) (hh : A.handled = none) (hd : A.depth < recursionLimit) (hpn : (a, go) ∈ X.pn) (hgo : ∀ h : Heap, h.get? a = some go → h.IsGen a g) {QQ : Option Value → Shared → Prop} {E : Value → Shared → Prop} (n : Nat) (s : Shared) (hg : s.heap.IsGen a g) (hl : s.heap.NoLimit)
    (hr : ∃ gs, s.gens[g]? = some gs ∧ gs.Goes (model P w) A.in1 (rG X st Q) (yG X st Q) n (.send .none) (s.setGen g .running))
    (hend : ∀ H σ s', Inv X [] σ H s' → Q (.bl (!st)) H → QQ none s')
    (hstop : ∀ H σ s', Inv X [] σ H s' → Q (.bl st) H → QQ (some (.bool st)) s')
    (hgoon : ∀ m H σ s', n = m + 1 → Inv X [] σ H s' → s'.heap.IsGen a g → s'.heap.NoLimit → (∃ gs, s'.gens[g]? = some gs ∧ gs.Goes (model P w) A.in1 (rG X st Q) (yG X st Q) m (.send .none) (s'.setGen g .running)) → QQ (some (.bool (!st))) s') :
    wpAny (model P w) A (pyNext (.ref a)) QQ E s := by
  obtain ⟨gs, hgs, hG⟩ := hr
  have hgl : g < s.gens.size := (Array.getElem?_eq_some_iff.mp hgs).1
  refine wpAny_gsz (n := g + 1) hgl (wpAny_pyNext_genexpQ (P := pG X st Q) hh hl hd hg hgs hG (fun v s₁ gs' hb hv => ?_) (fun s₁ hp h' hk => ?_))
  · intro hsz
    rw [setGen_size] at hsz
    obtain ⟨b, H, σ, rfl, I, q⟩ := hv
    have I1 : Inv X [] σ H (s₁.setGen g gs') := FB.Inv.woke I rfl rfl (allBare_setGen I.bare hb)
    by_cases e : b = st
    · rw [if_pos e] at q
      rw [e]
      exact hstop H σ _ I1 q
    · rw [if_neg e] at q
      have eb : b = !st := by cases b <;> cases st <;> first | rfl | exact absurd rfl e
      rw [eb]
      cases n with
      | zero => exact (q s₁ rfl rfl I.bare).elim
      | succ m =>
        have hx : s₁.heap.get? a = some go := (I.pin (a, go) (List.mem_append_left _ hpn)).1
        refine hgoon m H σ _ rfl I1 (hgo _ hx) I.nolimit ⟨gs', setGen_at (by omega), q _ rfl rfl (allBare_setGen I1.bare rfl)⟩
  · intro _
    obtain ⟨H, σ, I, q⟩ := hp
    refine hend H σ _ ?_ q
    have I1 : Inv X [] σ H (s₁.setGen g .finished) := FB.Inv.woke I rfl rfl (allBare_setGen I.bare rfl)
    exact I1.kept (t' := s₁.toks) hk
theorem any_loopG {X : Cx} (hp : X.prog = P) (hw : X.w = w) (hh : A.handled = none) (hd : A.depth < recursionLimit) (hpn : (a, go) ∈ X.pn) (hgo : ∀ h : Heap, h.get? a = some go → h.IsGen a g)
    (hres : ∀ b H σ s', Inv X [] σ H s' → Q (.bl b) H → R (.ok (.ret (.bool b))) s') : ∀ (n : Nat) (s : Shared), s.heap.IsGen a g → s.heap.NoLimit →
      (∃ gs, s.gens[g]? = some gs ∧ gs.Goes (model P w) A.in1.in1 (rG X true Q) (yG X true Q) n (.send .none) (s.setGen g .running)) →
      codeAny (model P w) A (.builtin "any.loop" ⟨[.ref a], []⟩) R s := by
  intro n
  induction n with
  | zero =>
    intro s hg hl hr
    refine codeAny_builtin F.entry_any_loop ?_
    rw [Around.under_plainId F.plain_any_loop _]
    show wpAny _ A.in1 (pyNext (.ref a) >>= _) _ _ s
    refine wpAny_bind (next_gen (A := A.in1) hp hw hh hd hpn hgo 0 s hg hl hr (fun H σ s' I q => ?_) (fun H σ s' I q => ?_) (fun m H σ s' e => ?_))
    · exact wpAny_bind (wpAny_rule (wpAny_pure (hres _ H σ s' I q)))
    · refine wpAny_bind (wpAny_holding (wpAny_truthy_bool ?_))
      refine wpAny_bind (wpAny_letGo ?_)
      simp only [if_true]
      exact wpAny_bind (wpAny_rule (wpAny_pure (hres _ H σ s' I q)))
    · cases e
  | succ n ih =>
    intro s hg hl hr
    refine codeAny_builtin F.entry_any_loop ?_
    rw [Around.under_plainId F.plain_any_loop _]
    show wpAny _ A.in1 (pyNext (.ref a) >>= _) _ _ s
    refine wpAny_bind (next_gen (A := A.in1) hp hw hh hd hpn hgo (n + 1) s hg hl hr (fun H σ s' I q => ?_) (fun H σ s' I q => ?_) (fun m H σ s' e I hg' hl' hr' => ?_))
    · exact wpAny_bind (wpAny_rule (wpAny_pure (hres _ H σ s' I q)))
    · refine wpAny_bind (wpAny_holding (wpAny_truthy_bool ?_))
      refine wpAny_bind (wpAny_letGo ?_)
      simp only [if_true]
      exact wpAny_bind (wpAny_rule (wpAny_pure (hres _ H σ s' I q)))
    · cases e
      refine wpAny_bind (wpAny_holding (wpAny_truthy_bool ?_))
      refine wpAny_bind (wpAny_letGo ?_)
      simp only [Bool.not_true, Bool.false_eq_true, if_false]
      exact wpAny_pure ⟨plainId_quiet F.plain_any_loop _, ih s' hg' hl' hr'⟩
end
end FB
namespace FB
open PySem PySem.Spec PyProof.Rows L2 GenW
/-- any, all of a generator expression; st: the bool at which the walk ends -/
def tGenB (st : Bool) (P : Addr) (wi : TI) (g : TG) (te : TE) (vs : List Nat) : TE := fun σ H Q => wi σ H fun J H1 => H1 P = some (TabX P) ∧ ∃ W : Nat → Nat → Hp → Prop, (∃ m, W 0 m H1) ∧ GStep st J g te σ vs Q W
section
variable {X : Cx} {pins : List (Addr × Obj)} {σ : L2.St} {H : Hp} {s : Shared} {st : Bool} {c P : Addr} {elt iter : Expr} {x : Str} {px gpos : Pos} {scope : Scope} {own : List (Str × Nat)} {wi : TI} {g : TG} {te : TE} {k : Nat} {Q : VK} {Q' : Value → Shared → Prop}
theorem room_gen {cenv : Env} (hr : Room (k + 1) X.A) : Room k (gA X cenv) := ⟨hr.hd, by have := hr.dp; show X.A.depth + 1 + 3 * k + 5 < _; omega, by have := hr.un; show X.A.units + 1 + 1 + 3 + 16 * k + 200 < _; omega⟩
theorem gen_core (hr : Room (k + 1) X.A) (hc : X.calm = true) (hN : X.N.Nodup) (TB : LamX.TabB X.base X.mg c P) (hcode : X.env.code = .ref c) (ok : BlkOk X.N X.env.scope scope own) (hsc : genC scope = true)
    (hi : PI X (.Name x px) iter wi) (hg : ∀ (s : Shared) (H : Hp) (C : Addr) (cl : List (Str × Addr)) (code : Value) (fp : List Addr) (pn : List (Addr × Obj)), PG (gCx X s H (genEnv scope cl C code builtinsNs X.env) fp pn) (.Name x px) g)
    (he : ∀ (s : Shared) (H : Hp) (C : Addr) (cl : List (Str × Addr)) (code : Value) (fp : List Addr) (pn : List (Addr × Obj)), Room k (gA X (genEnv scope cl C code builtinsNs X.env)) → PE (gCx X s H (genEnv scope cl C code builtinsNs X.env) fp pn) elt te)
    (hs : ∀ v, genFold iter X.env v = pure v) (I : Inv X pins σ H s) (h : tGenB st P wi g te (own.map (·.2)) σ H Q)
    (hQ : ∀ (XG : Cx) (a : Addr) (go : Obj) (gi n : Nat) (s5 : Shared), XG.prog = X.prog → XG.w = X.w → (a, go) ∈ XG.pn → (∀ h : Heap, h.get? a = some go → h.IsGen a gi) → s5.heap.IsGen a gi → s5.heap.NoLimit →
      (∃ gs, s5.gens[gi]? = some gs ∧ gs.Goes (model X.prog X.w) X.A.in1.in1 (rG XG st Q) (yG XG st Q) n (.send .none) (s5.setGen gi .running)) →
      (∀ b H' σ' s', Inv XG [] σ' H' s' → Q (.bl b) H' → EP X pins σ Q (.bool b) s') → Q' (.ref a) s5) :
    wpAny (model X.prog X.w) X.A (eval (.GeneratorExp elt [⟨.Name x px, iter, [], 0⟩] scope gpos) X.env) Q' X.xe s := by
  have hsc2 : scope.isCoroutine = false ∧ (∀ y ∈ scope.names, y.2 ≠ .cell) ∧ scope.names.lookup (".0" : Str) = some NameKind.local := by
    unfold genC at hsc
    simp only [Bool.and_eq_true, List.all_eq_true, decide_eq_true_eq, Bool.not_eq_true'] at hsc
    exact ⟨hsc.1.1, hsc.1.2, hsc.2⟩
  obtain ⟨hco, hcell, hdot⟩ := hsc2
  have hfree : ∀ y ∈ scope.names, y.2 = .free → ∃ c, X.env.cells.lookup y.1 = some c := fun y hy e => by
    rcases ok.free y hy e with k | k
    · exact I.ok.has _ (.inl k)
    · exact I.ok.has _ (.inr k)
  refine wpAny_GeneratorExp_make hco (closure_ok hfree) hcell hdot ok.kind (by have := hr.dp; omega) ?_ hs
  refine thn (hi.run pins s σ H _ I h) fun v s1 h1 => thn h1 fun itv s2 h2 => ?_
  obtain ⟨it, fp, tn, J, H2, rfl, I2, T, st2, f2, hP, W, ⟨m0, w0⟩, step⟩ := h2
  obtain ⟨ps, hPs, ht⟩ := (I2.hok P _ hP).1
  have sz : ∀ b ∈ fp, b < s2.heap.objs.size := fun b hb => by
    obtain ⟨o, e, _⟩ := T.obj _ _ st2 b hb
    exact Heap.lt_size e
  have cd : PySem.W.CodeHd s2.heap c P := TB.code.keeps fun b u e => I2.bk b u e
  have cont : ∀ (code : Value) (h3 : Heap) (tk : Nat) (ps' : Array Value), Heap.ExtBut P s2.heap h3 → s2.heap.objs.size ≤ h3.objs.size → h3.get? P = some { cls := .none, data := .fields ps' } → TriplesOk ps'.toList →
      wpAny (model X.prog X.w) X.A (builtinsFor X.env.globals X.env.builtins) (fun bi s₄ =>
        ∀ h', h'.Ns s₄.heap.objs.size (fun y => if y = ".0" then some (.ref it) else none) → Heap.SameBut s₄.heap.objs.size (s₄.heap.push { cls := .type "frame", data := .dict #[] }) h' →
          Q' (.ref h'.objs.size) { s₄ with
            gens := s₄.gens.push (.fresh (.compStart (.GeneratorExp elt [⟨.Name x px, iter, [], 0⟩] scope gpos) 0 (.ref it) .none (genEnv scope (cloFrom X.env.cells scope.names []) s₄.heap.objs.size code bi X.env))),
            toks := s₄.toks + 1 + 1 + 1,
            heap := h'.push { cls := .type "generator", data := .fields #[.int s₄.gens.size 0, .str "<genexpr>" (s₄.toks + 1), .str (X.env.qual ++ "<genexpr>") (s₄.toks + 1 + 1)] } }) X.xe { s2 with heap := h3, toks := tk } := by
    intro code h3 tk ps' hx hsz hP3 ht3
    obtain ⟨bm, ob, e1, e2, e3, e4, e5, e6, e7, e8⟩ := TB.bm
    have keep3 : ∀ b u, b ≠ P → s2.heap.get? b = some u → h3.get? b = some u := fun b u hb e => hx b u hb e
    refine wpAny_builtinsFor (m := X.mg) (by rw [I2.ok.glob]; exact (I2.mod.glob.keeps I2.bk).extBut hx TB.gP) e1 e2 (keep3 _ _ e4 (I2.bk _ _ e5)) e6 e7 e8 ?_
    have I3 : Inv X pins σ H2 { s2 with heap := h3, toks := tk } := inv_tabX I2 hP keep3 hP3 ht3
    generalize hs3 : ({ s2 with heap := h3, toks := tk } : Shared) = s3 at I3 ⊢
    have e3h : s3.heap = h3 := by rw [← hs3]
    have nfp : ∀ b ∈ fp, H2 b = none := fun b hb => (f2 b hb).1
    have neP : ∀ b ∈ fp, b ≠ P := fun b hb z => by
      have := nfp b hb
      rw [z, hP] at this
      cases this
    have f3 : ∀ b ∈ fp, FpOk X pins H2 b ∧ b < s3.heap.objs.size := fun b hb => ⟨f2 b hb, by rw [e3h]; exact Nat.lt_of_lt_of_le (sz b hb) hsz⟩
    have st3 : tn 0 s3.heap := T.keep _ _ _ st2 fun b hb o e => by rw [e3h]; exact keep3 b o (neP b hb) e
    intro h' hns hsb
    have hsz' : h'.objs.size = s3.heap.objs.size + 1 := by rw [hsb.1, Heap.size_push]
    generalize hgo : ({ cls := .type "generator", data := .fields #[.int s3.gens.size 0, .str "<genexpr>" (s3.toks + 1), .str (X.env.qual ++ "<genexpr>") (s3.toks + 1 + 1)] } : Obj) = go
    have keep' : ∀ b o, s3.heap.get? b = some o → h'.get? b = some o := fun b o e => hsb.extBut b o (Nat.ne_of_lt (Heap.lt_size e)) (Heap.get?_push_of_some _ e)
    have keep5 : ∀ b o, s3.heap.get? b = some o → (h'.push go).get? b = some o := fun b o e => Heap.get?_push_of_some _ (keep' b o e)
    have ha : (h'.push go).get? h'.objs.size = some go := Heap.get?_push_size _ (by rw [← hgo]; rfl)
    have hgd : ∀ v, go.data ≠ .cell v := fun v z => by rw [← hgo] at z; cases z
    have hga : s3.heap.objs.size < h'.objs.size := by omega
    have hfr : (.fresh (.compStart (.GeneratorExp elt [⟨.Name x px, iter, [], 0⟩] scope gpos) 0 (.ref it) .none (genEnv scope (cloFrom X.env.cells scope.names []) s3.heap.objs.size code builtinsNs X.env)) : GenState).bare = true := rfl
    have I5 := gen_start (h5 := h'.push go) (a := h'.objs.size) (go := go) (g' := s3.gens.push (.fresh (.compStart (.GeneratorExp elt [⟨.Name x px, iter, [], 0⟩] scope gpos) 0 (.ref it) .none (genEnv scope (cloFrom X.env.cells scope.names []) s3.heap.objs.size code builtinsNs X.env)))) (tk := s3.toks + 1 + 1 + 1) (code := code)
      I3 ok hN f3 (hns.push go) keep5 ha hga hgd (I3.bare.push hfr) hr.hd hcell
    have isg : ∀ h : Heap, h.get? h'.objs.size = some go → h.IsGen h'.objs.size s3.gens.size := fun h e => ⟨go, _, _, e, by rw [← hgo], by rw [← hgo], by rw [← hgo]⟩
    have hpn : ∀ b ∈ fp, ∀ p ∈ [(h'.objs.size, go)], p.1 ≠ b := fun b hb p hp => by
      have e : p = (h'.objs.size, go) := by simpa using hp
      rw [e]
      exact Nat.ne_of_gt (Nat.lt_trans (f3 b hb).2 hga)
    refine hQ (gCx X s3 H2 (genEnv scope (cloFrom X.env.cells scope.names []) s3.heap.objs.size code builtinsNs X.env) fp [(h'.objs.size, go)]) h'.objs.size go s3.gens.size (m0 + 1) _ rfl rfl List.mem_cons_self isg (isg _ ha) I5.nolimit ⟨_, Array.getElem?_push_size .., rfl, ?_⟩ ?_
    · have I6 := FB.Inv.woke (s' := ({ s3 with gens := s3.gens.push (.fresh (.compStart (.GeneratorExp elt [⟨.Name x px, iter, [], 0⟩] scope gpos) 0 (.ref it) .none (genEnv scope (cloFrom X.env.cells scope.names []) s3.heap.objs.size code builtinsNs X.env))), toks := s3.toks + 1 + 1 + 1, heap := h'.push go } : Shared).setGen s3.gens.size .running) I5 rfl rfl (allBare_setGen I5.bare rfl)
      exact seg_gen0 hc hco T hpn (hg _ _ _ _ _ _ _) (he _ _ _ _ _ _ _ (room_gen hr)) step (m0 + 1) m0 H2 _ _ w0 (Nat.lt_succ_self _) I6 (T.keep _ _ _ st3 fun b hb o e => keep5 b o e) nfp
    · intro b H' σ' s' I' q
      refine ⟨.bl b, H', I3.call' (ch := fp) I'.os I'.base I'.hok I'.bare fun b hb => ⟨(f3 b hb).1.2.2.2.1, (f3 b hb).1.2.1, (f3 b hb).1.2.2.2.2.1, (f3 b hb).1.2.2.2.2.2⟩, rfl, q⟩
  refine ⟨I2.nolimit, ?_⟩
  cases hf : codeAmong gpos ps.toList with
  | none =>
    refine wpAny_genexprCodeX hcode (cd.code hPs ht) (cd.tab hPs) hf fun c' h' tk hx hge hlt hco' _ htab' _ => ?_
    obtain ⟨o1, vs, f1, tf, fl, tg, inF, tx, tt, op, _, _, _, _, _, _, _, _, _, htr, _⟩ := hco'
    exact cont _ h' tk _ hx (Nat.le_trans hge (Nat.le_of_lt hlt)) htab'.2 htr
  | some cv =>
    refine wpAny_genexprCode_hit hcode (cd.code hPs ht) hf ?_
    exact cont cv s2.heap s2.toks ps (Heap.ExtBut.refl _ _) (Nat.le_refl _) hPs ht
theorem pe_anyG {p pos : Pos} (hr : Room (k + 1) X.A) (hc : X.calm = true) (hN : X.N.Nodup) (hgl : Gl X "any") (hm : X.mg "any" = none) (TB : LamX.TabB X.base X.mg c P) (hcode : X.env.code = .ref c) (hi : PI X (.Name x px) iter wi) (ok : BlkOk X.N X.env.scope scope own) (hsc : genC scope = true)
    (hg : ∀ (s : Shared) (H : Hp) (C : Addr) (cl : List (Str × Addr)) (code : Value) (fp : List Addr) (pn : List (Addr × Obj)), PG (gCx X s H (genEnv scope cl C code builtinsNs X.env) fp pn) (.Name x px) g)
    (he : ∀ (s : Shared) (H : Hp) (C : Addr) (cl : List (Str × Addr)) (code : Value) (fp : List Addr) (pn : List (Addr × Obj)), Room k (gA X (genEnv scope cl C code builtinsNs X.env)) → PE (gCx X s H (genEnv scope cl C code builtinsNs X.env) fp pn) elt te)
    (hs : ∀ v, genFold iter X.env v = pure v := by intro _; rfl)
    (he' : starEach [.GeneratorExp elt [⟨.Name x px, iter, [], 0⟩] scope gpos] X.env = (false, eval (.GeneratorExp elt [⟨.Name x px, iter, [], 0⟩] scope gpos) X.env) :: starEach [] X.env := by rfl) :
    PE X (.Call (.Name "any" p) [.GeneratorExp elt [⟨.Name x px, iter, [], 0⟩] scope gpos] [] pos) (tGenB true P wi g te (own.map (·.2))) := by
  refine ⟨fun pins s σ H Q I h => ?_⟩
  refine wpAny_Call_Name_kw (ld_blt I hgl hm boot_any ?_)
  refine PyProof.Rows.callWith_builtin1 ?_ he' (by rfl)
  rw [he']
  show wpAny _ _ (spliced ((false, eval (.GeneratorExp elt [⟨.Name x px, iter, [], 0⟩] scope gpos) X.env) :: backTo pos (starEach [] X.env))) _ _ s
  refine Calls.spliced_cons (gen_core hr hc hN TB hcode ok hsc hi hg he hs I h fun XG a go gi n s5 hp hw hpn hgo hg5 hl5 hr5 hres => ?_)
  refine Calls.spliced_nil ?_
  refine call_function_tree F.kind_any F.plain_any F.entry_any (F.args_any1 _) ?_
  unfold Builtin.«any»
  refine wpAny_bind (m := oneArg "any" _) (wpAny_pure ?_)
  refine wpAny_bind (wpAny_pyIter_gen hg5 ?_)
  exact wpAny_pure ⟨plainId_quiet F.plain_any_loop _, any_loopG hp hw hr.hd (by have := hr.dp; show X.A.depth < _; omega) hpn hgo (fun b H' σ' s' I' q => hres b H' σ' s' I' q) n s5 hg5 hl5 hr5⟩
end
end FB
namespace FB
open PySem PySem.Spec PyProof.Rows L2
abbrev Tabs (cs : List (Addr × Addr)) (H : Hp) : Prop := ∀ p ∈ cs, H p.2 = some (TabX p.2)
abbrev emptyTab : Obj := { cls := .none, data := .fields #[] }
section
variable {P : Program} {w : World} {K : PySem.W.Frag} {mg mb : Str → Option Value} {k : Nat} {fa a : Addr} {cs : List (Addr × Addr)} {fd : FuncData} {x : Str} {sp : Sp} {s₁ : Shared} {vs : List Value} {ns : List Int}
/-- the heap at the law's entry: the script (if it is not written), the tables -/
def heap0 (K : PySem.W.Frag) (a : Addr) (o : Obj) (xs : List V) (cs : List (Addr × Addr)) : Hp := fun b => if b ∈ cs.map (·.2) then some (TabX b) else if b = a ∧ K.lookup a = none then some (.frz o (.lst xs)) else none
theorem law_callX (KX : K.In s₁.heap) (gN : s₁.heap.Ns mainGlobals mg) (bN : s₁.heap.Ns builtinsNs mb) (bB : ∀ x : Str, x ≠ "__name__" → mb x = bootBuiltins x) (lim : s₁.heap.NoLimit) (g0 : s₁.gens = #[])
    (hT : ∀ p ∈ cs, s₁.heap.get? p.2 = some emptyTab) (nT : ∀ p ∈ cs, K.lookup p.2 = none) (cH : ∀ p ∈ cs, PySem.W.CodeHd s₁.heap p.1 p.2)
    (bM : ∃ (bm : Addr) (ob : Obj), mg "__builtins__" = some (.ref bm) ∧ bm ≠ builtinsNs ∧ s₁.heap.get? bm = some ob ∧ ob.cls = .type "module" ∧ ob.dict = some builtinsNs ∧ ob.data = .plain)
    (ha : s₁.heap.get? a = some { cls := .type "list", data := .seq vs.toArray }) (hi : IntsAre vs ns) (hl : ns.length ≤ sizeLine) (hr : Room k callerA)
    (F : ∀ base : Heap, K.In base → base.Ns mainGlobals mg → (∀ p ∈ cs, LamX.TabB base mg p.1 p.2) → FnOk P w K mg base CX0 k fa fd [x] sp) (bd : ∀ (s : Shared) (u : Value), BindsTo s fd ⟨[u], []⟩ [(x, u)])
    (hsp : ∀ H : Hp, Tabs cs H → SqL K H a (ns.map V.int) → sp [.ref a] H (fun v H' => v = .bl true ∧ Tabs cs H') fun _ _ _ => False) :
    codeAny (model P w) callerA (.call (.ref fa) ⟨[.ref a], []⟩) (fun r s' => r = .ok (.ret (.bool true)) ∧ OldK s₁.heap s'.heap ∧ s'.os = s₁.os ∧ AllBare s'.gens) s₁ := by
  have rv := vals_ints hi
  have lenV := hi.length
  have tabAt : ∀ b, b ∈ cs.map (·.2) → s₁.heap.get? b = some emptyTab := fun b hb => by
    obtain ⟨p, hp, e⟩ := List.mem_map.mp hb
    exact e ▸ hT p hp
  have inT : ∀ p ∈ cs, p.2 ∈ cs.map (·.2) := fun p hp => List.mem_map.mpr ⟨p, hp, rfl⟩
  have aT : a ∉ cs.map (·.2) := fun z => by
    have q := congrArg Obj.data (Option.some.inj ((tabAt a z).symm.trans ha))
    cases q
  generalize hH : heap0 K a { cls := .type "list", data := .seq vs.toArray } (ns.map V.int) cs = H
  have H_tab : Tabs cs H := fun p hp => by rw [← hH]; exact if_pos (inT p hp)
  have H_is : ∀ b u, H b = some u → (b ∈ cs.map (·.2) ∧ u = TabX b) ∨ (b = a ∧ K.lookup a = none ∧ u = .frz { cls := .type "list", data := .seq vs.toArray } (.lst (ns.map V.int))) := fun b u e => by
    rw [← hH] at e
    unfold heap0 at e
    split at e
    · rename_i hb
      exact .inl ⟨hb, (Option.some.inj e).symm⟩
    · split at e
      · rename_i hb
        exact .inr ⟨hb.1, hb.2, (Option.some.inj e).symm⟩
      · cases e
  have hok : HOk P w H s₁.heap := fun b u e => by
    rcases H_is b u e with ⟨hb, rfl⟩ | ⟨rfl, _, rfl⟩
    · exact tabX_ok (tabAt b hb) trivial
    · exact ⟨ha, by rw [List.length_map]; exact hl, vs, _, rv, ha⟩
  have hS : SqL K H a (ns.map V.int) := by
    cases hk : K.lookup a with
    | none => exact .inl (.inr ⟨{ cls := .type "list", data := .seq vs.toArray }, by rw [← hH]; exact (if_neg aT).trans (if_pos ⟨rfl, hk⟩)⟩)
    | some o =>
      have e := KX a o hk
      rw [ha] at e
      cases e
      exact .inr ⟨_, vs.toArray, _, hk, rfl, rfl, rfl, by rw [List.size_toArray, lenV]; exact hl, by simpa using rv⟩
  -- nothing but a list or an empty table is tracked
  have free : ∀ {b : Addr} {o : Obj}, s₁.heap.get? b = some o → (∀ us n, o.data ≠ .seq us n) → o.data ≠ .fields #[] → H b = none := fun {b o} e h1 h2 => by
    cases q : H b with
    | none => rfl
    | some u =>
      rcases H_is b u q with ⟨hb, _⟩ | ⟨rfl, _, _⟩
      · rw [tabAt b hb] at e
        exact absurd (congrArg Obj.data (Option.some.inj e)).symm h2
      · rw [ha] at e
        exact absurd (congrArg Obj.data (Option.some.inj e)).symm (h1 _ _)
  have nsH : ∀ {b : Addr} {m : Str → Option Value}, s₁.heap.Ns b m → (hidT s₁.heap H).Ns b m := fun {b m} ⟨o, es, ep, e, d, r⟩ =>
    ⟨o, es, ep, hidT_get e (free e (fun us n z => by rw [d] at z; cases z) fun z => by rw [d] at z; cases z), d, r⟩
  have KH : K.In (hidT s₁.heap H) := fun b o e => hidT_get (KX b o e) (by
    cases q : H b with
    | none => rfl
    | some u =>
      rcases H_is b u q with ⟨hb, _⟩ | ⟨rfl, hk, _⟩
      · obtain ⟨p, hp, ep⟩ := List.mem_map.mp hb
        rw [← ep, nT p hp] at e
        cases e
      · rw [hk] at e
        cases e)
  have TB : ∀ p ∈ cs, LamX.TabB (hidT s₁.heap H) mg p.1 p.2 := fun p hp => by
    have hTp := hT p hp
    refine ⟨?_, ?_, fun z => ?_⟩
    · obtain ⟨o, us, file, tf, flags, tg, inF, text, tt, e1, r1, r2, r3, rr⟩ := cH p hp
      refine ⟨o, us, file, tf, flags, tg, inF, text, tt, hidT_get e1 (free e1 (fun us' n z => by rw [r2] at z; cases z) fun z => ?_), r1, r2, r3, rr⟩
      rw [r2] at z
      cases z
      simp at r3
    · obtain ⟨bm, ob, b1, b2, b3, b4, b5, b6⟩ := bM
      refine ⟨bm, ob, b1, b2, fun q => ?_, fun q => ?_, hidT_get b3 (free b3 (fun us n z => by rw [b6] at z; cases z) fun z => by rw [b6] at z; cases z), b4, b5, b6⟩
      · obtain ⟨o, es, ep, e, d, _⟩ := gN
        rw [q, e] at b3
        cases b3
        rw [d] at b6
        cases b6
      · rw [q, hTp] at b3
        cases b3
        cases b6
    · obtain ⟨o, es, ep, e, d, _⟩ := gN
      rw [z, hTp] at e
      cases e
      cases d
  have e0 : Env0 P w K mg (hidT s₁.heap H) callerA [] s₁ H := ⟨rfl, ⟨KH, nsH gN, ⟨mb, nsH bN, bB⟩, let ⟨mc, h1, h2⟩ := lim; ⟨mc, nsH h1, h2⟩⟩, fun b o e => of_hidT e, Nat.le_of_eq (hidT_size _ _), trivial, fun b hb => absurd (show b ∈ ([] : List Addr) from hb) (by simp), hok, .of_eq g0⟩
  refine codeAny_mono ((F _ KH (nsH gN) TB).run callerA [] s₁ H ⟨[.ref a], []⟩ [.ref a] [.ref a] _ _ hr e0 (bd s₁ (.ref a)) (.cons rfl .nil) (hsp H H_tab hS)) fun r s' h => ?_
  cases r with
  | error e => exact False.elim h
  | ok fl =>
    cases fl with
    | next => exact False.elim h
    | brk => exact False.elim h
    | cont => exact False.elim h
    | ret u =>
      obtain ⟨v, H', os, bare, un, hok', r', q⟩ := h
      obtain ⟨rfl, hT'⟩ := q
      obtain rfl : u = Value.bool true := r'
      have stays : ∀ b o, b ∉ cs.map (·.2) → s₁.heap.get? b = some o → s'.heap.get? b = some o := fun b o nb e => by
        cases q : H b with
        | none => exact un.keep b o e q (fun z => absurd (show b ∈ ([] : List Addr) from z) (by simp)) (by simp)
        | some u =>
          rcases H_is b u q with ⟨hb, _⟩ | ⟨_, _, rfl⟩
          · exact absurd hb nb
          · have z2 := un.frzs b _ _ q
            obtain ⟨e1, _⟩ := hok b _ q
            obtain ⟨e2, _⟩ := hok' b _ z2
            rw [e] at e1
            cases e1
            exact e2
      have grown : ∀ p ∈ cs, ∃ more : Array Value, s'.heap.get? p.2 = some { cls := .none, data := .fields more } := fun p hp => by
        obtain ⟨ps, e, _⟩ := (hok' p.2 _ (hT' p hp)).1
        exact ⟨ps, e⟩
      refine ⟨rfl, ⟨fun b o e => ?_, fun b o e => ?_⟩, os, bare⟩
      · by_cases hb : b ∈ cs.map (·.2)
        · obtain ⟨p, hp, rfl⟩ := List.mem_map.mp hb
          obtain ⟨more, hm⟩ := grown p hp
          rw [hT p hp] at e
          cases e
          exact .inr (.inl ⟨((cH p hp).tab (hT p hp)).isCodeTable, rfl, #[], more, rfl, by rw [Array.empty_append]; exact hm⟩)
        · exact .inl (stays b o hb e)
      · by_cases hb : b ∈ cs.map (·.2)
        · obtain ⟨p, hp, rfl⟩ := List.mem_map.mp hb
          obtain ⟨more, hm⟩ := grown p hp
          exact ⟨_, hm⟩
        · exact ⟨o, stays b o hb e⟩
/-- what is known of the law's promise at the head's heap -/
def LawX (l : PySem.W.OpenLaw) (w : World) (K : PySem.W.Frag) (k n : Nat) (x : Str) (mg : Str → Option Value) (fa : Addr) (h : Heap) : Prop :=
  ∃ (fd : FuncData) (cs : List (Addr × Addr)) (sp : Sp), (∀ p ∈ cs, h.get? p.2 = some emptyTab) ∧ (∀ p ∈ cs, K.lookup p.2 = none) ∧ (∀ p ∈ cs, PySem.W.CodeHd h p.1 p.2) ∧ (∀ (s : Shared) (u : Value), BindsTo s fd ⟨[u], []⟩ [(x, u)]) ∧
    (∀ (H : Hp) (a : Addr) (ns : List Int), ns.length ≤ n → (∀ z ∈ ns, Builtin.Int.intBits z ≤ 1048576) → Tabs cs H → SqL K H a (ns.map V.int) → sp [.ref a] H (fun v H' => v = .bl true ∧ Tabs cs H') fun _ _ _ => False) ∧
    ∀ base : Heap, K.In base → base.Ns mainGlobals mg → (∀ p ∈ cs, LamX.TabB base mg p.1 p.2) → FnOk l.prog w K mg base CX0 k fa fd [x] sp
theorem walk_ofX {l : PySem.W.OpenLaw} {n k : Nat} {q : Program} {loose : List Str} {XP : (Str → Option Value) → Heap → Prop} {YP : World → Heap → Prop} {d : DefRec} {K : Params → PySem.W.Frag} {x : Str}
    (hn : l.most = some n) (hn2 : n ≤ sizeLine) (hdf : d.params.defaults = []) (hr : Room k callerA) (hY : ∀ (w : World) (h : Heap), YP w h → (K w.params).In h)
    (F : ∀ (w : World) (mg : Str → Option Value) (fa : Addr) (h : Heap), YP w h → (K w.params).In h → h.Ns mainGlobals mg → mg d.name = some (.ref fa) → LawX l w (K w.params) k n x mg fa h) :
    PySem.W.WalkO q loose XP YP l.row.toRowW d [] (fun f vs => PySem.call f vs) := by
  refine Att.attach_callB hn hdf fun w s₀ s₁ mg mb fa o pm cd doc a vs ns G Y ho hd hcd hmg hobj hints hlen hbits hg => ?_
  obtain ⟨fd, cs, sp, h1, h2, h3, hb, hsp, hF⟩ := F w mg fa _ Y (hY w _ Y) G.T.g hmg
  exact law_callX (hY w _ Y) G.T.g G.T.b G.T.builtins G.T.nolimit hg h1 h2 h3 G.T.bmain hobj hints (Nat.le_trans hlen hn2) hr hF hb (fun H hH hS => hsp H a ns hlen hbits hH hS)
end
end FB
namespace FB
open PySem PySem.Spec PyProof.Rows L2
theorem funC_mk {K : PySem.W.Frag} {x qual : Str} {st : Stmt} {f c : Addr} {oc : Value} {od an : Option Addr} {osl : Array (Option Value)} {kV doc pm ct : Value} (l : K.lookup f = some ⟨oc, od, .func (PySem.W.fnOf x qual (defArgs st) (defBody st) (defScope st) .none kV doc pm an (.ref c) ct), osl⟩)
    (cd : PySem.W.codeIn K (.ref c) qual = true) (kp : PySem.W.keepIn K (.ref f) = true) : FunC K x qual st f (PySem.W.fnOf x qual (defArgs st) (defBody st) (defScope st) .none kV doc pm an (.ref c) ct) c := ⟨⟨oc, od, kV, doc, pm, an, ct, osl, rfl, l, cd⟩, kp⟩
def spLawX (K : PySem.W.Frag) (cs : List (Addr × Addr)) : Sp := fun vs H Q _ => ∃ (a : Addr) (ns : List Int), vs = [.ref a] ∧ SqL K H a (ns.map V.int) ∧ ns.length ≤ 63 ∧ Tabs cs H ∧ ∀ H' : Hp, Tabs cs H' → Q (.bl true) H'
end FB
namespace FB
open PySem PySem.Spec PyProof.Rows L2
def DefAtC (K : PySem.W.Frag) (mg : Str → Option Value) (x : Str) (st : Stmt) (ps : List Str) (c : Addr) : Prop :=
  ∃ f fd, FunC K x x st f fd c ∧ mg x = some (.ref f) ∧ L2.Binds K fd ps []
theorem DefAtC.ok {P : Program} {w : World} {K : PySem.W.Frag} {mg : Str → Option Value} {base : Heap} {k : Nat} {x : Str} {st : Stmt} {ps : List Str} {sp : Sp} {c : Addr} (A : DefAtC K mg x st ps c)
    (h : ∀ f fd, FunC K x x st f fd c → FnOk P w K mg base CX0 k f fd ps sp) : DefOk P w K mg base k x ps sp := by
  obtain ⟨f, fd, F, hm, hb⟩ := A
  exact ⟨f, fd, h f fd F, hm, F.kp, hb⟩
end FB
namespace FB
open PySem PySem.Spec PyProof.Rows L2
section
variable {α : Type} {f : α → V} {l : List (Str × α)} {k j : Str} {v : α}
theorem nodup_snoc {β : Type} {xs : List β} {x : β} (h : xs.Nodup) (hx : x ∉ xs) : (xs ++ [x]).Nodup := by
  rw [List.nodup_append]
  exact ⟨h, by simp, fun a ha b hb e => hx (by rw [show b = x by simpa using hb] at e; rw [← e]; exact ha)⟩
end
end FB
namespace FB
open PySem PySem.Spec PyProof.Rows L2
inductive Kd where
  | tup | lst | fls | dic (ks : List Key) | fdi (ks : List Key) | tul | dit (ks : List (List Key)) | fdt (ks : List (List Key)) | ins (C : Addr) (fs : List Str) | tab (P : Addr)
  deriving DecidableEq
def Kd.mut : Kd → Bool
  | .tup => false
  | .fls => false
  | .tul => false
  | .tab _ => false
  | _ => true
/-- a tree without places -/
inductive U where
  | leaf (v : V)
  | node (k : Kd) (us : List U)
/-- a tree with places -/
inductive T where
  | leaf (v : V)
  | node (a : Addr) (k : Kd) (ts : List T)
def scalV : V → Bool
  | .int _ => true
  | .str _ => true
  | .bl _ => true
  | .non => true
  | .ty _ => true
  | _ => false
def T.val : T → V
  | .leaf v => v
  | .node a _ _ => .ref a
mutual
def T.er : T → U
  | .leaf v => .leaf v
  | .node _ k ts => .node k (T.erL ts)
def T.erL : List T → List U
  | [] => []
  | t :: ts => t.er :: T.erL ts
end
mutual
def T.foot : T → List Addr
  | .leaf _ => []
  | .node a k ts => if k.mut = true then a :: T.footL ts else T.footL ts
def T.footL : List T → List Addr
  | [] => []
  | t :: ts => t.foot ++ T.footL ts
end
def IsObj (K : PySem.W.Frag) (H : Hp) (a : Addr) : Kd → List V → Prop
  | .tup, vs => SqT K H a vs
  | .lst, vs => H a = some (.lst vs)
  | .fls, vs => (∃ od, H a = some (.frz od (.lst vs))) ∨ ∃ (o : Obj) (its : Array Value) (n : Nat), K.lookup a = some o ∧ o.cls = .type "list" ∧ o.dict = none ∧ o.data = .seq its n ∧ its.size ≤ sizeLine ∧ Vals vs its.toList
  | .dic ks, vs => (ks.Nodup ∧ ks.length = vs.length) ∧ H a = some (.dK (ks.zip vs))
  | .fdi ks, vs => (ks.Nodup ∧ ks.length = vs.length) ∧ ∃ od, H a = some (.frz od (.dK (ks.zip vs)))
  | .tul, vs => H a = some (.tup vs)
  | .dit ks, vs => (ks.Nodup ∧ ks.length = vs.length) ∧ H a = some (.dT (ks.zip vs))
  | .fdt ks, vs => (ks.Nodup ∧ ks.length = vs.length) ∧ ∃ od, H a = some (.frz od (.dT (ks.zip vs)))
  | .ins C fs, vs => fs.length = vs.length ∧ ∃ dx, H a = some (.ins C dx (fs.zip vs))
  | .tab P, _ => H P = some (TabX P)
mutual
def Holds (K : PySem.W.Frag) (H : Hp) : T → Prop
  | .leaf v => scalV v = true
  | .node a k ts => IsObj K H a k (ts.map T.val) ∧ HoldsL K H ts
def HoldsL (K : PySem.W.Frag) (H : Hp) : List T → Prop
  | [] => True
  | t :: ts => Holds K H t ∧ HoldsL K H ts
end
/-- an object that may change -/
def MutO (H : Hp) (b : Addr) : Prop := (∃ vs, H b = some (.lst vs)) ∨ (∃ kvs, H b = some (.dK kvs)) ∨ (∃ od kvs, H b = some (.frz od (.dK kvs))) ∨ (∃ C dx fs, H b = some (.ins C dx fs)) ∨ (∃ kvs, H b = some (.dT kvs)) ∨ ∃ od kvs, H b = some (.frz od (.dT kvs))
/-- all but what is in W stays -/
def Kp (W : Addr → Prop) (H H' : Hp) : Prop := ∀ b o, H b = some o → ¬ W b → H' b = some o
def WM (W : Addr → Prop) (H : Hp) : Prop := ∀ b, W b → MutO H b
section
variable {K : PySem.W.Frag} {H H' : Hp} {W : Addr → Prop} {fs : List T}
theorem sq_kp {a : Addr} {vs : List V} (h : SqT K H a vs) (kp : Kp W H H') (wm : WM W H) : SqT K H' a vs := by
  rcases h with (h | ⟨o, h⟩) | h
  · refine .inl (.inl (kp _ _ h fun w => ?_))
    rcases wm a w with ⟨_, m⟩ | ⟨_, m⟩ | ⟨_, _, m⟩ | ⟨_, _, _, m⟩ | ⟨_, m⟩ | ⟨_, _, m⟩ <;> rw [h] at m <;> cases m
  · refine .inl (.inr ⟨o, kp _ _ h fun w => ?_⟩)
    rcases wm a w with ⟨_, m⟩ | ⟨_, m⟩ | ⟨_, _, m⟩ | ⟨_, _, _, m⟩ | ⟨_, m⟩ | ⟨_, _, m⟩ <;> rw [h] at m <;> cases m
  · exact .inr h
theorem obj_kp {a : Addr} {k : Kd} {vs : List V} (h : IsObj K H a k vs) (kp : Kp W H H') (wm : WM W H) (nw : k.mut = true → ¬ W a) : IsObj K H' a k vs := by
  cases k with
  | tup => exact sq_kp h kp wm
  | tul =>
    have h : H a = some (.tup vs) := h
    refine kp _ _ h fun w => ?_
    rcases wm a w with ⟨_, m⟩ | ⟨_, m⟩ | ⟨_, _, m⟩ | ⟨_, _, _, m⟩ | ⟨_, m⟩ | ⟨_, _, m⟩ <;> rw [h] at m <;> cases m
  | lst => exact kp _ _ h (nw rfl)
  | fls =>
    rcases h with ⟨od, h⟩ | h
    · refine .inl ⟨od, kp _ _ h fun w => ?_⟩
      rcases wm a w with ⟨_, m⟩ | ⟨_, m⟩ | ⟨_, _, m⟩ | ⟨_, _, _, m⟩ | ⟨_, m⟩ | ⟨_, _, m⟩ <;> rw [h] at m <;> cases m
    · exact .inr h
  | dic ks => exact ⟨h.1, kp _ _ h.2 (nw rfl)⟩
  | fdi ks =>
    obtain ⟨h1, od, h2⟩ := h
    exact ⟨h1, od, kp _ _ h2 (nw rfl)⟩
  | dit ks => exact ⟨h.1, kp _ _ h.2 (nw rfl)⟩
  | fdt ks =>
    obtain ⟨h1, od, h2⟩ := h
    exact ⟨h1, od, kp _ _ h2 (nw rfl)⟩
  | ins C fs =>
    obtain ⟨h1, dx, h2⟩ := h
    exact ⟨h1, dx, kp _ _ h2 (nw rfl)⟩
  | tab P =>
    refine kp _ _ h fun w => ?_
    have h : H P = some (TabX P) := h
    rcases wm P w with ⟨_, m⟩ | ⟨_, m⟩ | ⟨_, _, m⟩ | ⟨_, _, _, m⟩ | ⟨_, m⟩ | ⟨_, _, m⟩ <;> rw [h] at m <;> cases m
theorem obj_mut {a : Addr} {k : Kd} {vs : List V} (h : IsObj K H a k vs) (m : k.mut = true) : MutO H a := by
  cases k with
  | tup => cases m
  | tul => cases m
  | fls => cases m
  | tab P => cases m
  | lst => exact .inl ⟨_, h⟩
  | dic ks => exact .inr (.inl ⟨_, h.2⟩)
  | fdi ks =>
    obtain ⟨_, od, h2⟩ := h
    exact .inr (.inr (.inl ⟨_, _, h2⟩))
  | ins C fs =>
    obtain ⟨_, dx, h2⟩ := h
    exact .inr (.inr (.inr (.inl ⟨_, _, _, h2⟩)))
  | dit ks => exact .inr (.inr (.inr (.inr (.inl ⟨_, h.2⟩))))
  | fdt ks =>
    obtain ⟨_, od, h2⟩ := h
    exact .inr (.inr (.inr (.inr (.inr ⟨_, _, h2⟩))))
mutual
theorem holds_kp (kp : Kp W H H') (wm : WM W H) : ∀ (t : T), Holds K H t → (∀ b ∈ t.foot, ¬ W b) → Holds K H' t
  | .leaf v, h, _ => h
  | .node a k ts, h, d => by
    unfold Holds at h ⊢
    unfold T.foot at d
    refine ⟨obj_kp h.1 kp wm fun m w => ?_, holdsL_kp kp wm ts h.2 fun b hb w => ?_⟩
    · rw [if_pos m] at d
      exact d a List.mem_cons_self w
    · refine d b ?_ w
      split
      · exact List.mem_cons_of_mem _ hb
      · exact hb
theorem holdsL_kp (kp : Kp W H H') (wm : WM W H) : ∀ (ts : List T), HoldsL K H ts → (∀ b ∈ T.footL ts, ¬ W b) → HoldsL K H' ts
  | [], _, _ => trivial
  | t :: ts, h, d => by
    unfold HoldsL at h ⊢
    unfold T.footL at d
    exact ⟨holds_kp kp wm t h.1 fun b hb => d b (List.mem_append_left _ hb), holdsL_kp kp wm ts h.2 fun b hb => d b (List.mem_append_right _ hb)⟩
end
mutual
theorem holds_mut : ∀ (t : T), Holds K H t → ∀ b ∈ t.foot, MutO H b
  | .leaf v, _, b, hb => by cases hb
  | .node a k ts, h, b, hb => by
    unfold Holds at h
    unfold T.foot at hb
    split at hb
    · rename_i m
      rcases List.mem_cons.mp hb with e | e
      · rw [e]
        exact obj_mut h.1 m
      · exact holdsL_mut ts h.2 b e
    · exact holdsL_mut ts h.2 b hb
theorem holdsL_mut : ∀ (ts : List T), HoldsL K H ts → ∀ b ∈ T.footL ts, MutO H b
  | [], _, b, hb => by cases hb
  | t :: ts, h, b, hb => by
    unfold HoldsL at h
    unfold T.footL at hb
    rcases List.mem_append.mp hb with e | e
    · exact holds_mut t h.1 b e
    · exact holdsL_mut ts h.2 b e
end
def U.kid (u : U) (n : Nat) : Option U := match u with
  | .leaf _ => none
  | .node _ us => us[n]?
def U.get : List Nat → U → Option U
  | [], u => some u
  | n :: π, u => match u.kid n with
    | some w => w.get π
    | none => none
def U.put : List Nat → U → U → U
  | [], _, w => w
  | _ :: _, .leaf v, _ => .leaf v
  | n :: π, .node k us, w => match us[n]? with
    | some u => .node k (us.set n (u.put π w))
    | none => .node k us
def T.kid (t : T) (n : Nat) : Option T := match t with
  | .leaf _ => none
  | .node _ _ ts => ts[n]?
def T.get : List Nat → T → Option T
  | [], t => some t
  | n :: π, t => match t.kid n with
    | some w => w.get π
    | none => none
def T.put : List Nat → T → T → T
  | [], _, w => w
  | _ :: _, .leaf v, _ => .leaf v
  | n :: π, .node a k ts, w => match ts[n]? with
    | some t => .node a k (ts.set n (t.put π w))
    | none => .node a k ts
theorem erL_map : ∀ ts : List T, T.erL ts = ts.map T.er
  | [] => rfl
  | t :: ts => by rw [T.erL, List.map_cons, erL_map ts]
theorem footL_map : ∀ ts : List T, T.footL ts = (ts.map T.foot).flatten
  | [] => rfl
  | t :: ts => by rw [T.footL, List.map_cons, List.flatten_cons, footL_map ts]
theorem holdsL_iff : ∀ ts : List T, HoldsL K H ts ↔ ∀ t ∈ ts, Holds K H t
  | [] => ⟨fun _ t ht => absurd ht (List.not_mem_nil), fun _ => trivial⟩
  | t :: ts => by
    rw [HoldsL, holdsL_iff ts]
    exact ⟨fun h x hx => (List.mem_cons.mp hx).elim (fun e => e ▸ h.1) (h.2 x), fun h => ⟨h t List.mem_cons_self, fun x hx => h x (List.mem_cons_of_mem _ hx)⟩⟩
theorem er_get : ∀ {π : List Nat} {t : T} {u : U}, t.er.get π = some u → ∃ w, t.get π = some w ∧ w.er = u
  | [], t, u, h => ⟨t, rfl, Option.some.inj h⟩
  | n :: π, .leaf v, u, h => by cases h
  | n :: π, .node a k ts, u, h => by
    rw [T.er, U.get, U.kid, erL_map] at h
    rw [List.getElem?_map] at h
    rw [T.get, T.kid]
    cases e : ts[n]? with
    | none => rw [e] at h; cases h
    | some t =>
      rw [e] at h
      exact er_get (t := t) h
theorem er_put : ∀ {π : List Nat} {t w : T}, (t.put π w).er = t.er.put π w.er
  | [], t, w => by rw [T.put, U.put]
  | n :: π, .leaf v, w => by rw [T.put, T.er, U.put]
  | n :: π, .node a k ts, w => by
    rw [T.put, T.er, U.put, erL_map, List.getElem?_map]
    cases e : ts[n]? with
    | none => rw [T.er, erL_map]; rfl
    | some t =>
      show T.er (.node a k (ts.set n (t.put π w))) = .node k ((ts.map T.er).set n (t.er.put π w.er))
      rw [T.er, erL_map, List.map_set, er_put (t := t)]
theorem split_at {α : Type} : ∀ {l : List α} {n : Nat} {x : α}, l[n]? = some x → ∃ a b, l = a ++ x :: b ∧ ∀ y, l.set n y = a ++ y :: b
  | [], n, x, h => by cases h
  | z :: l, 0, x, h => ⟨[], l, by rw [show z = x from Option.some.inj h]; rfl, fun y => rfl⟩
  | z :: l, n + 1, x, h => by
    obtain ⟨a, b, e, f⟩ := split_at (l := l) (n := n) h
    exact ⟨z :: a, b, by rw [e]; rfl, fun y => by rw [List.set_cons_succ, f]; rfl⟩
/-- what stands around a place -/
theorem put_foot : ∀ {π : List Nat} {t s : T}, t.get π = some s → ∃ L R, t.foot = L ++ s.foot ++ R ∧ ∀ w, (t.put π w).foot = L ++ w.foot ++ R
  | [], t, s, h => ⟨[], [], by rw [show t = s from Option.some.inj h]; simp, fun w => by rw [T.put]; simp⟩
  | n :: π, .leaf v, s, h => by cases h
  | n :: π, .node a k ts, s, h => by
    rw [T.get, T.kid] at h
    cases e : ts[n]? with
    | none => rw [e] at h; cases h
    | some t =>
      rw [e] at h
      obtain ⟨L, R, e1, e2⟩ := put_foot (t := t) h
      obtain ⟨x, y, e3, e4⟩ := split_at e
      refine ⟨(if k.mut = true then [a] else []) ++ (T.footL x ++ L), R ++ T.footL y, ?_, fun w => ?_⟩
      · rw [T.foot, footL_map, e3, List.map_append, List.map_cons, List.flatten_append, List.flatten_cons, e1, ← footL_map, ← footL_map]
        split <;> simp [List.append_assoc]
      · rw [T.put, e]
        show T.foot (.node a k (ts.set n (t.put π w))) = _
        rw [e4, T.foot, footL_map, List.map_append, List.map_cons, List.flatten_append, List.flatten_cons, e2, ← footL_map, ← footL_map]
        split <;> simp [List.append_assoc]
theorem put_val : ∀ {π : List Nat} {t s w : T}, t.get π = some s → w.val = s.val → (t.put π w).val = t.val
  | [], t, s, w, h, e => by rw [T.put, e, show t = s from Option.some.inj h]
  | n :: π, .leaf v, s, w, h, _ => by cases h
  | n :: π, .node a k ts, s, w, h, _ => by
    rw [T.put]
    cases e : ts[n]? with
    | none => rfl
    | some t => rfl
theorem get_holds : ∀ {π : List Nat} {t s : T}, t.get π = some s → Holds K H t → Holds K H s
  | [], t, s, h, ho => by rw [← show t = s from Option.some.inj h]; exact ho
  | n :: π, .leaf v, s, h, _ => by cases h
  | n :: π, .node a k ts, s, h, ho => by
    rw [T.get, T.kid] at h
    cases e : ts[n]? with
    | none => rw [e] at h; cases h
    | some t =>
      rw [e] at h
      rw [Holds] at ho
      exact get_holds (t := t) h ((holdsL_iff ts).mp ho.2 t (List.mem_of_getElem? e))
/-- the object at a place is changed, what is around it stays -/
theorem put_holds : ∀ {π : List Nat} {t s w : T}, t.get π = some s → w.val = s.val → Holds K H t → t.foot.Nodup → Kp (fun b => b ∈ s.foot) H H' → (∀ b ∈ s.foot, MutO H b) → Holds K H' w → Holds K H' (t.put π w)
  | [], t, s, w, h, _, _, _, _, _, hw => by rw [T.put]; exact hw
  | n :: π, .leaf v, s, w, h, _, _, _, _, _, _ => by cases h
  | n :: π, .node a k ts, s, w, h, ev, ho, nd, kp, wm, hw => by
    rw [T.get, T.kid] at h
    rw [T.put]
    cases e : ts[n]? with
    | none => rw [e] at h; cases h
    | some t =>
      rw [e] at h
      rw [Holds] at ho
      obtain ⟨x, y, e3, e4⟩ := split_at e
      obtain ⟨L, R, e1, e2⟩ := put_foot (t := t) h
      have hT : Holds K H t := (holdsL_iff ts).mp ho.2 t (List.mem_of_getElem? e)
      rw [T.foot, footL_map, e3, List.map_append, List.map_cons, List.flatten_append, List.flatten_cons, ← footL_map, ← footL_map, e1] at nd
      have nd2 : (T.footL x ++ ((L ++ s.foot ++ R) ++ T.footL y)).Nodup := by
        split at nd
        · exact (List.nodup_cons.mp nd).2
        · exact nd
      have na : k.mut = true → ¬ a ∈ s.foot := fun m hm => by
        rw [if_pos m] at nd
        exact (List.nodup_cons.mp nd).1 (by simp [hm])
      have nx : ∀ b ∈ T.footL x, ¬ b ∈ s.foot := fun b hb hs => by
        have := (List.nodup_append.mp nd2).2.2 b hb b (by simp [hs])
        exact this rfl
      have ny : ∀ b ∈ T.footL y, ¬ b ∈ s.foot := fun b hb hs => by
        have h1 := (List.nodup_append.mp nd2).2.1
        have := (List.nodup_append.mp h1).2.2 b (by simp [hs]) b hb
        exact this rfl
      have ndt : t.foot.Nodup := by
        rw [e1]
        have h1 := (List.nodup_append.mp nd2).2.1
        exact (List.nodup_append.mp h1).1
      show Holds K H' (.node a k (ts.set n (t.put π w)))
      rw [Holds, e4]
      have hv : (t.put π w).val = t.val := put_val h ev
      refine ⟨?_, ?_⟩
      · have : (x ++ t.put π w :: y).map T.val = ts.map T.val := by rw [e3, List.map_append, List.map_append, List.map_cons, List.map_cons, hv]
        rw [this]
        exact obj_kp ho.1 kp wm na
      · rw [holdsL_iff]
        rw [e3] at ho
        have hl := (holdsL_iff _).mp ho.2
        intro q hq
        rcases List.mem_append.mp hq with hq | hq
        · refine holds_kp kp wm q (hl q (List.mem_append_left _ hq)) fun b hb => nx b ?_
          rw [footL_map]
          exact List.mem_flatten.mpr ⟨_, List.mem_map.mpr ⟨q, hq, rfl⟩, hb⟩
        · rcases List.mem_cons.mp hq with hq | hq
          · rw [hq]
            exact put_holds (t := t) h ev hT ndt kp wm hw
          · refine holds_kp kp wm q (hl q (List.mem_append_right _ (List.mem_cons_of_mem _ hq))) fun b hb => ny b ?_
            rw [footL_map]
            exact List.mem_flatten.mpr ⟨_, List.mem_map.mpr ⟨q, hq, rfl⟩, hb⟩
theorem nodup_count {l : List Addr} : l.Nodup ↔ ∀ a, l.count a ≤ 1 := by
  induction l with
  | nil => simp
  | cons x l ih =>
    rw [List.nodup_cons, ih]
    constructor
    · rintro ⟨h1, h2⟩ a
      rw [List.count_cons]
      by_cases e : x = a
      · subst e
        rw [List.count_eq_zero_of_not_mem h1]
        simp
      · have := h2 a
        simp [e]
        exact this
    · intro h
      refine ⟨fun hm => ?_, fun a => ?_⟩
      · have h1 := h x
        rw [List.count_cons] at h1
        have h2 := List.count_pos_iff.mpr hm
        simp at h1
        omega
      · have h1 := h a
        rw [List.count_cons] at h1
        omega
mutual
def U.imm : U → Bool
  | .leaf _ => true
  | .node k us => !k.mut && U.immL us
def U.immL : List U → Bool
  | [] => true
  | u :: us => u.imm && U.immL us
end
mutual
theorem imm_foot : ∀ t : T, t.er.imm = true → t.foot = []
  | .leaf v, _ => by rw [T.foot]
  | .node a k ts, h => by
    rw [T.er, U.imm, Bool.and_eq_true] at h
    rw [T.foot, if_neg (by intro m; rw [m] at h; exact absurd h.1 (by decide)), immL_foot ts h.2]
theorem immL_foot : ∀ ts : List T, U.immL (T.erL ts) = true → T.footL ts = []
  | [], _ => by rw [T.footL]
  | t :: ts, h => by
    rw [T.erL, U.immL, Bool.and_eq_true] at h
    rw [T.footL, imm_foot t h.1, immL_foot ts h.2]
    rfl
end
inductive Sl where
  | no
  | val (u : U)
  | ref (j : Nat) (π : List Nat)
  | fref (j : Nat) (π : List Nat)
structure Env where
  np : Nat
  fz : List U
  st : List U
  sl : List Sl
  tp : List Sl
def SlAt (K : PySem.W.Frag) (fs : List T) (H : Hp) (ts : List T) : Sl → Option V → Prop
  | .no, _ => True
  | .val u, v => ∃ t : T, v = some t.val ∧ t.er = u ∧ Holds K H t ∧ t.foot = []
  | .ref j π, v => ∃ tj s : T, ts[j]? = some tj ∧ tj.get π = some s ∧ v = some s.val
  | .fref j π, v => ∃ tj s : T, fs[j]? = some tj ∧ tj.get π = some s ∧ v = some s.val
structure EnvAt (K : PySem.W.Frag) (fs : List T) (e : Env) (σ : L2.St) (τ : List V) (H : Hp) (ts : List T) : Prop where
  er : T.erL ts = e.st
  ho : HoldsL K H ts
  nd : (T.footL ts).Nodup
  fe : T.erL fs = e.fz
  fh : HoldsL K H fs
  fd : ∀ b ∈ T.footL fs, b ∉ T.footL ts
  lσ : σ.length = e.sl.length
  lτ : τ.length = e.tp.length
  sl : ∀ (i : Nat) (s : Sl), e.sl[i]? = some s → ∃ v, σ[i]? = some v ∧ SlAt K fs H ts s v
  tp : ∀ (i : Nat) (s : Sl), e.tp[i]? = some s → ∃ v, τ[i]? = some v ∧ SlAt K fs H ts s (some v)
/-- the first np trees stay where they are -/
def Rv (np : Nat) (ts ts' : List T) : Prop := ∀ (j : Nat) (t : T), j < np → ts[j]? = some t → ∃ t', ts'[j]? = some t' ∧ t'.val = t.val
theorem Rv.refl (np : Nat) (ts : List T) : Rv np ts ts := fun _ t _ h => ⟨t, h, rfl⟩
theorem Rv.trans {np : Nat} {a b c : List T} (h : Rv np a b) (k : Rv np b c) : Rv np a c := fun j t hj ht => by
  obtain ⟨t1, h1, e1⟩ := h j t hj ht
  obtain ⟨t2, h2, e2⟩ := k j t1 hj h1
  exact ⟨t2, h2, e2.trans e1⟩
def Goes (K : PySem.W.Frag) (fs : List T) (np : Nat) (H : Hp) (ts : List T) (e' : Env) (σ' : L2.St) (τ' : List V) (H' : Hp) : Prop := e'.np = np ∧ ∃ ts', EnvAt K fs e' σ' τ' H' ts' ∧ (∀ b ∈ T.footL ts', b ∈ T.footL ts ∨ H b = none) ∧ Kp (fun b => b ∈ T.footL ts) H H' ∧ Rv np ts ts'
theorem Kp.refl (W : Addr → Prop) (H : Hp) : Kp W H H := fun _ _ h _ => h
theorem Kp.trans {W1 W2 : Addr → Prop} {H1 H2 H3 : Hp} (a : Kp W1 H1 H2) (b : Kp W2 H2 H3) (s : ∀ x, W2 x → W1 x ∨ H1 x = none) : Kp W1 H1 H3 := fun x o h n => b x o (a x o h n) fun w => by
  rcases s x w with h1 | h1
  · exact n h1
  · rw [h] at h1; cases h1
theorem EnvAt.wm {e : Env} {σ : L2.St} {τ : List V} {ts : List T} (E : EnvAt K fs e σ τ H ts) : WM (fun b => b ∈ T.footL ts) H := fun b hb => holdsL_mut ts E.ho b hb
theorem MutO.some {b : Addr} (m : MutO H b) : H b ≠ none := by
  rcases m with ⟨_, m⟩ | ⟨_, m⟩ | ⟨_, _, m⟩ | ⟨_, _, _, m⟩ | ⟨_, m⟩ | ⟨_, _, m⟩ <;> rw [m] <;> intro z <;> cases z
theorem Goes.trans {np : Nat} {ts : List T} {e2 : Env} {σ2 : L2.St} {τ2 : List V} {H1 H2 : Hp} {ts1 : List T} (f1 : ∀ b ∈ T.footL ts1, b ∈ T.footL ts ∨ H b = none) (k1 : Kp (fun b => b ∈ T.footL ts) H H1) (r1 : Rv np ts ts1) (g2 : Goes K fs np H1 ts1 e2 σ2 τ2 H2) : Goes K fs np H ts e2 σ2 τ2 H2 := by
  obtain ⟨n2, ts2, E2, f2, k2, r2⟩ := g2
  refine ⟨n2, ts2, E2, fun b hb => ?_, k1.trans k2 f1, r1.trans r2⟩
  rcases f2 b hb with h | h
  · exact f1 b h
  · cases e : H b with
    | none => exact .inr rfl
    | some o =>
      refine .inl (Decidable.byContradiction fun n => ?_)
      rw [k1 b o e n] at h
      cases h
theorem Goes.refl {e : Env} {σ : L2.St} {τ : List V} {ts : List T} (E : EnvAt K fs e σ τ H ts) : Goes K fs e.np H ts e σ τ H := ⟨rfl, ts, E, fun _ h => .inl h, Kp.refl _ _, Rv.refl _ _⟩
/-- nothing that may change was changed: new things only -/
theorem SlAt.kp {W : Addr → Prop} {ts : List T} {s : Sl} {v : Option V} (h : SlAt K fs H ts s v) (kp : Kp W H H') (wm : WM W H) : SlAt K fs H' ts s v := by
  cases s with
  | no => trivial
  | val u =>
    obtain ⟨t, e1, e2, h1, h2⟩ := h
    exact ⟨t, e1, e2, holds_kp kp wm t h1 (by rw [h2]; intro b hb; cases hb), h2⟩
  | ref j π => exact h
  | fref j π => exact h
theorem EnvAt.same {e : Env} {σ : L2.St} {τ : List V} {ts : List T} (E : EnvAt K fs e σ τ H ts) (s : Same H H') : EnvAt K fs e σ τ H' ts := by
  have kp : Kp (fun _ => False) H H' := fun b o h _ => s b o h
  have wm : WM (fun _ => False) H := fun _ h => h.elim
  exact ⟨E.er, holdsL_kp kp wm ts E.ho fun _ _ h => h, E.nd, E.fe, holdsL_kp kp wm fs E.fh fun _ _ h => h, E.fd, E.lσ, E.lτ, fun i z h => by obtain ⟨v, h1, h2⟩ := E.sl i z h; exact ⟨v, h1, h2.kp kp wm⟩, fun i z h => by obtain ⟨v, h1, h2⟩ := E.tp i z h; exact ⟨v, h1, h2.kp kp wm⟩⟩
theorem EnvAt.push {e : Env} {σ : L2.St} {τ : List V} {ts : List T} (E : EnvAt K fs e σ τ H ts) {s : Sl} {v : V} (h : SlAt K fs H ts s (some v)) : EnvAt K fs { e with tp := s :: e.tp } σ (v :: τ) H ts :=
  ⟨E.er, E.ho, E.nd, E.fe, E.fh, E.fd, E.lσ, by simp [E.lτ], E.sl, fun i z hz => by
    cases i with
    | zero =>
      rw [← show s = z from Option.some.inj hz]
      exact ⟨v, rfl, h⟩
    | succ i => exact E.tp i z hz⟩
theorem EnvAt.pop {np : Nat} {fz st : List U} {sl tp : List Sl} {s : Sl} {σ : L2.St} {τ : List V} {v : V} {ts : List T} (E : EnvAt K fs ⟨np, fz, st, sl, s :: tp⟩ σ (v :: τ) H ts) : EnvAt K fs ⟨np, fz, st, sl, tp⟩ σ τ H ts ∧ SlAt K fs H ts s (some v) := by
  refine ⟨⟨E.er, E.ho, E.nd, E.fe, E.fh, E.fd, E.lσ, by have := E.lτ; simpa using this, E.sl, fun i z hz => E.tp (i + 1) z hz⟩, ?_⟩
  obtain ⟨v', h1, h2⟩ := E.tp 0 s rfl
  rw [show v' = v from (Option.some.inj h1).symm] at h2
  exact h2
end
end FB
namespace FB
open PySem PySem.Spec PyProof.Rows L2
section
variable {K : PySem.W.Frag} {H H' : Hp} {fs : List T}
def strip : List Nat → List Nat → Option (List Nat)
  | [], κ => some κ
  | _ :: _, [] => none
  | a :: π, b :: κ => if a = b then strip π κ else none
theorem get_put : ∀ {π : List Nat} {t s w : T}, t.get π = some s → w.val = s.val → ∀ (π' : List Nat) (r : T), t.get π' = some r →
    (strip π π' = none → ∃ r', (t.put π w).get π' = some r' ∧ r'.val = r.val) ∧ ∀ κ, strip π π' = some κ → (t.put π w).get π' = w.get κ ∧ s.get κ = some r
  | [], t, s, w, h, _, π', r, hr => by
    refine ⟨fun z => (by cases z), fun κ z => ?_⟩
    rw [← show π' = κ from Option.some.inj z, T.put, ← show t = s from Option.some.inj h]
    exact ⟨rfl, hr⟩
  | n :: π, .leaf v, s, w, h, _, _, _, _ => by cases h
  | n :: π, .node a k ts, s, w, h, ev, π', r, hr => by
    have h0 := h
    rw [T.get, T.kid] at h
    cases e : ts[n]? with
    | none => rw [e] at h; cases h
    | some t =>
      rw [e] at h
      have ep : T.put (n :: π) (.node a k ts) w = .node a k (ts.set n (t.put π w)) := by rw [T.put, e]
      cases π' with
      | nil =>
        refine ⟨fun _ => ⟨_, rfl, ?_⟩, fun κ z => (by cases z)⟩
        rw [put_val h0 ev]
        rw [← show T.node a k ts = r from Option.some.inj hr]
      | cons m π' =>
        rw [ep]
        rw [T.get, T.kid] at hr
        by_cases hm : n = m
        · subst hm
          rw [e] at hr
          have hl : n < ts.length := (List.getElem?_eq_some_iff.mp e).1
          have hg : ∀ κ, T.get (n :: κ) (.node a k (ts.set n (t.put π w))) = (t.put π w).get κ := fun κ => by
            rw [T.get, T.kid, List.getElem?_set_self hl]
          rw [hg, strip, if_pos rfl]
          exact get_put (t := t) h ev π' r hr
        · have hg : T.get (m :: π') (.node a k (ts.set n (t.put π w))) = T.get (m :: π') (.node a k ts) := by
            rw [T.get, T.get, T.kid, T.kid, List.getElem?_set_ne hm]
          rw [hg, strip, if_neg hm]
          exact ⟨fun _ => ⟨r, by rw [T.get, T.kid]; exact hr, rfl⟩, fun κ z => (by cases z)⟩
/-- references below the place: those that ok lets stay -/
def kl (j : Nat) (π : List Nat) (ok : List Nat → Bool) : Sl → Sl
  | .ref j' π' => if j' = j then (match strip π π' with
    | some κ => if ok κ = true then .ref j' π' else .no
    | none => .ref j' π') else .ref j' π'
  | s => s
theorem kl_same {j : Nat} {π π' : List Nat} {ok : List Nat → Bool} : kl j π ok (.ref j π') = (match strip π π' with
    | some κ => if ok κ = true then .ref j π' else .no
    | none => .ref j π') := if_pos rfl
theorem kl_other {j j' : Nat} {π π' : List Nat} {ok : List Nat → Bool} (h : j' ≠ j) : kl j π ok (.ref j' π') = .ref j' π' := if_neg h
theorem erL_set (ts : List T) (j : Nat) (t : T) : T.erL (ts.set j t) = (T.erL ts).set j t.er := by rw [erL_map, erL_map, List.map_set]
theorem footL_split {ts : List T} {j : Nat} {t : T} (h : ts[j]? = some t) : ∃ L R, T.footL ts = L ++ t.foot ++ R ∧ ∀ w : T, T.footL (ts.set j w) = L ++ w.foot ++ R := by
  obtain ⟨x, y, e3, e4⟩ := split_at h
  refine ⟨T.footL x, T.footL y, ?_, fun w => ?_⟩
  · rw [e3, footL_map, List.map_append, List.map_cons, List.flatten_append, List.flatten_cons, ← footL_map, ← footL_map, List.append_assoc]
  · rw [e4, footL_map, List.map_append, List.map_cons, List.flatten_append, List.flatten_cons, ← footL_map, ← footL_map, List.append_assoc]
variable {e : Env} {σ : L2.St} {τ : List V} {ts : List T}
theorem SlAt.mod {j : Nat} {π : List Nat} {t s w : T} {ok : List Nat → Bool} {z : Sl} {v : Option V} (h : SlAt K fs H ts z v) (kp : Kp (fun b => b ∈ s.foot) H H') (wm : WM (fun b => b ∈ s.foot) H) (hj : ts[j]? = some t) (hg : t.get π = some s) (hv : w.val = s.val) (hok : ∀ κ r, ok κ = true → s.get κ = some r → ∃ r', w.get κ = some r' ∧ r'.val = r.val) : SlAt K fs H' (ts.set j (t.put π w)) (kl j π ok z) v := by
  cases z with
  | no => trivial
  | val u => exact SlAt.kp h kp wm
  | fref j' π' => exact h
  | ref j' π' =>
    obtain ⟨tj, q, h1, h2, h3⟩ := h
    have hl : j < ts.length := (List.getElem?_eq_some_iff.mp hj).1
    by_cases hjj : j' = j
    · subst hjj
      rw [kl_same]
      rw [hj] at h1
      obtain rfl : t = tj := Option.some.inj h1
      have key := get_put hg hv π' q h2
      cases hs : strip π π' with
      | none =>
        obtain ⟨r', e1, e2⟩ := key.1 hs
        exact ⟨_, r', List.getElem?_set_self hl, e1, by rw [e2]; exact h3⟩
      | some κ =>
        obtain ⟨e1, e2⟩ := key.2 κ hs
        by_cases ho : ok κ = true
        · show SlAt K fs H' _ (if ok κ = true then Sl.ref j' π' else Sl.no) v
          rw [if_pos ho]
          obtain ⟨r', e3, e4⟩ := hok κ q ho e2
          exact ⟨_, r', List.getElem?_set_self hl, by rw [e1, e3], by rw [e4]; exact h3⟩
        · show SlAt K fs H' _ (if ok κ = true then Sl.ref j' π' else Sl.no) v
          rw [if_neg ho]
          trivial
    · rw [kl_other hjj]
      exact ⟨tj, q, by rw [List.getElem?_set_ne (fun z => hjj z.symm)]; exact h1, h2, h3⟩
theorem EnvAt.mod {j : Nat} {π : List Nat} {t s w : T} {ok : List Nat → Bool} (E : EnvAt K fs e σ τ H ts) (hj : ts[j]? = some t) (hg : t.get π = some s) (hv : w.val = s.val) (kp : Kp (fun b => b ∈ s.foot) H H') (hw : Holds K H' w) (nw : w.foot.Nodup) (fw : ∀ b ∈ w.foot, b ∈ s.foot ∨ (b ∉ T.footL ts ∧ b ∉ T.footL fs)) (hok : ∀ κ r, ok κ = true → s.get κ = some r → ∃ r', w.get κ = some r' ∧ r'.val = r.val) :
    EnvAt K fs { e with st := e.st.set j (t.er.put π w.er), sl := e.sl.map (kl j π ok), tp := e.tp.map (kl j π ok) } σ τ H' (ts.set j (t.put π w)) ∧ (∀ b ∈ T.footL (ts.set j (t.put π w)), b ∈ T.footL ts ∨ b ∈ w.foot) ∧ Kp (fun b => b ∈ T.footL ts) H H' ∧ Rv e.np ts (ts.set j (t.put π w)) := by
  obtain ⟨L, R, e1, e2⟩ := footL_split hj
  obtain ⟨L2, R2, e3, e4⟩ := put_foot hg
  have hT : Holds K H t := (holdsL_iff ts).mp E.ho t (List.mem_of_getElem? hj)
  have wms : WM (fun b => b ∈ s.foot) H := fun b hb => holds_mut s (get_holds hg hT) b hb
  have hsub : ∀ b ∈ s.foot, b ∈ T.footL ts := fun b hb => by rw [e1, e3]; simp [hb]
  have hnd := nodup_count.mp E.nd
  have ndt : t.foot.Nodup := by
    rw [nodup_count]
    intro a
    have := hnd a
    rw [e1] at this
    simp only [List.count_append] at this
    omega
  refine ⟨⟨?_, ?_, ?_, E.fe, holdsL_kp kp wms fs E.fh fun b hb hs => E.fd b hb (hsub b hs), fun b hb hm => ?_, ?_, ?_, ?_, ?_⟩, ?_, fun b o hb n => kp b o hb fun z => n (hsub b z), fun i x _ hx => ?_⟩
  · rw [erL_set, E.er, er_put]
  · rw [holdsL_iff]
    obtain ⟨x, y, e5, e6⟩ := split_at hj
    have hl := (holdsL_iff ts).mp E.ho
    rw [e6]
    have cnt : ∀ b, (T.footL x).count b + (t.foot.count b + (T.footL y).count b) ≤ 1 := fun b => by
      have h1 := hnd b
      rw [e5, footL_map, List.map_append, List.map_cons, List.flatten_append, List.flatten_cons, ← footL_map, ← footL_map, List.count_append, List.count_append] at h1
      exact h1
    have hst : ∀ b ∈ s.foot, 0 < t.foot.count b := fun b hb => List.count_pos_iff.mpr (by rw [e3]; simp [hb])
    intro q hq
    rcases List.mem_append.mp hq with hq | hq
    · refine holds_kp kp wms q (hl q (by rw [e5]; exact List.mem_append_left _ hq)) fun b hb hs => ?_
      have h1 := cnt b
      have h2 := hst b hs
      have h3 : 0 < (T.footL x).count b := List.count_pos_iff.mpr (by rw [footL_map]; exact List.mem_flatten.mpr ⟨_, List.mem_map.mpr ⟨q, hq, rfl⟩, hb⟩)
      omega
    · rcases List.mem_cons.mp hq with hq | hq
      · rw [hq]
        exact put_holds hg hv hT ndt kp wms hw
      · refine holds_kp kp wms q (hl q (by rw [e5]; exact List.mem_append_right _ (List.mem_cons_of_mem _ hq))) fun b hb hs => ?_
        have h1 := cnt b
        have h2 := hst b hs
        have h3 : 0 < (T.footL y).count b := List.count_pos_iff.mpr (by rw [footL_map]; exact List.mem_flatten.mpr ⟨_, List.mem_map.mpr ⟨q, hq, rfl⟩, hb⟩)
        omega
  · rw [nodup_count]
    intro a
    have h1 := hnd a
    have h2 := nodup_count.mp nw a
    rw [e2, e4]
    rw [e1, e3] at h1
    simp only [List.count_append] at h1 ⊢
    by_cases ha : a ∈ w.foot
    · rcases fw a ha with h3 | h3
      · have := List.count_pos_iff.mpr h3
        omega
      · have hz : (T.footL ts).count a = 0 := List.count_eq_zero_of_not_mem h3.1
        rw [e1, e3] at hz
        simp only [List.count_append] at hz
        omega
    · have := List.count_eq_zero_of_not_mem ha
      omega
  · rw [e2, e4] at hm
    have h9 := E.fd b hb
    rw [e1, e3] at h9
    simp only [List.mem_append] at hm h9
    rcases hm with (h | (h | h) | h) | h
    · exact h9 (.inl (.inl h))
    · exact h9 (.inl (.inr (.inl (.inl h))))
    · rcases fw b h with h | h
      · exact h9 (.inl (.inr (.inl (.inr h))))
      · exact h.2 hb
    · exact h9 (.inl (.inr (.inr h)))
    · exact h9 (.inr h)
  · rw [List.length_map]
    exact E.lσ
  · rw [List.length_map]
    exact E.lτ
  · intro i z hz
    rw [List.getElem?_map] at hz
    obtain ⟨z0, hz0, rfl⟩ := Option.map_eq_some_iff.mp hz
    obtain ⟨v, h1, h2⟩ := E.sl i z0 hz0
    exact ⟨v, h1, h2.mod kp wms hj hg hv hok⟩
  · intro i z hz
    rw [List.getElem?_map] at hz
    obtain ⟨z0, hz0, rfl⟩ := Option.map_eq_some_iff.mp hz
    obtain ⟨v, h1, h2⟩ := E.tp i z0 hz0
    exact ⟨v, h1, h2.mod kp wms hj hg hv hok⟩
  · intro b hb
    rw [e2, e4] at hb
    rw [e1, e3]
    simp only [List.mem_append] at hb ⊢
    rcases hb with (h | (h | h) | h) | h
    · exact .inl (.inl (.inl h))
    · exact .inl (.inl (.inr (.inl (.inl h))))
    · exact .inr h
    · exact .inl (.inl (.inr (.inr h)))
    · exact .inl (.inr h)
  · by_cases hi : j = i
    · subst hi
      rw [hj] at hx
      obtain rfl : t = x := Option.some.inj hx
      exact ⟨_, List.getElem?_set_self (List.getElem?_eq_some_iff.mp hj).1, put_val hg hv⟩
    · exact ⟨x, by rw [List.getElem?_set_ne hi]; exact hx, rfl⟩
/-- a tree is taken out -/
def gone (j : Nat) : Sl → Sl := kl j [] (fun _ => false)
theorem gone_ref {j j' : Nat} {π : List Nat} : gone j (.ref j' π) = if j' = j then .no else .ref j' π := by
  unfold gone
  by_cases h : j' = j
  · subst h
    rw [kl_same, if_pos rfl]
    rfl
  · rw [kl_other h, if_neg h]
theorem SlAt.gone {j : Nat} {z : Sl} {v : Option V} {t : T} (h : SlAt K fs H ts z v) : SlAt K fs H (ts.set j t) (FB.gone j z) v := by
  cases z with
  | no => trivial
  | val u => exact h
  | fref j' π => exact h
  | ref j' π =>
    rw [gone_ref]
    split
    · trivial
    · rename_i hn
      obtain ⟨tj, q, h1, h2⟩ := h
      exact ⟨tj, q, by rw [List.getElem?_set_ne fun z => hn z.symm]; exact h1, h2⟩
theorem EnvAt.detach {j : Nat} {c : T} (E : EnvAt K fs e σ τ H ts) (hj : ts[j]? = some c) (hn : e.np ≤ j) :
    EnvAt K fs { e with st := e.st.set j (.leaf (.bl false)), sl := e.sl.map (gone j), tp := e.tp.map (gone j) } σ τ H (ts.set j (.leaf (.bl false))) ∧ Holds K H c ∧ (c.foot ++ T.footL (ts.set j (.leaf (.bl false)))).Nodup ∧ (∀ b ∈ c.foot ++ T.footL (ts.set j (.leaf (.bl false))), b ∈ T.footL ts) ∧ Rv e.np ts (ts.set j (.leaf (.bl false))) := by
  obtain ⟨L, R, e1, e2⟩ := footL_split hj
  have e3 : T.footL (ts.set j (.leaf (.bl false))) = L ++ R := by
    rw [e2, T.foot]
    simp
  have hnd := nodup_count.mp E.nd
  have hcn : (c.foot ++ T.footL (ts.set j (.leaf (.bl false)))).Nodup := by
    rw [nodup_count, e3]
    intro a
    have h1 := hnd a
    rw [e1] at h1
    simp only [List.count_append] at h1 ⊢
    omega
  refine ⟨⟨by rw [erL_set, E.er, T.er], ?_, (List.nodup_append.mp hcn).2.1, E.fe, E.fh, fun b hb hm => E.fd b hb (by rw [e3] at hm; rw [e1]; simp only [List.mem_append] at hm ⊢; exact hm.elim (fun h => .inl (.inl h)) .inr), by rw [List.length_map]; exact E.lσ, by rw [List.length_map]; exact E.lτ, fun i z hz => ?_, fun i z hz => ?_⟩, (holdsL_iff ts).mp E.ho c (List.mem_of_getElem? hj), hcn, fun b hb => ?_, fun i t hi ht => ⟨t, by rw [List.getElem?_set_ne (by omega)]; exact ht, rfl⟩⟩
  · rw [holdsL_iff]
    intro q hq
    rcases List.mem_or_eq_of_mem_set hq with hq | hq
    · exact (holdsL_iff ts).mp E.ho q hq
    · rw [hq, Holds]
      rfl
  · rw [List.getElem?_map] at hz
    obtain ⟨z0, hz0, rfl⟩ := Option.map_eq_some_iff.mp hz
    obtain ⟨v, h1, h2⟩ := E.sl i z0 hz0
    exact ⟨v, h1, h2.gone⟩
  · rw [List.getElem?_map] at hz
    obtain ⟨z0, hz0, rfl⟩ := Option.map_eq_some_iff.mp hz
    obtain ⟨v, h1, h2⟩ := E.tp i z0 hz0
    exact ⟨v, h1, h2.gone⟩
  · rw [e3] at hb
    rw [e1]
    simp only [List.mem_append] at hb ⊢
    rcases hb with h | h | h
    · exact .inl (.inr h)
    · exact .inl (.inl h)
    · exact .inr h
/-- what is at hand first is taken, to be part of something -/
def takeTop (e : Env) : Option (U × Env) := match e.tp with
  | .val u :: tp => some (u, { e with tp := tp })
  | .ref j [] :: tp => if e.np ≤ j then (match e.st[j]? with
    | some u => some (u, { e with st := e.st.set j (.leaf (.bl false)), sl := e.sl.map (gone j), tp := tp.map (gone j) })
    | none => none) else none
  | _ => none
theorem EnvAt.take1 {u : U} {e1 : Env} {v : V} (E : EnvAt K fs e σ (v :: τ) H ts) (h : takeTop e = some (u, e1)) :
    e1.np = e.np ∧ ∃ ts1 c, EnvAt K fs e1 σ τ H ts1 ∧ c.val = v ∧ c.er = u ∧ Holds K H c ∧ (c.foot ++ T.footL ts1).Nodup ∧ (∀ b ∈ c.foot ++ T.footL ts1, b ∈ T.footL ts) ∧ Rv e.np ts ts1 := by
  obtain ⟨np, fz, st, sl, tp⟩ := e
  unfold takeTop at h
  split at h
  · rename_i u' tp' htp
    obtain rfl : tp = _ := htp
    obtain ⟨rfl, rfl⟩ := Prod.mk.inj (Option.some.inj h)
    obtain ⟨E1, t, h1, h2, h3, h4⟩ := E.pop
    exact ⟨rfl, ts, t, E1, (Option.some.inj h1).symm, h2, h3, by rw [h4]; exact E.nd, fun b hb => by rw [h4] at hb; exact hb, Rv.refl _ _⟩
  · rename_i j tp' htp
    obtain rfl : tp = _ := htp
    split at h
    · rename_i hn
      split at h
      · rename_i u' hu
        obtain ⟨rfl, rfl⟩ := Prod.mk.inj (Option.some.inj h)
        obtain ⟨E1, s1⟩ := E.pop
        have hu2 : st[j]? = some u' := hu
        rw [← show T.erL ts = st from E1.er, erL_map, List.getElem?_map] at hu2
        obtain ⟨c, hc, rfl⟩ := Option.map_eq_some_iff.mp hu2
        obtain ⟨E2, h1, h2, h3, h4⟩ := E1.detach hc hn
        obtain ⟨t', s', g1, g2, g3⟩ := s1
        rw [hc] at g1
        obtain rfl : c = t' := Option.some.inj g1
        obtain rfl : c = s' := Option.some.inj g2
        exact ⟨rfl, _, c, E2, (Option.some.inj g3).symm, rfl, h1, h2, h3, h4⟩
      · cases h
    · cases h
  · cases h
def takeN : Nat → Env → Option (List U × Env)
  | 0, e => some ([], e)
  | n + 1, e => (takeTop e).bind fun p => (takeN n p.2).map fun q => (q.1 ++ [p.1], q.2)
theorem EnvAt.takeN : ∀ {n : Nat} {e e1 : Env} {us : List U} {vs : List V} {τ : List V} {ts : List T}, EnvAt K fs e σ (vs.reverse ++ τ) H ts → vs.length = n → FB.takeN n e = some (us, e1) →
    e1.np = e.np ∧ ∃ ts1 cs, EnvAt K fs e1 σ τ H ts1 ∧ cs.map T.val = vs ∧ T.erL cs = us ∧ HoldsL K H cs ∧ (T.footL cs ++ T.footL ts1).Nodup ∧ (∀ b ∈ T.footL cs ++ T.footL ts1, b ∈ T.footL ts) ∧ Rv e.np ts ts1
  | 0, e, e1, us, vs, τ, ts, E, hl, h => by
    obtain ⟨rfl, rfl⟩ := Prod.mk.inj (Option.some.inj h)
    obtain rfl := List.length_eq_zero_iff.mp hl
    exact ⟨rfl, ts, [], E, rfl, by rw [T.erL], trivial, by rw [T.footL]; exact E.nd, fun b hb => by rw [T.footL] at hb; exact hb, Rv.refl _ _⟩
  | n + 1, e, e1, us, vs, τ, ts, E, hl, h => by
    obtain ⟨⟨u, e0⟩, h0, hh⟩ := Option.bind_eq_some_iff.mp h
    obtain ⟨⟨us', e2⟩, h1, h2⟩ := Option.map_eq_some_iff.mp hh
    obtain ⟨rfl, rfl⟩ := Prod.mk.inj h2
    obtain ⟨vs', v, rfl⟩ : ∃ vs' v, vs = vs' ++ [v] := ⟨vs.dropLast, vs.getLast (by intro z; rw [z] at hl; cases hl), (List.dropLast_concat_getLast _).symm⟩
    rw [List.reverse_append] at E
    obtain ⟨n1, ts1, c, E1, c1, c2, c3, c4, c5, c6⟩ := EnvAt.take1 (τ := vs'.reverse ++ τ) E h0
    obtain ⟨n2, ts2, cs, E2, d1, d2, d3, d4, d5, d6⟩ := EnvAt.takeN (n := n) E1 (by simpa using hl) h1
    have q1 := nodup_count.mp c4
    have q2 := nodup_count.mp d4
    have ef : T.footL (cs ++ [c]) = T.footL cs ++ c.foot := by
      rw [footL_map, List.map_append, List.flatten_append, ← footL_map]
      simp
    refine ⟨n2.trans n1, ts2, cs ++ [c], E2, by rw [List.map_append, d1, ← c1]; rfl, ?_, ?_, ?_, ?_, c6.trans (by rw [n1] at d6; exact d6)⟩
    · rw [erL_map, List.map_append, ← erL_map, d2, ← c2]
      rfl
    · rw [holdsL_iff]
      intro t ht
      rcases List.mem_append.mp ht with ht | ht
      · exact (holdsL_iff cs).mp d3 t ht
      · rw [show t = c by simpa using ht]
        exact c3
    · rw [nodup_count, ef]
      intro a
      have h1 := q1 a
      have h2 := q2 a
      simp only [List.count_append] at h1 h2 ⊢
      by_cases ha : a ∈ c.foot
      · have h3 : (T.footL ts1).count a = 0 := by
          have := List.count_pos_iff.mpr ha
          omega
        have h4 : a ∉ T.footL ts1 := fun z => by
          have := List.count_pos_iff.mpr z
          omega
        have h5 : (T.footL cs).count a = 0 := List.count_eq_zero_of_not_mem fun z => h4 (d5 a (List.mem_append_left _ z))
        have h6 : (T.footL ts2).count a = 0 := List.count_eq_zero_of_not_mem fun z => h4 (d5 a (List.mem_append_right _ z))
        omega
      · have := List.count_eq_zero_of_not_mem ha
        omega
    · intro b hb
      rw [ef] at hb
      simp only [List.mem_append] at hb
      rcases hb with (h | h) | h
      · exact c5 b (List.mem_append_right _ (d5 b (List.mem_append_left _ h)))
      · exact c5 b (List.mem_append_left _ h)
      · exact c5 b (List.mem_append_right _ (d5 b (List.mem_append_right _ h)))
end
end FB
namespace FB
open PySem PySem.Spec PyProof.Rows L2
abbrev DX := Env → Option Env
def dseq (a b : DX) : DX := fun e => (a e).bind b
theorem dseq_some {a b : DX} {e e2 : Env} (h : dseq a b e = some e2) : ∃ e1, a e = some e1 ∧ b e1 = some e2 := Option.bind_eq_some_iff.mp h
def EX (K : PySem.W.Frag) (te : TE) (d : DX) : Prop := ∀ (fs : List T) (e : Env) (σ : L2.St) (τ : List V) (H : Hp) (ts : List T), EnvAt K fs e σ τ H ts → ∀ e', d e = some e' → ∀ Q : VK, (∀ v H', Goes K fs e.np H ts e' σ (v :: τ) H' → Q v H') → te σ H Q
def AX (K : PySem.W.Frag) (n : Nat) (ta : TA) (d : DX) : Prop := ∀ (fs : List T) (e : Env) (σ : L2.St) (τ : List V) (H : Hp) (ts : List T), EnvAt K fs e σ τ H ts → ∀ e', d e = some e' → ∀ Q : List V → Hp → Prop, (∀ vs H', vs.length = n → Goes K fs e.np H ts e' σ (vs.reverse ++ τ) H' → Q vs H') → ta σ H Q
def TX (K : PySem.W.Frag) (tt : TT) (d : Env → Option (Bool × Env)) : Prop := ∀ (fs : List T) (e : Env) (σ : L2.St) (τ : List V) (H : Hp) (ts : List T), EnvAt K fs e σ τ H ts → ∀ b e', d e = some (b, e') → ∀ Q : Bool → Hp → Prop, (∀ H', Goes K fs e.np H ts e' σ τ H' → Q b H') → tt σ H Q
def RX1 (K : PySem.W.Frag) (r : V → Hp → VK → Prop) (d : DX) : Prop := ∀ (fs : List T) (e : Env) (σ : L2.St) (τ : List V) (x : V) (H : Hp) (ts : List T), EnvAt K fs e σ (x :: τ) H ts → ∀ e', d e = some e' → ∀ Q : VK, (∀ v H', Goes K fs e.np H ts e' σ (v :: τ) H' → Q v H') → r x H Q
def RX2 (K : PySem.W.Frag) (r : R2) (d : DX) : Prop := ∀ (fs : List T) (e : Env) (σ : L2.St) (τ : List V) (x y : V) (H : Hp) (ts : List T), EnvAt K fs e σ (y :: x :: τ) H ts → ∀ e', d e = some e' → ∀ Q : VK, (∀ v H', Goes K fs e.np H ts e' σ (v :: τ) H' → Q v H') → r x y H Q
def RXn (K : PySem.W.Frag) (n : Nat) (r : List V → Hp → VK → Prop) (d : DX) : Prop := ∀ (fs : List T) (e : Env) (σ : L2.St) (τ : List V) (vs : List V) (H : Hp) (ts : List T), vs.length = n → EnvAt K fs e σ (vs.reverse ++ τ) H ts → ∀ e', d e = some e' → ∀ Q : VK, (∀ v H', Goes K fs e.np H ts e' σ (v :: τ) H' → Q v H') → r vs H Q
def RXm (K : PySem.W.Frag) (n : Nat) (r : V → List V → Hp → VK → Prop) (d : DX) : Prop := ∀ (fs : List T) (e : Env) (σ : L2.St) (τ : List V) (x : V) (vs : List V) (H : Hp) (ts : List T), vs.length = n → EnvAt K fs e σ (vs.reverse ++ (x :: τ)) H ts → ∀ e', d e = some e' → ∀ Q : VK, (∀ v H', Goes K fs e.np H ts e' σ (v :: τ) H' → Q v H') → r x vs H Q
inductive Out where
  | nx (e : Env) | rt (e : Env) | bk (e : Env) | ct (e : Env)
def Post (K : PySem.W.Frag) (fs : List T) (np : Nat) (H : Hp) (ts : List T) (τ : List V) (D : Ends) : Out → Prop
  | .nx e' => ∀ σ' H', Goes K fs np H ts e' σ' τ H' → D.nx σ' H'
  | .rt e' => ∀ v σ' H', Goes K fs np H ts e' σ' (v :: τ) H' → D.rt v H'
  | .bk e' => ∀ σ' H', Goes K fs np H ts e' σ' τ H' → D.bk σ' H'
  | .ct e' => ∀ σ' H', Goes K fs np H ts e' σ' τ H' → D.ct σ' H'
def SX (K : PySem.W.Frag) (s : TS) (d : Env → Option Out) : Prop := ∀ (fs : List T) (e : Env) (σ : L2.St) (τ : List V) (H : Hp) (ts : List T), EnvAt K fs e σ τ H ts → ∀ o, d e = some o → ∀ D : Ends, Post K fs e.np H ts τ D o → s D σ H
section
variable {K : PySem.W.Frag} {H H' : Hp} {fs : List T} {ta tb te : TE} {d d1 d2 d3 : DX} {r : R2}
theorem Goes.to {np : Nat} {ts ts1 : List T} {H1 : Hp} {e1 e2 : Env} {σ2 : L2.St} {τ2 : List V} (g1 : e1.np = np) (f1 : ∀ b ∈ T.footL ts1, b ∈ T.footL ts ∨ H b = none) (k1 : Kp (fun b => b ∈ T.footL ts) H H1) (r1 : Rv np ts ts1) (g2 : Goes K fs e1.np H1 ts1 e2 σ2 τ2 H') : Goes K fs np H ts e2 σ2 τ2 H' := by
  rw [g1] at g2
  exact Goes.trans f1 k1 r1 g2
theorem ex_op (ha : EX K ta d1) (hb : EX K tb d2) (hr : RX2 K r d3) : EX K (tOp r ta tb) (dseq d1 (dseq d2 d3)) := fun fs e σ τ H ts E e' h Q q => by
  obtain ⟨e1, h1, h⟩ := dseq_some h
  obtain ⟨e2, h2, h3⟩ := dseq_some h
  refine ha fs e σ τ H ts E e1 h1 _ fun x H1 g1 => ?_
  obtain ⟨n1, ts1, E1, f1, k1, r1⟩ := g1
  refine hb fs e1 σ _ H1 ts1 E1 e2 h2 _ fun y H2 g2 => ?_
  obtain ⟨n2, ts2, E2, f2, k2, r2⟩ := g2
  exact hr fs e2 σ τ x y H2 ts2 E2 e' h3 _ fun v H3 g3 => q v H3 (Goes.to n1 f1 k1 r1 (Goes.to n2 f2 k2 r2 g3))
theorem ex_un {r : V → Hp → VK → Prop} (ha : EX K ta d1) (hr : RX1 K r d2) : EX K (tUn r ta) (dseq d1 d2) := fun fs e σ τ H ts E e' h Q q => by
  obtain ⟨e1, h1, h2⟩ := dseq_some h
  refine ha fs e σ τ H ts E e1 h1 _ fun x H1 g1 => ?_
  obtain ⟨n1, ts1, E1, f1, k1, r1⟩ := g1
  exact hr fs e1 σ τ x H1 ts1 E1 e' h2 _ fun v H3 g3 => q v H3 (Goes.to n1 f1 k1 r1 g3)
theorem ax_nil : AX K 0 tNil some := fun fs e σ τ H ts E e' h Q q => by
  rw [← show e = e' from Option.some.inj h] at q
  exact q [] H rfl (Goes.refl E)
theorem ax_cons {n : Nat} {tr : TA} (ha : EX K ta d1) (hr : AX K n tr d2) : AX K (n + 1) (tCons ta tr) (dseq d1 d2) := fun fs e σ τ H ts E e' h Q q => by
  obtain ⟨e1, h1, h2⟩ := dseq_some h
  refine ha fs e σ τ H ts E e1 h1 _ fun x H1 g1 => ?_
  obtain ⟨n1, ts1, E1, f1, k1, r1⟩ := g1
  refine hr fs e1 σ _ H1 ts1 E1 e' h2 _ fun vs H2 hl g2 => q (x :: vs) H2 (by rw [List.length_cons, hl]) ?_
  rw [List.reverse_cons, List.append_assoc]
  exact Goes.to n1 f1 k1 r1 g2
theorem ex_cb {n : Nat} {tv : TA} {r : List V → Hp → VK → Prop} (ha : AX K n tv d1) (hr : RXn K n r d2) : EX K (tCB r tv) (dseq d1 d2) := fun fs e σ τ H ts E e' h Q q => by
  obtain ⟨e1, h1, h2⟩ := dseq_some h
  refine ha fs e σ τ H ts E e1 h1 _ fun vs H1 hl g1 => ?_
  obtain ⟨n1, ts1, E1, f1, k1, r1⟩ := g1
  exact hr fs e1 σ τ vs H1 ts1 hl E1 e' h2 _ fun v H3 g3 => q v H3 (Goes.to n1 f1 k1 r1 g3)
def dVar (i : Nat) : DX := fun e => match e.sl[i]? with
  | some (.val u) => some { e with tp := .val u :: e.tp }
  | some (.ref j π) => some { e with tp := .ref j π :: e.tp }
  | some (.fref j π) => some { e with tp := .fref j π :: e.tp }
  | _ => none
theorem ex_var (i : Nat) : EX K (tVar i) (dVar i) := fun fs e σ τ H ts E e' h Q q => by
  unfold dVar at h
  split at h
  · rename_i u hs
    obtain ⟨v, h1, h2⟩ := E.sl i _ hs
    obtain ⟨t, rfl, e1, e2⟩ := h2
    rw [← Option.some.inj h] at q
    exact ⟨t.val, h1, q t.val H (Goes.refl (E.push (s := .val u) ⟨t, rfl, e1, e2⟩))⟩
  · rename_i j π hs
    obtain ⟨v, h1, h2⟩ := E.sl i _ hs
    obtain ⟨t, s, e1, e2, rfl⟩ := h2
    rw [← Option.some.inj h] at q
    exact ⟨s.val, h1, q s.val H (Goes.refl (E.push (s := .ref j π) ⟨t, s, e1, e2, rfl⟩))⟩
  · rename_i j π hs
    obtain ⟨v, h1, h2⟩ := E.sl i _ hs
    obtain ⟨t, s, e1, e2, rfl⟩ := h2
    rw [← Option.some.inj h] at q
    exact ⟨s.val, h1, q s.val H (Goes.refl (E.push (s := .fref j π) ⟨t, s, e1, e2, rfl⟩))⟩
  · cases h
def dLeaf (v : V) : DX := fun e => some { e with tp := .val (.leaf v) :: e.tp }
theorem slat_leaf {ts : List T} {v : V} (h : scalV v = true) : SlAt K fs H ts (.val (.leaf v)) (some v) := ⟨.leaf v, rfl, by rw [T.er], by rw [Holds]; exact h, by rw [T.foot]⟩
theorem leaf_slat {ts : List T} {v w : V} (h : SlAt K fs H ts (.val (.leaf v)) (some w)) : w = v ∧ scalV v = true := by
  obtain ⟨t, e1, e2, h1, _⟩ := h
  cases t with
  | leaf x =>
    rw [T.er] at e2
    rw [Holds] at h1
    obtain rfl : x = v := U.leaf.inj e2
    exact ⟨Option.some.inj e1, h1⟩
  | node a k ts =>
    rw [T.er] at e2
    cases e2
theorem ex_c (v : V) (hv : scalV v = true := by rfl) : EX K (tC v) (dLeaf v) := fun fs e σ τ H ts E e' h Q q => by
  rw [← Option.some.inj h] at q
  exact q v H (Goes.refl (E.push (slat_leaf hv)))
/-- two scalars, one -/
def dS2 (f : V → V → Option V) : DX := fun e => match e.tp with
  | .val (.leaf y) :: .val (.leaf x) :: tp => (f x y).map fun z => { e with tp := .val (.leaf z) :: tp }
  | _ => none
theorem rx_s2 {f : V → V → Option V} (hf : ∀ x y H Q z, f x y = some z → Q z H → r x y H Q) (hs : ∀ x y z, scalV x = true → scalV y = true → f x y = some z → scalV z = true) : RX2 K r (dS2 f) := fun fs e σ τ x y H ts E e' h Q q => by
  obtain ⟨np, fz, st, sl, tp⟩ := e
  unfold dS2 at h
  split at h
  · rename_i y' x' tp' htp
    obtain rfl : tp = _ := htp
    obtain ⟨z, hz, rfl⟩ := Option.map_eq_some_iff.mp h
    obtain ⟨E1, s1⟩ := E.pop
    obtain ⟨E2, s2⟩ := E1.pop
    obtain ⟨rfl, c1⟩ := leaf_slat s1
    obtain ⟨rfl, c2⟩ := leaf_slat s2
    exact hf _ _ H Q z hz (q z H (Goes.refl (E2.push (slat_leaf (hs _ _ z c2 c1 hz)))))
  · cases h
def dS1 (f : V → Option V) : DX := fun e => match e.tp with
  | .val (.leaf x) :: tp => (f x).map fun z => { e with tp := .val (.leaf z) :: tp }
  | _ => none
theorem rx_s1 {r : V → Hp → VK → Prop} {f : V → Option V} (hf : ∀ x H Q z, f x = some z → Q z H → r x H Q) (hs : ∀ x z, scalV x = true → f x = some z → scalV z = true) : RX1 K r (dS1 f) := fun fs e σ τ x H ts E e' h Q q => by
  obtain ⟨np, fz, st, sl, tp⟩ := e
  unfold dS1 at h
  split at h
  · rename_i x' tp' htp
    obtain rfl : tp = _ := htp
    obtain ⟨z, hz, rfl⟩ := Option.map_eq_some_iff.mp h
    obtain ⟨E1, s1⟩ := E.pop
    obtain ⟨rfl, c1⟩ := leaf_slat s1
    exact hf _ H Q z hz (q z H (Goes.refl (E1.push (slat_leaf (hs _ z c1 hz)))))
  · cases h
def dAnd (a b : DX) : DX := fun e => (a e).bind fun e1 => match e1.tp with
  | .val (.leaf (.bl true)) :: tp => b { e1 with tp := tp }
  | .val (.leaf (.bl false)) :: _ => some e1
  | _ => none
def dOr (a b : DX) : DX := fun e => (a e).bind fun e1 => match e1.tp with
  | .val (.leaf (.bl true)) :: _ => some e1
  | .val (.leaf (.bl false)) :: tp => b { e1 with tp := tp }
  | _ => none
theorem EnvAt.bl {np : Nat} {fz st : List U} {sl tp : List Sl} {σ : L2.St} {τ : List V} {ts : List T} {x y : V} (E : EnvAt K fs ⟨np, fz, st, sl, .val (.leaf y) :: tp⟩ σ (x :: τ) H ts) : x = y ∧ EnvAt K fs ⟨np, fz, st, sl, tp⟩ σ τ H ts := ⟨(leaf_slat E.pop.2).1, E.pop.1⟩
theorem ex_andV (ha : EX K ta d1) (hb : EX K tb d2) : EX K (tAndV ta tb) (dAnd d1 d2) := fun fs e σ τ H ts E e' h Q q => by
  obtain ⟨e1, h1, h2⟩ := Option.bind_eq_some_iff.mp h
  refine ha fs e σ τ H ts E e1 h1 _ fun x H1 g1 => ?_
  obtain ⟨n1, ts1, E1, f1, k1, r1⟩ := g1
  obtain ⟨np, fz, st, sl, tp⟩ := e1
  dsimp only at h2
  split at h2
  · obtain ⟨rfl, E2⟩ := E1.bl
    exact ⟨true, rfl, hb fs _ σ τ H1 ts1 E2 e' h2 Q fun v H3 g3 => q v H3 (Goes.to n1 f1 k1 r1 g3)⟩
  · obtain ⟨rfl, E2⟩ := E1.bl
    refine ⟨false, rfl, ?_⟩
    rw [if_neg (by decide)]
    rw [← Option.some.inj h2] at q
    exact q _ H1 ⟨n1, ts1, E1, f1, k1, r1⟩
  · cases h2
theorem ex_orV (ha : EX K ta d1) (hb : EX K tb d2) : EX K (tOrV ta tb) (dOr d1 d2) := fun fs e σ τ H ts E e' h Q q => by
  obtain ⟨e1, h1, h2⟩ := Option.bind_eq_some_iff.mp h
  refine ha fs e σ τ H ts E e1 h1 _ fun x H1 g1 => ?_
  obtain ⟨n1, ts1, E1, f1, k1, r1⟩ := g1
  obtain ⟨np, fz, st, sl, tp⟩ := e1
  dsimp only at h2
  split at h2
  · obtain ⟨rfl, E2⟩ := E1.bl
    refine ⟨true, rfl, ?_⟩
    rw [if_pos rfl]
    rw [← Option.some.inj h2] at q
    exact q _ H1 ⟨n1, ts1, E1, f1, k1, r1⟩
  · obtain ⟨rfl, E2⟩ := E1.bl
    refine ⟨false, rfl, ?_⟩
    rw [if_neg (by decide)]
    exact hb fs _ σ τ H1 ts1 E2 e' h2 Q fun v H3 g3 => q v H3 (Goes.to n1 f1 k1 r1 g3)
  · cases h2
def dNot (a : DX) : DX := fun e => (a e).bind fun e1 => match e1.tp with
  | .val (.leaf (.bl b)) :: tp => some { e1 with tp := .val (.leaf (.bl (!b))) :: tp }
  | _ => none
abbrev DT := Env → Option (Bool × Env)
def tTop : Env → Option (Bool × Env) := fun e => match e.tp with
  | .val (.leaf (.bl b)) :: tp => some (b, { e with tp := tp })
  | _ => none
def tOf (a : DX) : DT := fun e => (a e).bind tTop
theorem tx_of (ha : EX K te d) {tt : TT} (hd : ∀ σ H Q, (te σ H fun x H' => ∃ k, x = .bl k ∧ Q k H') → tt σ H Q) : TX K tt (tOf d) := fun fs e σ τ H ts E b e' h Q q => by
  obtain ⟨e1, h1, h2⟩ := Option.bind_eq_some_iff.mp h
  refine hd _ _ _ (ha fs e σ τ H ts E e1 h1 _ fun x H1 g1 => ?_)
  obtain ⟨n1, ts1, E1, f1, k1, r1⟩ := g1
  obtain ⟨np, fz, st, sl, tp⟩ := e1
  unfold tTop at h2
  split at h2
  · rename_i b' tp' htp
    obtain rfl : tp = _ := htp
    obtain ⟨rfl, E2⟩ := E1.bl
    obtain ⟨rfl, rfl⟩ := Prod.mk.inj (Option.some.inj h2)
    exact ⟨_, rfl, q H1 ⟨n1, ts1, E2, f1, k1, r1⟩⟩
  · cases h2
theorem tx_test (ha : EX K te d) : TX K (tTest te) (tOf d) := tx_of ha fun _ _ _ h => h
theorem tx_B (ha : EX K te d) : TX K (tB te) (tOf d) := tx_of ha fun _ _ _ h => h
variable {c1 c2 : TT} {b1 b2 : DT}
def tNt (a : DT) : DT := fun e => (a e).map fun p => (!p.1, p.2)
theorem tx_not (h1 : TX K c1 b1) : TX K (tNot c1) (tNt b1) := fun fs e σ τ H ts E b e' h Q q => by
  obtain ⟨⟨b0, e0⟩, h0, hh⟩ := Option.map_eq_some_iff.mp h
  obtain ⟨rfl, rfl⟩ := Prod.mk.inj hh
  exact h1 fs e σ τ H ts E b0 e0 h0 _ fun H1 g1 => q H1 g1
def tAn (a b : DT) : DT := fun e => (a e).bind fun p => if p.1 = true then b p.2 else some (false, p.2)
def tOo (a b : DT) : DT := fun e => (a e).bind fun p => if p.1 = true then some (true, p.2) else b p.2
theorem tx_and (h1 : TX K c1 b1) (h2 : TX K c2 b2) : TX K (tAnd c1 c2) (tAn b1 b2) := fun fs e σ τ H ts E b e' h Q q => by
  obtain ⟨⟨b0, e0⟩, h0, hh⟩ := Option.bind_eq_some_iff.mp h
  refine h1 fs e σ τ H ts E b0 e0 h0 _ fun H1 g1 => ?_
  cases b0 with
  | true =>
    obtain ⟨n1, ts1, E1, f1, k1, r1⟩ := g1
    exact h2 fs e0 σ τ H1 ts1 E1 b e' hh Q fun H3 g3 => q H3 (Goes.to n1 f1 k1 r1 g3)
  | false =>
    obtain ⟨rfl, rfl⟩ := Prod.mk.inj (Option.some.inj hh)
    exact q H1 g1
theorem tx_or (h1 : TX K c1 b1) (h2 : TX K c2 b2) : TX K (tOr c1 c2) (tOo b1 b2) := fun fs e σ τ H ts E b e' h Q q => by
  obtain ⟨⟨b0, e0⟩, h0, hh⟩ := Option.bind_eq_some_iff.mp h
  refine h1 fs e σ τ H ts E b0 e0 h0 _ fun H1 g1 => ?_
  cases b0 with
  | true =>
    obtain ⟨rfl, rfl⟩ := Prod.mk.inj (Option.some.inj hh)
    exact q H1 g1
  | false =>
    obtain ⟨n1, ts1, E1, f1, k1, r1⟩ := g1
    exact h2 fs e0 σ τ H1 ts1 E1 b e' hh Q fun H3 g3 => q H3 (Goes.to n1 f1 k1 r1 g3)
def dIf (a : DT) (b c : DX) : DX := fun e => (a e).bind fun p => if p.1 = true then b p.2 else c p.2
end
end FB
namespace FB
open PySem PySem.Spec PyProof.Rows L2
section
variable {K : PySem.W.Frag} {H H' : Hp} {fs : List T} {ta tb te : TE} {d d1 d2 d3 : DX} {r : R2} {e : Env} {σ : L2.St} {τ : List V} {ts : List T}
theorem EnvAt.popN (xs : List V) (E : EnvAt K fs e σ (xs ++ τ) H ts) : EnvAt K fs { e with tp := e.tp.drop xs.length } σ τ H ts ∧ (e.tp.take xs.length).length = xs.length ∧ ∀ (i : Nat) (s : Sl), (e.tp.take xs.length)[i]? = some s → ∃ v, xs[i]? = some v ∧ SlAt K fs H ts s (some v) := by
  have hl := E.lτ
  rw [List.length_append] at hl
  refine ⟨⟨E.er, E.ho, E.nd, E.fe, E.fh, E.fd, E.lσ, ?_, E.sl, fun i s h => ?_⟩, by rw [List.length_take]; omega, fun i s h => ?_⟩
  · show τ.length = (e.tp.drop xs.length).length
    rw [List.length_drop]
    omega
  · have h : (e.tp.drop xs.length)[i]? = some s := h
    rw [List.getElem?_drop] at h
    obtain ⟨v, h1, h2⟩ := E.tp _ s h
    rw [List.getElem?_append_right (by omega), show xs.length + i - xs.length = i by omega] at h1
    exact ⟨v, h1, h2⟩
  · have hi : i < xs.length := by
      have := (List.getElem?_eq_some_iff.mp h).1
      rw [List.length_take] at this
      omega
    rw [List.getElem?_take_of_lt hi] at h
    obtain ⟨v, h1, h2⟩ := E.tp _ s h
    rw [List.getElem?_append_left hi] at h1
    exact ⟨v, h1, h2⟩
theorem footL_nil {cs : List T} (h : ∀ c ∈ cs, c.foot = []) : T.footL cs = [] := by
  rw [footL_map, List.flatten_eq_nil_iff]
  intro l hl
  obtain ⟨c, hc, rfl⟩ := List.mem_map.mp hl
  exact h c hc
theorem Goes.same {e1 : Env} {σ' : L2.St} {τ' : List V} (E : EnvAt K fs e σ τ H ts) (s : Same H H') (h : e1.np = e.np) (E1 : EnvAt K fs e1 σ' τ' H' ts) : Goes K fs e.np H ts e1 σ' τ' H' := ⟨h, ts, E1, fun _ h => .inl h, fun b o hb _ => s b o hb, Rv.refl _ _⟩
theorem holdsL_same {cs : List T} (s : Same H H') (h : HoldsL K H cs) : HoldsL K H' cs := holdsL_kp (W := fun _ => False) (fun b o h _ => s b o h) (fun _ h => h.elim) cs h fun _ _ h => h
def Env.new (e : Env) (u : U) : Env := { e with st := e.st ++ [u], tp := .ref e.st.length [] :: e.tp }
theorem EnvAt.len (E : EnvAt K fs e σ τ H ts) : e.st.length = ts.length := by rw [← E.er, erL_map, List.length_map]
theorem EnvAt.newF {p : Addr} {k : Kd} {cs : List T} (E : EnvAt K fs e σ τ H ts) (np : H p = none) (s : Same H H') (ho : IsObj K H' p k (cs.map T.val)) (hc : HoldsL K H cs) (fc : (T.footL cs ++ T.footL ts).Nodup) (fc2 : ∀ b ∈ T.footL cs, b ∉ T.footL fs) :
    EnvAt K fs (e.new (.node k (T.erL cs))) σ (.ref p :: τ) H' (ts ++ [.node p k cs]) ∧ (∀ b ∈ T.footL (ts ++ [.node p k cs]), b ∈ T.footL cs ++ T.footL ts ∨ H b = none) ∧ Rv e.np ts (ts ++ [.node p k cs]) := by
  have E1 := E.same s
  have hff : T.footL (ts ++ [.node p k cs]) = T.footL ts ++ T.foot (.node p k cs) := by
    rw [footL_map, List.map_append, List.flatten_append, ← footL_map]
    simp
  have hnew : p ∉ T.footL ts := fun h => MutO.some (holdsL_mut ts E.ho p h) np
  have hnewc : p ∉ T.footL cs := fun h => MutO.some (holdsL_mut cs hc p h) np
  have hsl : ∀ {z : Sl} {v : Option V}, SlAt K fs H' ts z v → SlAt K fs H' (ts ++ [.node p k cs]) z v := fun {z v} h => by
    cases z with
    | no => trivial
    | val u => exact h
    | fref j π => exact h
    | ref j π =>
      obtain ⟨tj, q, h1, h2⟩ := h
      exact ⟨tj, q, by rw [List.getElem?_append_left (List.getElem?_eq_some_iff.mp h1).1]; exact h1, h2⟩
  refine ⟨⟨?_, ?_, ?_, E1.fe, E1.fh, fun b hb hm => ?_, E.lσ, ?_, fun i z h => ?_, fun i z h => ?_⟩, fun b hb => ?_, fun j t _ h => ⟨t, by rw [List.getElem?_append_left (List.getElem?_eq_some_iff.mp h).1]; exact h, rfl⟩⟩
  · show T.erL (ts ++ [.node p k cs]) = e.st ++ [.node k (T.erL cs)]
    rw [erL_map, List.map_append, ← erL_map, E.er]
    show e.st ++ [T.er (.node p k cs)] = _
    rw [T.er]
  · rw [holdsL_iff]
    intro t ht
    rcases List.mem_append.mp ht with ht | ht
    · exact (holdsL_iff ts).mp E1.ho t ht
    · rw [show t = .node p k cs by simpa using ht, Holds]
      exact ⟨ho, holdsL_same s hc⟩
  · rw [hff, nodup_count]
    intro a
    have h1 := nodup_count.mp fc a
    rw [T.foot]
    by_cases ha : a = p
    · subst ha
      have h2 := List.count_eq_zero_of_not_mem hnew
      have h3 := List.count_eq_zero_of_not_mem hnewc
      split
      · rw [List.count_append, List.count_cons_self]
        omega
      · rw [List.count_append]
        omega
    · split
      · rw [List.count_append, List.count_cons_of_ne fun z => ha z.symm]
        rw [List.count_append] at h1
        omega
      · rw [List.count_append] at h1 ⊢
        omega
  · rw [hff] at hm
    rcases List.mem_append.mp hm with h | h
    · exact E.fd b hb h
    · rw [T.foot] at h
      split at h
      · rcases List.mem_cons.mp h with h | h
        · exact MutO.some (holdsL_mut fs E.fh b hb) (by rw [h]; exact np)
        · exact fc2 b h hb
      · exact fc2 b h hb
  · show (V.ref p :: τ).length = (Sl.ref e.st.length [] :: e.tp).length
    rw [List.length_cons, List.length_cons, E.lτ]
  · obtain ⟨v, h1, h2⟩ := E1.sl i z h
    exact ⟨v, h1, hsl h2⟩
  · cases i with
    | zero =>
      rw [← show Sl.ref e.st.length [] = z from Option.some.inj h]
      refine ⟨.ref p, rfl, .node p k cs, .node p k cs, ?_, rfl, rfl⟩
      rw [E.len, List.getElem?_append_right (Nat.le_refl _)]
      simp
    | succ i =>
      obtain ⟨v, h1, h2⟩ := E1.tp i z h
      exact ⟨v, h1, hsl h2⟩
  · rw [hff] at hb
    rcases List.mem_append.mp hb with h | h
    · exact .inl (List.mem_append_right _ h)
    · rw [T.foot] at h
      split at h
      · rcases List.mem_cons.mp h with h | h
        · rw [h]
          exact .inr np
        · exact .inl (List.mem_append_left _ h)
      · exact .inl (List.mem_append_left _ h)
/-- a node of what is at hand -/
def dNode (k : Kd) (n : Nat) : DX := fun e => (takeN n e).map fun p => if !k.mut && U.immL p.1 then { p.2 with tp := .val (.node k p.1) :: p.2.tp } else p.2.new (.node k p.1)
theorem slat_node {ts : List T} {a : Addr} {k : Kd} {cs : List T} (ho : IsObj K H a k (cs.map T.val)) (hm : k.mut = false) (hc : HoldsL K H cs) (fc : T.footL cs = []) : SlAt K fs H ts (.val (.node k (T.erL cs))) (some (.ref a)) := ⟨.node a k cs, rfl, by rw [T.er], by rw [Holds]; exact ⟨ho, hc⟩, by rw [T.foot, if_neg (by rw [hm]; decide), fc]⟩
theorem EnvAt.mkNode {p : Addr} {k : Kd} {n : Nat} {vs : List V} {e' : Env} (E : EnvAt K fs e σ (vs.reverse ++ τ) H ts) (hl : vs.length = n) (h : dNode k n e = some e') (np : H p = none) (s : Same H H') (ho : ∀ cs : List T, cs.map T.val = vs → IsObj K H' p k (cs.map T.val)) : Goes K fs e.np H ts e' σ (.ref p :: τ) H' := by
  obtain ⟨⟨us, e1⟩, h1, rfl⟩ := Option.map_eq_some_iff.mp h
  obtain ⟨n1, ts1, cs, E1, c1, c2, c3, c4, c5, c6⟩ := EnvAt.takeN E hl h1
  have kp : Kp (fun b => b ∈ T.footL ts) H H' := fun b o hb _ => s b o hb
  dsimp only
  split
  · rename_i hi
    rw [Bool.and_eq_true] at hi
    have hm : k.mut = false := by
      cases hk : k.mut with
      | false => rfl
      | true => rw [hk] at hi; exact absurd hi.1 (by decide)
    refine ⟨n1, ts1, (E1.same s).push ?_, fun b hb => .inl (c5 b (List.mem_append_right _ hb)), kp, c6⟩
    rw [← c2]
    exact slat_node (ho cs c1) hm (holdsL_same s c3) (immL_foot cs (by rw [c2]; exact hi.2))
  · obtain ⟨E2, f2, r2⟩ := E1.newF (k := k) (cs := cs) np s (ho cs c1) c3 c4 fun b hb hf => E.fd b hf (c5 b (List.mem_append_left _ hb))
    rw [c2] at E2
    refine ⟨n1, _, E2, fun b hb => ?_, kp, c6.trans (by rw [n1] at r2; exact r2)⟩
    rcases f2 b hb with h | h
    · exact .inl (c5 b h)
    · exact .inr h
theorem ex_tup {n : Nat} {tv : TA} (ha : AX K n tv d1) (hn : n ≤ sizeLine := by decide) : EX K (tTup tv) (dseq d1 (dNode .tup n)) := fun fs e σ τ H ts E e' h Q q => by
  obtain ⟨e1, h1, h2⟩ := dseq_some h
  refine ha fs e σ τ H ts E e1 h1 _ fun vs H1 hl g1 => ?_
  obtain ⟨n1, ts1, E1, f1, k1, r1⟩ := g1
  refine ⟨by rw [hl]; exact hn, fun p np => ?_⟩
  exact q _ _ (Goes.to n1 f1 k1 r1 (E1.mkNode hl h2 np (same_new np) fun cs hc => .inl (.inl (by rw [hc]; exact upd_same))))
theorem ex_lst {n : Nat} {tv : TA} (ha : AX K n tv d1) (hn : n ≤ sizeLine := by decide) : EX K (tLst tv) (dseq d1 (dNode .lst n)) := fun fs e σ τ H ts E e' h Q q => by
  obtain ⟨e1, h1, h2⟩ := dseq_some h
  refine ha fs e σ τ H ts E e1 h1 _ fun vs H1 hl g1 => ?_
  obtain ⟨n1, ts1, E1, f1, k1, r1⟩ := g1
  refine ⟨by rw [hl]; exact hn, fun p np => ?_⟩
  exact q _ _ (Goes.to n1 f1 k1 r1 (E1.mkNode hl h2 np (same_new np) fun cs hc => by rw [hc]; exact upd_same))
def dDic : DX := dNode (.dic []) 0
def look1 (l : List U) (j : Nat) (π : List Nat) : Option U := (l[j]?).bind (U.get π)
def Env.at (e : Env) (j : Nat) (π : List Nat) : Option U := look1 e.st j π
def Env.look (e : Env) : Sl → Option U
  | .no => none
  | .val u => some u
  | .ref j π => look1 e.st j π
  | .fref j π => look1 e.fz j π
def kidS (s : Sl) (n : Nat) (u : U) : Sl := if u.imm = true then .val u else match s with
  | .ref j π => .ref j (π ++ [n])
  | .fref j π => .fref j (π ++ [n])
  | _ => .no
theorem tget_append : ∀ {π κ : List Nat} {t : T}, t.get (π ++ κ) = (t.get π).bind (·.get κ)
  | [], κ, t => rfl
  | n :: π, κ, t => by
    rw [List.cons_append, T.get, T.get]
    cases T.kid t n with
    | none => rfl
    | some w => exact tget_append (t := w)
theorem look1_get {l : List T} {j : Nat} {π : List Nat} {u : U} (h : look1 (T.erL l) j π = some u) (hl : HoldsL K H l) : ∃ tj s, l[j]? = some tj ∧ tj.get π = some s ∧ s.er = u ∧ Holds K H s := by
  obtain ⟨u0, h1, h2⟩ := Option.bind_eq_some_iff.mp h
  rw [erL_map, List.getElem?_map] at h1
  obtain ⟨tj, h3, rfl⟩ := Option.map_eq_some_iff.mp h1
  obtain ⟨w, h4, h5⟩ := er_get h2
  exact ⟨tj, w, h3, h4, h5, get_holds h4 ((holdsL_iff l).mp hl tj (List.mem_of_getElem? h3))⟩
theorem get1 {n : Nat} {t : T} : T.get [n] t = T.kid t n := by
  rw [T.get]
  cases T.kid t n with
  | none => rfl
  | some w => rfl
theorem EnvAt.get {j : Nat} {π : List Nat} {u : U} (E : EnvAt K fs e σ τ H ts) (h : e.at j π = some u) : ∃ tj s, ts[j]? = some tj ∧ tj.get π = some s ∧ s.er = u ∧ Holds K H s := by
  unfold Env.at at h
  rw [← E.er] at h
  exact look1_get h E.ho
/-- the value at a reference is that of its node -/
theorem ref_val {j : Nat} {π : List Nat} {tj s : T} {v : V} (h : SlAt K fs H ts (.ref j π) (some v)) (hj : ts[j]? = some tj) (hg : tj.get π = some s) : v = s.val := by
  obtain ⟨t', s', h1, h2, h3⟩ := h
  rw [hj] at h1
  obtain rfl : tj = t' := Option.some.inj h1
  rw [hg] at h2
  obtain rfl : s = s' := Option.some.inj h2
  exact Option.some.inj h3
theorem EnvAt.node {s : Sl} {v : V} {k : Kd} {us : List U} (E : EnvAt K fs e σ τ H ts) (hs : SlAt K fs H ts s (some v)) (h : e.look s = some (.node k us)) : ∃ a cs, v = .ref a ∧ T.erL cs = us ∧ IsObj K H a k (cs.map T.val) ∧ HoldsL K H cs ∧ ∀ (n : Nat) (c : T), cs[n]? = some c → SlAt K fs H ts (kidS s n c.er) (some c.val) := by
  have kid : ∀ {c : T} {cs : List T}, HoldsL K H cs → c ∈ cs → c.er.imm = true → SlAt K fs H ts (.val c.er) (some c.val) := fun {c cs} hh hc hi => ⟨c, rfl, rfl, (holdsL_iff cs).mp hh c hc, imm_foot c hi⟩
  cases s with
  | no => cases h
  | val u =>
    obtain rfl : u = .node k us := Option.some.inj h
    obtain ⟨t, h1, h2, h3, h4⟩ := hs
    cases t with
    | leaf v => rw [T.er] at h2; cases h2
    | node a k' cs =>
      rw [T.er] at h2
      obtain ⟨rfl, rfl⟩ := U.node.inj h2
      rw [Holds] at h3
      refine ⟨a, cs, Option.some.inj h1, rfl, h3.1, h3.2, fun n c hc => ?_⟩
      have hcm := List.mem_of_getElem? hc
      have hf : T.footL cs = [] := by
        rw [T.foot] at h4
        split at h4
        · cases h4
        · exact h4
      rw [footL_map, List.flatten_eq_nil_iff] at hf
      unfold kidS
      split
      · rename_i hi
        exact kid h3.2 hcm hi
      · trivial
  | ref j π =>
    have h : look1 e.st j π = _ := h
    rw [← E.er] at h
    obtain ⟨tj, w, h1, h2, h3, h4⟩ := look1_get h E.ho
    cases w with
    | leaf v => rw [T.er] at h3; cases h3
    | node a k' cs =>
      rw [T.er] at h3
      obtain ⟨rfl, rfl⟩ := U.node.inj h3
      rw [Holds] at h4
      refine ⟨a, cs, ref_val hs h1 h2, rfl, h4.1, h4.2, fun n c hc => ?_⟩
      unfold kidS
      split
      · rename_i hi
        exact kid h4.2 (List.mem_of_getElem? hc) hi
      · refine ⟨tj, c, h1, ?_, rfl⟩
        rw [tget_append, h2]
        show T.get [n] (.node a k' cs) = _
        rw [get1]
        exact hc
  | fref j π =>
    have h : look1 e.fz j π = _ := h
    rw [← E.fe] at h
    obtain ⟨tj, w, h1, h2, h3, h4⟩ := look1_get h E.fh
    cases w with
    | leaf v => rw [T.er] at h3; cases h3
    | node a k' cs =>
      rw [T.er] at h3
      obtain ⟨rfl, rfl⟩ := U.node.inj h3
      rw [Holds] at h4
      obtain ⟨t', s', g1, g2, g3⟩ := hs
      rw [h1] at g1
      obtain rfl := Option.some.inj g1
      rw [h2] at g2
      obtain rfl := Option.some.inj g2
      refine ⟨a, cs, Option.some.inj g3, rfl, h4.1, h4.2, fun n c hc => ?_⟩
      unfold kidS
      split
      · rename_i hi
        exact kid h4.2 (List.mem_of_getElem? hc) hi
      · refine ⟨tj, c, h1, ?_, rfl⟩
        rw [tget_append, h2]
        show T.get [n] (.node a k' cs) = _
        rw [get1]
        exact hc
theorem erL_get {cs : List T} {n : Nat} {u : U} (h : (T.erL cs)[n]? = some u) : ∃ c, cs[n]? = some c ∧ c.er = u := by
  rw [erL_map, List.getElem?_map] at h
  exact Option.map_eq_some_iff.mp h
def ixOf {α : Type} [DecidableEq α] (f : α) : List α → Option Nat
  | [] => none
  | x :: r => if x = f then some 0 else (ixOf f r).map (· + 1)
theorem valV_zip (f : Key) : ∀ (fs : List Key) (vs : List V), fs.length = vs.length → valV (fs.zip vs) f = (ixOf f fs).bind fun n => vs[n]?
  | [], [], _ => rfl
  | [], _ :: _, h => by cases h
  | _ :: _, [], h => by cases h
  | x :: fs, v :: vs, h => by
    rw [List.zip_cons_cons, ixOf]
    by_cases e : x = f
    · rw [if_pos e]
      exact valV_pos (p := (x, v)) e
    · rw [if_neg e]
      refine (valV_neg (p := (x, v)) e).trans ?_
      rw [valV_zip f fs vs (by simpa using h)]
      cases ixOf f fs with
      | none => rfl
      | some n => rfl
/-- the tree of the first one at hand -/
def Env.top (e : Env) : Option (Sl × U × Env) := match e.tp with
  | s :: tp => (e.look s).map fun u => (s, u, { e with tp := tp })
  | [] => none
theorem EnvAt.top {x : V} {s : Sl} {u : U} {e1 : Env} (E : EnvAt K fs e σ (x :: τ) H ts) (h : e.top = some (s, u, e1)) : e1.np = e.np ∧ EnvAt K fs e1 σ τ H ts ∧ SlAt K fs H ts s (some x) ∧ e1.look s = some u := by
  obtain ⟨np, fz, st, sl, tp⟩ := e
  unfold Env.top at h
  split at h
  · rename_i s' tp' htp
    obtain rfl : tp = _ := htp
    obtain ⟨u', h1, h2⟩ := Option.map_eq_some_iff.mp h
    obtain ⟨rfl, h3⟩ := Prod.mk.inj h2
    obtain ⟨rfl, rfl⟩ := Prod.mk.inj h3
    obtain ⟨E1, s1⟩ := E.pop
    exact ⟨rfl, E1, s1, by cases s' <;> exact h1⟩
  · cases h
def dFld (C : Addr) (f : Str) : DX := fun e => e.top.bind fun p => match p.2.1 with
  | .node (.ins C' fs) us => if C' = C then (ixOf f fs).bind fun n => (us[n]?).map fun u => { p.2.2 with tp := kidS p.1 n u :: p.2.2.tp } else none
  | _ => none
end
end FB
namespace FB
open PySem PySem.Spec PyProof.Rows L2
section
variable {K : PySem.W.Frag} {H H' : Hp} {fs : List T} {ta tb te tc : TE} {d d1 d2 d3 : DX} {r : R2} {e : Env} {σ : L2.St} {τ : List V} {ts : List T}
def keyOf : V → Option Key
  | .int i => some (.inl i)
  | .str s => some (.inr s)
  | _ => none
theorem keyOf_is {v : V} {k : Key} (h : keyOf v = some k) : v = kV k := by
  cases v <;> cases h <;> rfl
def U.dic : U → Option (List Key × List U)
  | .node (.dic ks) us => some (ks, us)
  | .node (.fdi ks) us => some (ks, us)
  | _ => none
theorem EnvAt.dic {s : Sl} {v : V} {u : U} {ks : List Key} {us : List U} (E : EnvAt K fs e σ τ H ts) (hs : SlAt K fs H ts s (some v)) (hl : e.look s = some u) (h : u.dic = some (ks, us)) : ∃ a cs, v = .ref a ∧ T.erL cs = us ∧ Rd H a (.dK (ks.zip (cs.map T.val))) ∧ ks.Nodup ∧ ks.length = (cs.map T.val).length ∧ HoldsL K H cs ∧ ∀ (n : Nat) (c : T), cs[n]? = some c → SlAt K fs H ts (kidS s n c.er) (some c.val) := by
  unfold U.dic at h
  split at h
  · obtain ⟨rfl, rfl⟩ := Prod.mk.inj (Option.some.inj h)
    obtain ⟨a, cs, g1, g2, ⟨g3, g4⟩, g5, g6⟩ := E.node hs hl
    exact ⟨a, cs, g1, g2, .inl g4, g3.1, g3.2, g5, g6⟩
  · obtain ⟨rfl, rfl⟩ := Prod.mk.inj (Option.some.inj h)
    obtain ⟨a, cs, g1, g2, ⟨g3, od, g4⟩, g5, g6⟩ := E.node hs hl
    exact ⟨a, cs, g1, g2, .inr ⟨od, g4⟩, g3.1, g3.2, g5, g6⟩
  · cases h
/-- a scalar at hand -/
def Env.leaf (e : Env) : Option (V × Env) := match e.tp with
  | .val (.leaf x) :: tp => some (x, { e with tp := tp })
  | _ => none
theorem EnvAt.leaf {x y : V} {e1 : Env} (E : EnvAt K fs e σ (x :: τ) H ts) (h : e.leaf = some (y, e1)) : e1.np = e.np ∧ EnvAt K fs e1 σ τ H ts ∧ x = y ∧ scalV y = true := by
  obtain ⟨np, fz, st, sl, tp⟩ := e
  unfold Env.leaf at h
  split at h
  · rename_i x' tp' htp
    obtain rfl : tp = _ := htp
    obtain ⟨rfl, rfl⟩ := Prod.mk.inj (Option.some.inj h)
    obtain ⟨E1, s1⟩ := E.pop
    obtain ⟨rfl, c1⟩ := leaf_slat s1
    exact ⟨rfl, E1, rfl, c1⟩
  · cases h
theorem dget_zip {a : Addr} {k : Key} {ks : List Key} {vs : List V} (h : Rd H a (.dK (ks.zip vs))) (hl : ks.length = vs.length) : DGet H a (kV k) ((ixOf k ks).bind fun n => vs[n]?) := .inl ⟨_, k, h, rfl, (valV_zip k ks vs hl).symm⟩
def rDGet : R2 := fun x y H Q => ∃ a v, x = .ref a ∧ DGet H a y (some v) ∧ Q v H
def dDGet : DX := fun e => e.leaf.bind fun y => y.2.top.bind fun p => (keyOf y.1).bind fun k => p.2.1.dic.bind fun c => (ixOf k c.1).bind fun n => (c.2[n]?).map fun u => { p.2.2 with tp := kidS p.1 n u :: p.2.2.tp }
theorem rx_dget : RX2 K rDGet dDGet := fun fs e σ τ x y H ts E e' h Q q => by
  obtain ⟨⟨y', e1⟩, h1, h⟩ := Option.bind_eq_some_iff.mp h
  obtain ⟨⟨s, u, e2⟩, h2, h⟩ := Option.bind_eq_some_iff.mp h
  obtain ⟨k, h3, h⟩ := Option.bind_eq_some_iff.mp h
  obtain ⟨⟨ks, us⟩, h4, h⟩ := Option.bind_eq_some_iff.mp h
  obtain ⟨n, h5, h⟩ := Option.bind_eq_some_iff.mp h
  obtain ⟨w, h6, rfl⟩ := Option.map_eq_some_iff.mp h
  obtain ⟨n1, E1, rfl, _⟩ := E.leaf h1
  obtain ⟨n2, E2, s2, l2⟩ := E1.top h2
  obtain ⟨a, cs, rfl, rfl, g4, _, g5, g6, g7⟩ := E2.dic s2 l2 h4
  obtain ⟨c, hc, rfl⟩ := erL_get h6
  obtain rfl := keyOf_is h3
  have hd := dget_zip (k := k) g4 g5
  rw [h5] at hd
  have hd : DGet H a (kV k) ((cs.map T.val)[n]?) := hd
  rw [List.getElem?_map, hc] at hd
  exact ⟨a, c.val, rfl, hd, q _ H ⟨n2.trans n1, ts, E2.push (g7 n c hc), fun _ h => .inl h, Kp.refl _ _, Rv.refl _ _⟩⟩
theorem ex_dget (ha : EX K ta d1) (hb : EX K tb d2) : EX K (tDGet ta tb) (dseq d1 (dseq d2 dDGet)) := ex_op (r := rDGet) ha hb rx_dget
/-- k in d -/
def dIn (neg : Bool) : DX := fun e => e.top.bind fun p => p.2.2.leaf.bind fun y => (keyOf y.1).bind fun k => p.2.1.dic.map fun c => { y.2 with tp := .val (.leaf (.bl (if neg = true then !(ixOf k c.1).isSome else (ixOf k c.1).isSome))) :: y.2.tp }
def okL : Kd → Bool
  | .lst => true
  | .fls => true
  | _ => false
def okT : Kd → Bool
  | .tup => true
  | _ => false
theorem obj_sql {a : Addr} {k : Kd} {vs : List V} (h : IsObj K H a k vs) (hk : okL k = true) : SqL K H a vs := by
  cases k with
  | lst => exact .inl (.inl h)
  | fls =>
    rcases h with ⟨od, h⟩ | h
    · exact .inl (.inr ⟨od, h⟩)
    · exact .inr h
  | tup => cases hk
  | dic ks => cases hk
  | fdi ks => cases hk
  | dit ks => cases hk
  | tul => cases hk
  | fdt ks => cases hk
  | ins C fs => cases hk
  | tab P => cases hk
theorem obj_sqt {a : Addr} {k : Kd} {vs : List V} (h : IsObj K H a k vs) (hk : okT k = true) : SqT K H a vs := by
  cases k with
  | tup => exact h
  | lst => cases hk
  | fls => cases hk
  | dic ks => cases hk
  | fdi ks => cases hk
  | dit ks => cases hk
  | tul => cases hk
  | fdt ks => cases hk
  | ins C fs => cases hk
  | tab P => cases hk
def U.seq (ok : Kd → Bool) : U → Option (List U)
  | .node k us => if ok k = true then some us else none
  | _ => none
theorem EnvAt.seq {ok : Kd → Bool} {s : Sl} {v : V} {u : U} {us : List U} (E : EnvAt K fs e σ τ H ts) (hs : SlAt K fs H ts s (some v)) (hl : e.look s = some u) (h : u.seq ok = some us) : ∃ a k cs, v = .ref a ∧ ok k = true ∧ T.erL cs = us ∧ IsObj K H a k (cs.map T.val) ∧ HoldsL K H cs ∧ ∀ (n : Nat) (c : T), cs[n]? = some c → SlAt K fs H ts (kidS s n c.er) (some c.val) := by
  unfold U.seq at h
  split at h
  · rename_i k us'
    split at h
    · rename_i hk
      obtain rfl := Option.some.inj h
      obtain ⟨a, cs, g1, g2, g3, g4, g5⟩ := E.node hs hl
      exact ⟨a, k, cs, g1, hk, g2, g3, g4, g5⟩
    · cases h
  · cases h
def asInt : V → Option Int
  | .int i => some i
  | _ => none
theorem asInt_is {v : V} {i : Int} (h : asInt v = some i) : v = .int i := by
  cases v <;> cases h <;> rfl
def dIx (ok : Kd → Bool) : DX := fun e => e.leaf.bind fun y => y.2.top.bind fun p => (asInt y.1).bind fun i => (p.2.1.seq ok).bind fun us => (ixN us.length i).bind fun n => (us[n]?).map fun u => { p.2.2 with tp := kidS p.1 n u :: p.2.2.tp }
theorem atI_er {cs : List T} {i : Int} {n : Nat} {c : T} (h : ixN (T.erL cs).length i = some n) (hc : cs[n]? = some c) : atI (cs.map T.val) i = some c.val := by
  unfold atI
  rw [List.length_map, show cs.length = (T.erL cs).length by rw [erL_map, List.length_map], h]
  show (cs.map T.val)[n]? = _
  rw [List.getElem?_map, hc]
  rfl
theorem rx_ix {ok : Kd → Bool} {r : R2} (hr : ∀ (H : Hp) (Q : VK) (a : Addr) (k : Kd) (vs : List V) (i : Int) (v : V), IsObj K H a k vs → ok k = true → atI vs i = some v → Q v H → r (.ref a) (.int i) H Q) : RX2 K r (dIx ok) := fun fs e σ τ x y H ts E e' h Q q => by
  obtain ⟨⟨y', e1⟩, h1, h⟩ := Option.bind_eq_some_iff.mp h
  obtain ⟨⟨s, u, e2⟩, h2, h⟩ := Option.bind_eq_some_iff.mp h
  obtain ⟨i, hi, h⟩ := Option.bind_eq_some_iff.mp h
  obtain ⟨us, h3, h⟩ := Option.bind_eq_some_iff.mp h
  obtain ⟨n, h4, h⟩ := Option.bind_eq_some_iff.mp h
  obtain ⟨w, h5, rfl⟩ := Option.map_eq_some_iff.mp h
  obtain ⟨n1, E1, rfl, _⟩ := E.leaf h1
  obtain ⟨n2, E2, s2, l2⟩ := E1.top h2
  obtain rfl := asInt_is hi
  obtain ⟨a, k, cs, rfl, hk, rfl, g2, g3, g4⟩ := E2.seq s2 l2 h3
  obtain ⟨c, hc, rfl⟩ := erL_get h5
  exact hr H Q a k _ i c.val g2 hk (atI_er h4 hc) (q _ H ⟨n2.trans n1, ts, E2.push (g4 n c hc), fun _ h => .inl h, Kp.refl _ _, Rv.refl _ _⟩)
theorem rx_ixL : RX2 K (rIxL K) (dIx okL) := rx_ix fun H Q a k vs i v ho hk hv q => ⟨a, vs, i, v, rfl, rfl, obj_sql ho hk, hv, q⟩
theorem rx_ixT : RX2 K (rIxT K) (dIx okT) := rx_ix fun H Q a k vs i v ho hk hv q => ⟨a, vs, i, v, rfl, rfl, obj_sqt ho hk, hv, q⟩
abbrev DS := Env → Option Out
variable {s1 s2 : TS} {q1 q2 : DS}
def sSeq (a b : DS) : DS := fun e => match a e with
  | some (.nx e1) => b e1
  | o => o
theorem SX.post {s : TS} {dd : DS} (h : SX K s dd) {fs : List T} {e : Env} {σ : L2.St} {τ : List V} {H : Hp} {ts : List T} (E : EnvAt K fs e σ τ H ts) {o : Out} (ho : dd e = some o) {D : Ends} {np0 : Nat} {H0 : Hp} {ts0 : List T} (n0 : e.np = np0) (f0 : ∀ b ∈ T.footL ts, b ∈ T.footL ts0 ∨ H0 b = none) (k0 : Kp (fun b => b ∈ T.footL ts0) H0 H) (r0 : Rv np0 ts0 ts)
    (k : Post K fs np0 H0 ts0 τ D o) : s D σ H := by
  refine h fs e σ τ H ts E o ho D ?_
  cases o with
  | nx e' => exact fun σ' H' g => k σ' H' (Goes.to n0 f0 k0 r0 g)
  | rt e' => exact fun v σ' H' g => k v σ' H' (Goes.to n0 f0 k0 r0 g)
  | bk e' => exact fun σ' H' g => k σ' H' (Goes.to n0 f0 k0 r0 g)
  | ct e' => exact fun σ' H' g => k σ' H' (Goes.to n0 f0 k0 r0 g)
theorem sx_seq (h1 : SX K s1 q1) (h2 : SX K s2 q2) : SX K (tSeq s1 s2) (sSeq q1 q2) := fun fs e σ τ H ts E o h D k => by
  unfold sSeq at h
  split at h
  · rename_i e1 he
    refine h1 fs e σ τ H ts E _ he _ fun σ1 H1 g1 => ?_
    obtain ⟨n1, ts1, E1, f1, k1, r1⟩ := g1
    exact h2.post E1 h n1 f1 k1 r1 k
  · rename_i hn
    refine h1 fs e σ τ H ts E o h _ ?_
    cases o with
    | nx e' => exact absurd h (hn e')
    | rt e' => exact k
    | bk e' => exact k
    | ct e' => exact k
theorem sx_next : SX K tNext (fun e => some (.nx e)) := fun fs e σ τ H ts E o h D k => by
  rw [← Option.some.inj h] at k
  exact k σ H (Goes.refl E)
def Env.put (e : Env) (i : Nat) : Option Env := match e.tp with
  | s :: tp => if i < e.sl.length then some { e with sl := e.sl.set i s, tp := tp } else none
  | [] => none
theorem EnvAt.put {i : Nat} {v : V} {e' : Env} (E : EnvAt K fs e σ (v :: τ) H ts) (h : e.put i = some e') : e'.np = e.np ∧ EnvAt K fs e' (σ.set i (some v)) τ H ts := by
  obtain ⟨np, fz, st, sl, tp⟩ := e
  unfold Env.put at h
  split at h
  · rename_i s tp' htp
    obtain rfl : tp = _ := htp
    split at h
    · rename_i hi
      obtain rfl := Option.some.inj h
      obtain ⟨E1, h1⟩ := E.pop
      refine ⟨rfl, E1.er, E1.ho, E1.nd, E1.fe, E1.fh, E1.fd, by rw [List.length_set, List.length_set]; exact E1.lσ, E1.lτ, fun j z hz => ?_, E1.tp⟩
      have hz : (sl.set i s)[j]? = some z := hz
      have hlσ : σ.length = sl.length := E1.lσ
      have hi : i < sl.length := hi
      by_cases hj : i = j
      · subst hj
        rw [List.getElem?_set_self hi] at hz
        rw [← Option.some.inj hz]
        exact ⟨_, List.getElem?_set_self (by omega), h1⟩
      · rw [List.getElem?_set_ne hj] at hz
        obtain ⟨w, g1, g2⟩ := E1.sl j z hz
        exact ⟨w, by rw [List.getElem?_set_ne hj]; exact g1, g2⟩
    · cases h
  · cases h
def sSet (i : Nat) (a : DX) : DS := fun e => ((a e).bind fun e1 => e1.put i).map .nx
theorem sx_set {i : Nat} (ha : EX K te d) : SX K (tAsg te (gName i)) (sSet i d) := fun fs e σ τ H ts E o h D k => by
  obtain ⟨e2, hh, rfl⟩ := Option.map_eq_some_iff.mp h
  obtain ⟨e1, h1, h2⟩ := Option.bind_eq_some_iff.mp hh
  refine ha fs e σ τ H ts E e1 h1 _ fun v H1 g1 => ?_
  obtain ⟨n1, ts1, E1, f1, k1, r1⟩ := g1
  obtain ⟨n2, E2⟩ := E1.put h2
  exact k _ H1 ⟨n2.trans n1, ts1, E2, f1, k1, r1⟩
def Env.pop (e : Env) : Option Env := match e.tp with
  | _ :: tp => some { e with tp := tp }
  | [] => none
def sDrop (a : DX) : DS := fun e => ((a e).bind Env.pop).map .nx
theorem EnvAt.pop1 {v : V} {e' : Env} (E : EnvAt K fs e σ (v :: τ) H ts) (h : e.pop = some e') : e'.np = e.np ∧ EnvAt K fs e' σ τ H ts := by
  obtain ⟨np, fz, st, sl, tp⟩ := e
  unfold Env.pop at h
  split at h
  · rename_i s tp' htp
    obtain rfl : tp = _ := htp
    obtain rfl := Option.some.inj h
    exact ⟨rfl, E.pop.1⟩
  · cases h
theorem sx_drop (ha : EX K te d) : SX K (tDrop te) (sDrop d) := fun fs e σ τ H ts E o h D k => by
  obtain ⟨e2, hh, rfl⟩ := Option.map_eq_some_iff.mp h
  obtain ⟨e1, h1, h2⟩ := Option.bind_eq_some_iff.mp hh
  refine ha fs e σ τ H ts E e1 h1 _ fun v H1 g1 => ?_
  obtain ⟨n1, ts1, E1, f1, k1, r1⟩ := g1
  obtain ⟨n2, E2⟩ := E1.pop1 h2
  exact k _ H1 ⟨n2.trans n1, ts1, E2, f1, k1, r1⟩
def sRet (a : DX) : DS := fun e => (a e).map .rt
theorem sx_ret (ha : EX K te d) : SX K (tRet te) (sRet d) := fun fs e σ τ H ts E o h D k => by
  obtain ⟨e1, h1, rfl⟩ := Option.map_eq_some_iff.mp h
  exact ha fs e σ τ H ts E e1 h1 _ fun v H1 g1 => k v σ H1 g1
def sRetN : DS := fun e => some (.rt { e with tp := .val (.leaf .non) :: e.tp })
def sIf (c : DT) (a b : DS) : DS := fun e => (c e).bind fun p => if p.1 = true then a p.2 else b p.2
theorem sx_if {c : TT} {cd : DT} (hc : TX K c cd) (h1 : SX K s1 q1) (h2 : SX K s2 q2) : SX K (tIfS c s1 s2) (sIf cd q1 q2) := fun fs e σ τ H ts E o h D k => by
  obtain ⟨⟨b, e1⟩, hb, h⟩ := Option.bind_eq_some_iff.mp h
  refine hc fs e σ τ H ts E b e1 hb _ fun H1 g1 => ?_
  obtain ⟨n1, ts1, E1, f1, k1, r1⟩ := g1
  cases b with
  | true =>
    have h : q1 e1 = some o := h
    exact h1.post E1 h n1 f1 k1 r1 k
  | false =>
    have h : q2 e1 = some o := h
    exact h2.post E1 h n1 f1 k1 r1 k
end
end FB
namespace FB
open PySem PySem.Spec PyProof.Rows L2
abbrev Fn := List U → List U → List Sl → Option (Sl × List U)
def runF (m n : Nat) (d : DS) : Fn := fun fz st args => if args.length = m then (match d ⟨st.length, fz, st, args ++ List.replicate (n - m) .no, []⟩ with
  | some (.rt e) => match e.tp with
    | [r] => some (r, e.st)
    | _ => none
  | some (.nx e) => some (.val (.leaf .non), e.st)
  | _ => none) else none
structure FnPost (K : PySem.W.Frag) (fs : List T) (H : Hp) (ts : List T) (r : Sl) (st' : List U) (v : V) (H' : Hp) (ts' : List T) : Prop where
  ho : HoldsL K H' ts'
  nd : (T.footL ts').Nodup
  er : T.erL ts' = st'
  rs : SlAt K fs H' ts' r (some v)
  ft : ∀ b ∈ T.footL ts', b ∈ T.footL ts ∨ H b = none
  kp : Kp (fun b => b ∈ T.footL ts) H H'
  rv : Rv ts.length ts ts'
def spU (K : PySem.W.Frag) (F : Fn) : Sp := fun vs H Q _ => ∃ (fs ts : List T) (args : List Sl) (r : Sl) (st' : List U), HoldsL K H fs ∧ (∀ b ∈ T.footL fs, b ∉ T.footL ts) ∧ HoldsL K H ts ∧ (T.footL ts).Nodup ∧ args.length = vs.length ∧ (∀ (i : Nat) (s : Sl), args[i]? = some s → ∃ v, vs[i]? = some v ∧ SlAt K fs H ts s (some v)) ∧ F (T.erL fs) (T.erL ts) args = some (r, st') ∧ ∀ (v : V) (H' : Hp) (ts' : List T), FnPost K fs H ts r st' v H' ts' → Q v H'
section
variable {K : PySem.W.Frag} {H H' : Hp} {fs : List T} {ta tb te tc : TE} {d d1 d2 d3 : DX} {r : R2} {e : Env} {σ : L2.St} {τ : List V} {ts : List T}
theorem start_len (N : List Str) (vs : List V) (h : vs.length ≤ N.length) : (L2.start N vs).length = N.length := by
  unfold L2.start
  simp
  omega
theorem spU_len {m n : Nat} {dd : DS} {vs : List V} {Q : VK} {E : XK} (h : spU K (runF m n dd) vs H Q E) : vs.length = m := by
  obtain ⟨fs, ts, args, r, st', hf1, hf2, h1, h2, h3, h4, h5, q⟩ := h
  unfold runF at h5
  split at h5
  · rename_i hm
    rw [← h3, hm]
  · cases h5
theorem spU_run {N : List Str} {m n : Nat} {dd : DS} {te : TS} {vs : List V} {Q : VK} {E : XK} (h : spU K (runF m n dd) vs H Q E) (hN : N.length = n) (hv : m ≤ n) (hs : SX K te dd) : te { nx := fun _ H' => Q .non H', rt := Q } (L2.start N vs) H := by
  have hlen := spU_len h
  obtain ⟨fs, ts, args, r, st', hf1, hf2, h1, h2, h3, h4, h5, q⟩ := h
  have hv' : vs.length ≤ N.length := by omega
  have E0 : EnvAt K fs ⟨(T.erL ts).length, T.erL fs, T.erL ts, args ++ List.replicate (n - m) .no, []⟩ (L2.start N vs) [] H ts := by
    refine ⟨rfl, h1, h2, rfl, hf1, hf2, ?_, rfl, fun i s hi => ?_, fun i s hi => by cases hi⟩
    · rw [start_len N vs hv', List.length_append, List.length_replicate]
      omega
    · have hi : (args ++ List.replicate (n - m) Sl.no)[i]? = some s := hi
      by_cases hl : i < args.length
      · rw [List.getElem?_append_left hl] at hi
        obtain ⟨v, g1, g2⟩ := h4 i s hi
        refine ⟨some v, ?_, g2⟩
        unfold L2.start
        have hiv : i < vs.length := (List.getElem?_eq_some_iff.mp g1).1
        rw [List.getElem?_append_left (by rw [List.length_map]; exact hiv), List.getElem?_map, g1]
        rfl
      · rw [List.getElem?_append_right (by omega)] at hi
        have hs : s = .no := by
          rw [List.getElem?_replicate] at hi
          split at hi
          · exact (Option.some.inj hi).symm
          · cases hi
        subst hs
        have hin : i < (L2.start N vs).length := by
          rw [start_len N vs hv']
          have := (List.getElem?_eq_some_iff.mp hi).1
          rw [List.length_replicate] at this
          omega
        exact ⟨_, List.getElem?_eq_getElem hin, trivial⟩
  have en : (T.erL ts).length = ts.length := by rw [erL_map, List.length_map]
  unfold runF at h5
  split at h5
  · split at h5
    · rename_i e1 he
      split at h5
      · rename_i r' htp
        obtain ⟨rfl, rfl⟩ := Prod.mk.inj (Option.some.inj h5)
        refine hs _ _ _ _ H ts E0 _ he _ fun v σ' H' g => ?_
        obtain ⟨_, ts', E', f', k', r'⟩ := g
        obtain ⟨np, fz, st, sl, tp⟩ := e1
        obtain rfl : tp = _ := htp
        exact q v H' ts' ⟨E'.ho, E'.nd, E'.er, E'.pop.2, f', k', by rw [← en]; exact r'⟩
      · cases h5
    · rename_i e1 he
      obtain ⟨rfl, rfl⟩ := Prod.mk.inj (Option.some.inj h5)
      refine hs _ _ _ _ H ts E0 _ he _ fun σ' H' g => ?_
      obtain ⟨_, ts', E', f', k', r'⟩ := g
      exact q .non H' ts' ⟨E'.ho, E'.nd, E'.er, slat_leaf rfl, f', k', by rw [← en]; exact r'⟩
    · cases h5
  · cases h5
theorem put_holdsW {W : Addr → Prop} : ∀ {π : List Nat} {t s w : T}, t.get π = some s → w.val = s.val → Holds K H t → t.foot.Nodup → Kp W H H' → WM W H → (∀ b ∈ t.foot, W b → b ∈ s.foot) → Holds K H' w → Holds K H' (t.put π w)
  | [], t, s, w, h, _, _, _, _, _, _, hw => by rw [T.put]; exact hw
  | n :: π, .leaf v, s, w, h, _, _, _, _, _, _, _ => by cases h
  | n :: π, .node a k ts, s, w, h, ev, ho, nd, kp, wm, hW, hw => by
    rw [T.get, T.kid] at h
    rw [T.put]
    cases e : ts[n]? with
    | none => rw [e] at h; cases h
    | some t =>
      rw [e] at h
      rw [Holds] at ho
      obtain ⟨x, y, e3, e4⟩ := split_at e
      obtain ⟨L, R, e1, e2⟩ := put_foot (t := t) h
      have hT : Holds K H t := (holdsL_iff ts).mp ho.2 t (List.mem_of_getElem? e)
      have ef : T.foot (.node a k ts) = (if k.mut = true then [a] else []) ++ (T.footL x ++ ((L ++ s.foot ++ R) ++ T.footL y)) := by
        rw [T.foot, footL_map, e3, List.map_append, List.map_cons, List.flatten_append, List.flatten_cons, ← footL_map, ← footL_map, e1]
        split <;> rfl
      rw [ef] at nd hW
      have hcn := nodup_count.mp nd
      have na : k.mut = true → ¬ W a := fun m hm => by
        rw [if_pos m] at hcn hW
        have h1 := hcn a
        have h2 := hW a (by simp) hm
        have h3 := List.count_pos_iff.mpr h2
        simp only [List.count_append, List.count_cons_self] at h1
        omega
      have nx : ∀ b ∈ T.footL x, ¬ W b := fun b hb hs => by
        have h1 := hcn b
        have h2 := List.count_pos_iff.mpr (hW b (by simp [hb]) hs)
        have h3 := List.count_pos_iff.mpr hb
        simp only [List.count_append] at h1
        omega
      have ny : ∀ b ∈ T.footL y, ¬ W b := fun b hb hs => by
        have h1 := hcn b
        have h2 := List.count_pos_iff.mpr (hW b (by simp [hb]) hs)
        have h3 := List.count_pos_iff.mpr hb
        simp only [List.count_append] at h1
        omega
      have ndt : t.foot.Nodup := by
        rw [e1, nodup_count]
        intro b
        have h1 := hcn b
        simp only [List.count_append] at h1 ⊢
        omega
      show Holds K H' (.node a k (ts.set n (t.put π w)))
      rw [Holds, e4]
      have hv : (t.put π w).val = t.val := put_val h ev
      refine ⟨?_, ?_⟩
      · have : (x ++ t.put π w :: y).map T.val = ts.map T.val := by rw [e3, List.map_append, List.map_append, List.map_cons, List.map_cons, hv]
        rw [this]
        exact obj_kp ho.1 kp wm na
      · rw [holdsL_iff]
        rw [e3] at ho
        have hl := (holdsL_iff _).mp ho.2
        intro q hq
        rcases List.mem_append.mp hq with hq | hq
        · refine holds_kp kp wm q (hl q (List.mem_append_left _ hq)) fun b hb => nx b ?_
          rw [footL_map]
          exact List.mem_flatten.mpr ⟨_, List.mem_map.mpr ⟨q, hq, rfl⟩, hb⟩
        · rcases List.mem_cons.mp hq with hq | hq
          · rw [hq]
            exact put_holdsW (t := t) h ev hT ndt kp wm (fun b hb => hW b (by rw [e1] at hb; simp only [List.mem_append] at hb ⊢; exact .inr (.inr (.inl hb)))) hw
          · refine holds_kp kp wm q (hl q (List.mem_append_right _ (List.mem_cons_of_mem _ hq))) fun b hb => ny b ?_
            rw [footL_map]
            exact List.mem_flatten.mpr ⟨_, List.mem_map.mpr ⟨q, hq, rfl⟩, hb⟩
abbrev Rt := Nat × List Nat
def putAll : List T → List Rt → List T → List T
  | ts, (j, π) :: rs, w :: ws => putAll (match ts[j]? with
    | some t => ts.set j (t.put π w)
    | none => ts) rs ws
  | ts, _, _ => ts
def putAllU : List U → List Rt → List U → List U
  | st, (j, π) :: rs, w :: ws => putAllU (match st[j]? with
    | some t => st.set j (t.put π w)
    | none => st) rs ws
  | st, _, _ => st
theorem er_putAll : ∀ {ts : List T} {rs : List Rt} {ws : List T}, T.erL (putAll ts rs ws) = putAllU (T.erL ts) rs (T.erL ws)
  | ts, [], ws => by cases ws <;> rfl
  | ts, (j, π) :: rs, [] => rfl
  | ts, (j, π) :: rs, w :: ws => by
    rw [putAll, T.erL, putAllU, er_putAll]
    congr 1
    rw [erL_map ts, List.getElem?_map]
    cases e : ts[j]? with
    | none => exact erL_map ts
    | some t =>
      show T.erL (ts.set j (t.put π w)) = (ts.map T.er).set j (t.er.put π w.er)
      rw [erL_set, er_put, erL_map]
/-- the parts at the roots -/
inductive Subs (ts : List T) : List Rt → List T → Prop
  | nil : Subs ts [] []
  | cons {j : Nat} {π : List Nat} {rs : List Rt} {t s : T} {ss : List T} (hj : ts[j]? = some t) (hg : t.get π = some s) (hn : j ∉ rs.map (·.1)) (h : Subs ts rs ss) : Subs ts ((j, π) :: rs) (s :: ss)
theorem Subs.set {ts : List T} {j : Nat} {t : T} : ∀ {rs : List Rt} {ss : List T}, Subs ts rs ss → j ∉ rs.map (·.1) → Subs (ts.set j t) rs ss
  | _, _, .nil, _ => .nil
  | _, _, .cons hj hg hn h, hm => by
    rw [List.map_cons, List.mem_cons, not_or] at hm
    exact .cons (by rw [List.getElem?_set_ne hm.1]; exact hj) hg hn (h.set hm.2)
theorem putAll_count : ∀ {rs : List Rt} {ts ss ws : List T} (b : Addr), Subs ts rs ss → ws.length = ss.length → (T.footL (putAll ts rs ws)).count b + (T.footL ss).count b = (T.footL ts).count b + (T.footL ws).count b
  | _, ts, _, ws, b, .nil, hl => by
    obtain rfl := List.length_eq_zero_iff.mp hl
    rfl
  | _, ts, _, ws, b, .cons (j := j) (π := π) (t := t) (s := s) hj hg hn h, hl => by
    cases ws with
    | nil => cases hl
    | cons w ws =>
      rw [putAll, hj]
      obtain ⟨L, R, e1, e2⟩ := footL_split hj
      obtain ⟨L2, R2, e3, e4⟩ := put_foot hg
      have ih := putAll_count (ts := ts.set j (t.put π w)) (ws := ws) b (h.set hn) (by simpa using hl)
      show (T.footL (putAll (ts.set j (t.put π w)) _ ws)).count b + _ = _
      rw [e2, e4] at ih
      rw [e1, e3, T.footL, T.footL]
      simp only [List.count_append] at ih ⊢
      omega
theorem putAll_other : ∀ {rs : List Rt} {ts ss ws : List T} {i : Nat}, Subs ts rs ss → ws.length = ss.length → i ∉ rs.map (·.1) → (putAll ts rs ws)[i]? = ts[i]?
  | _, ts, _, ws, i, .nil, hl, _ => by
    obtain rfl := List.length_eq_zero_iff.mp hl
    rfl
  | _, ts, _, ws, i, .cons (j := j) (π := π) (t := t) (s := s) hj hg hn h, hl, hi => by
    cases ws with
    | nil => cases hl
    | cons w ws =>
      rw [List.map_cons, List.mem_cons, not_or] at hi
      rw [putAll, hj]
      show (putAll (ts.set j (t.put π w)) _ ws)[i]? = _
      rw [putAll_other (h.set hn) (by simpa using hl) hi.2, List.getElem?_set_ne fun z => hi.1 z.symm]
/-- at a root: the part is put in -/
theorem putAll_at : ∀ {rs : List Rt} {ts ss ws : List T} {i : Nat}, Subs ts rs ss → ws.length = ss.length → i ∈ rs.map (·.1) → ∃ π t s w, (i, π) ∈ rs ∧ ts[i]? = some t ∧ t.get π = some s ∧ (s, w) ∈ ss.zip ws ∧ (putAll ts rs ws)[i]? = some (t.put π w) ∧ ∀ π', (i, π') ∈ rs → π' = π
  | _, ts, _, ws, i, .nil, hl, hi => by cases hi
  | _, ts, _, ws, i, .cons (j := j) (π := π) (t := t) (s := s) hj hg hn h, hl, hi => by
    cases ws with
    | nil => cases hl
    | cons w ws =>
      rw [putAll, hj]
      show ∃ π t s w, _ ∧ _ ∧ _ ∧ _ ∧ (putAll (ts.set j _) _ ws)[i]? = _ ∧ _
      by_cases hij : i = j
      · subst hij
        refine ⟨π, t, s, w, List.mem_cons_self, hj, hg, List.mem_cons_self, ?_, fun π' h' => ?_⟩
        · rw [putAll_other (h.set hn) (by simpa using hl) hn, List.getElem?_set_self (List.getElem?_eq_some_iff.mp hj).1]
        · rcases List.mem_cons.mp h' with h' | h'
          · exact (Prod.mk.inj h').2
          · exact absurd (List.mem_map.mpr ⟨_, h', rfl⟩) hn
      · have hi2 := (List.mem_cons.mp hi).resolve_left hij
        obtain ⟨π1, t1, s1, w1, g1, g2, g3, g4, g5, g6⟩ := putAll_at (ts := ts.set j (t.put π w)) (h.set hn) (ws := ws) (by simpa using hl) hi2
        rw [List.getElem?_set_ne fun z => hij z.symm] at g2
        refine ⟨π1, t1, s1, w1, List.mem_cons_of_mem _ g1, g2, g3, List.mem_cons_of_mem _ g4, g5, fun π' h' => ?_⟩
        rcases List.mem_cons.mp h' with h' | h'
        · exact absurd (Prod.mk.inj h').1 hij
        · exact g6 π' h'
theorem subs_foot : ∀ {rs : List Rt} {ts ss : List T}, Subs ts rs ss → ∀ b ∈ T.footL ss, ∃ (j : Nat) (π : List Nat) (t s : T), (j, π) ∈ rs ∧ ts[j]? = some t ∧ t.get π = some s ∧ b ∈ s.foot ∧ b ∈ t.foot
  | _, ts, _, .nil, b, hb => by rw [T.footL] at hb; cases hb
  | _, ts, _, .cons (j := j) (π := π) (t := t) (s := s) hj hg hn h, b, hb => by
    rw [T.footL] at hb
    rcases List.mem_append.mp hb with hb | hb
    · obtain ⟨L, R, e1, _⟩ := put_foot hg
      exact ⟨j, π, t, s, List.mem_cons_self, hj, hg, hb, by rw [e1]; simp [hb]⟩
    · obtain ⟨j', π', t', s', g1, g2⟩ := subs_foot h b hb
      exact ⟨j', π', t', s', List.mem_cons_of_mem _ g1, g2⟩
theorem feet_apart {ts : List T} {i j : Nat} {t t' : T} {b : Addr} (nd : (T.footL ts).Nodup) (hi : ts[i]? = some t) (hj : ts[j]? = some t') (hn : i ≠ j) (h1 : b ∈ t.foot) (h2 : b ∈ t'.foot) : False := by
  obtain ⟨L, R, e1, e2⟩ := footL_split hi
  have h3 := e2 (.leaf .non)
  rw [T.foot, List.append_nil] at h3
  have h4 : b ∈ T.footL (ts.set i (.leaf .non)) := by
    rw [footL_map]
    refine List.mem_flatten.mpr ⟨_, List.mem_map.mpr ⟨t', ?_, rfl⟩, h2⟩
    have : (ts.set i (.leaf .non))[j]? = some t' := by rw [List.getElem?_set_ne hn]; exact hj
    exact List.mem_of_getElem? this
  rw [h3] at h4
  have h5 := nodup_count.mp nd b
  rw [e1] at h5
  have h6 := List.count_pos_iff.mpr h1
  have h7 := List.count_pos_iff.mpr h4
  simp only [List.count_append] at h5 h7
  omega
end
end FB
namespace FB
open PySem PySem.Spec PyProof.Rows L2
section
variable {K : PySem.W.Frag} {H H' : Hp} {fs : List T} {ta tb te tc : TE} {d d1 d2 d3 : DX} {r : R2} {e : Env} {σ : L2.St} {τ : List V} {ts : List T}
def klAll (rs : List Rt) (s : Sl) : Sl := rs.foldl (fun s r => kl r.1 r.2 List.isEmpty s) s
theorem klAll_no : ∀ (rs : List Rt), klAll rs .no = .no
  | [] => rfl
  | r :: rs => klAll_no rs
theorem klAll_val {u : U} : ∀ (rs : List Rt), klAll rs (.val u) = .val u
  | [] => rfl
  | r :: rs => klAll_val rs
theorem klAll_fref {j : Nat} {π : List Nat} : ∀ (rs : List Rt), klAll rs (.fref j π) = .fref j π
  | [] => rfl
  | r :: rs => klAll_fref rs
theorem klAll_other {j : Nat} {π' : List Nat} : ∀ {rs : List Rt}, j ∉ rs.map (·.1) → klAll rs (.ref j π') = .ref j π'
  | [], _ => rfl
  | r :: rs, h => by
    rw [List.map_cons, List.mem_cons, not_or] at h
    show klAll rs (kl r.1 r.2 List.isEmpty (.ref j π')) = _
    rw [kl_other h.1]
    exact klAll_other h.2
theorem klAll_at {j : Nat} {π π' : List Nat} : ∀ {rs : List Rt}, (rs.map (·.1)).Nodup → (j, π) ∈ rs → klAll rs (.ref j π') = kl j π List.isEmpty (.ref j π')
  | [], _, h => by cases h
  | r :: rs, nd, h => by
    rw [List.map_cons, List.nodup_cons] at nd
    show klAll rs (kl r.1 r.2 List.isEmpty (.ref j π')) = _
    rcases List.mem_cons.mp h with h | h
    · rw [← h]
      rw [← h] at nd
      rw [kl_same]
      split
      · split
        · exact klAll_other nd.1
        · exact klAll_no rs
      · exact klAll_other nd.1
    · have hn : j ≠ r.1 := fun z => nd.1 (List.mem_map.mpr ⟨_, h, z⟩)
      rw [kl_other hn]
      exact klAll_at nd.2 h
theorem Subs.nodup : ∀ {rs : List Rt} {ss : List T}, Subs ts rs ss → (rs.map (·.1)).Nodup
  | _, _, .nil => List.nodup_nil
  | _, _, .cons _ _ hn h => by
    rw [List.map_cons, List.nodup_cons]
    exact ⟨hn, h.nodup⟩
theorem Subs.len : ∀ {rs : List Rt} {ss : List T}, Subs ts rs ss → ss.length = rs.length
  | _, _, .nil => rfl
  | _, _, .cons _ _ _ h => by rw [List.length_cons, List.length_cons, h.len]
theorem zip_val : ∀ {ss ws : List T} {s w : T}, ws.map T.val = ss.map T.val → (s, w) ∈ ss.zip ws → w.val = s.val
  | [], ws, s, w, _, h => by simp at h
  | x :: ss, [], s, w, _, h => by simp at h
  | x :: ss, y :: ws, s, w, e, h => by
    rw [List.map_cons, List.map_cons] at e
    obtain ⟨e1, e2⟩ := List.cons.inj e
    rw [List.zip_cons_cons] at h
    rcases List.mem_cons.mp h with h | h
    · obtain ⟨rfl, rfl⟩ := Prod.mk.inj h
      exact e1
    · exact zip_val e2 h
theorem subs_count {rs : List Rt} {ss : List T} (S : Subs ts rs ss) (b : Addr) : (T.footL ss).count b ≤ (T.footL ts).count b := by
  have h := putAll_count (ws := ss.map fun _ => T.leaf .non) b S (by simp)
  have h2 : T.footL (ss.map fun _ => T.leaf .non) = [] := footL_nil fun c hc => by
    obtain ⟨_, _, rfl⟩ := List.mem_map.mp hc
    rw [T.foot]
  rw [h2] at h
  simp only [List.count_nil] at h
  omega
theorem EnvAt.modAll {rs : List Rt} {ss ws : List T} (E : EnvAt K fs e σ τ H ts) (S : Subs ts rs ss) (hv : ws.map T.val = ss.map T.val) (kp : Kp (fun b => b ∈ T.footL ss) H H') (hw : HoldsL K H' ws) (nw : (T.footL ws).Nodup) (fw : ∀ b ∈ T.footL ws, b ∈ T.footL ss ∨ H b = none) :
    EnvAt K fs { e with st := putAllU e.st rs (T.erL ws), sl := e.sl.map (klAll rs), tp := e.tp.map (klAll rs) } σ τ H' (putAll ts rs ws) ∧ (∀ b ∈ T.footL (putAll ts rs ws), b ∈ T.footL ts ∨ H b = none) ∧ Kp (fun b => b ∈ T.footL ts) H H' ∧ Rv e.np ts (putAll ts rs ws) := by
  have hl : ws.length = ss.length := by
    have := congrArg List.length hv
    simpa using this
  have hT := (holdsL_iff ts).mp E.ho
  have hcn := nodup_count.mp E.nd
  have hsub : ∀ b ∈ T.footL ss, b ∈ T.footL ts := fun b hb => List.count_pos_iff.mp (Nat.lt_of_lt_of_le (List.count_pos_iff.mpr hb) (subs_count S b))
  have wm : WM (fun b => b ∈ T.footL ss) H := fun b hb => holdsL_mut ts E.ho b (hsub b hb)
  have hm : ∀ {i : Nat} {t : T}, ts[i]? = some t → ∀ b ∈ t.foot, b ∈ T.footL ts := fun {i t} hi b hb => by
    rw [footL_map]
    exact List.mem_flatten.mpr ⟨_, List.mem_map.mpr ⟨t, List.mem_of_getElem? hi, rfl⟩, hb⟩
  have hnd : ∀ {i : Nat} {t : T}, ts[i]? = some t → t.foot.Nodup := fun {i t} hi => by
    obtain ⟨L, R, e1, _⟩ := footL_split hi
    rw [nodup_count]
    intro b
    have := hcn b
    rw [e1] at this
    simp only [List.count_append] at this
    omega
  have key : ∀ {i : Nat} {t : T}, (putAll ts rs ws)[i]? = some t → Holds K H' t := fun {i t} hi => by
    by_cases hr : i ∈ rs.map (·.1)
    · obtain ⟨π, t0, s, w, g1, g2, g3, g4, g5, g6⟩ := putAll_at S hl hr
      rw [hi] at g5
      obtain rfl := Option.some.inj g5
      refine put_holdsW g3 (zip_val hv g4) (hT t0 (List.mem_of_getElem? g2)) (hnd g2) kp wm (fun b hb hbs => ?_) ((holdsL_iff ws).mp hw w (List.of_mem_zip g4).2)
      obtain ⟨j, π', t', s', a1, a2, a3, a4, a5⟩ := subs_foot S b hbs
      by_cases hij : i = j
      · subst hij
        obtain rfl := g6 π' a1
        rw [g2] at a2
        obtain rfl := Option.some.inj a2
        rw [g3] at a3
        obtain rfl := Option.some.inj a3
        exact a4
      · exact (feet_apart E.nd g2 a2 hij hb a5).elim
    · rw [putAll_other S hl hr] at hi
      refine holds_kp kp wm t (hT t (List.mem_of_getElem? hi)) fun b hb hbs => ?_
      obtain ⟨j, π', t', s', a1, a2, a3, a4, a5⟩ := subs_foot S b hbs
      refine feet_apart E.nd hi a2 (fun z => hr ?_) hb a5
      rw [z]
      exact List.mem_map.mpr ⟨_, a1, rfl⟩
  have slk : ∀ {z : Sl} {v : Option V}, SlAt K fs H ts z v → SlAt K fs H' (putAll ts rs ws) (klAll rs z) v := fun {z v} h => by
    cases z with
    | no => rw [klAll_no]; trivial
    | val u => rw [klAll_val]; exact SlAt.kp h kp wm
    | fref j π => rw [klAll_fref]; exact h
    | ref j π' =>
      obtain ⟨tj, q, h1, h2, h3⟩ := h
      by_cases hr : j ∈ rs.map (·.1)
      · obtain ⟨π, t0, s, w, g1, g2, g3, g4, g5, g6⟩ := putAll_at S hl hr
        rw [klAll_at S.nodup g1, kl_same]
        rw [h1] at g2
        obtain rfl := Option.some.inj g2
        have kk := get_put g3 (zip_val hv g4) π' q h2
        cases hs : strip π π' with
        | none =>
          obtain ⟨r', e1, e2⟩ := kk.1 hs
          exact ⟨_, r', g5, e1, by rw [e2]; exact h3⟩
        | some κ =>
          obtain ⟨e1, e2⟩ := kk.2 κ hs
          show SlAt K fs H' _ (if κ.isEmpty = true then Sl.ref j π' else Sl.no) v
          split
          · rename_i hk
            obtain rfl := List.isEmpty_iff.mp hk
            refine ⟨_, w, g5, by rw [e1]; rfl, ?_⟩
            rw [zip_val hv g4, show s = q from Option.some.inj e2]
            exact h3
          · trivial
      · rw [klAll_other hr]
        exact ⟨tj, q, by rw [putAll_other S hl hr]; exact h1, h2, h3⟩
  have hcount := fun b => putAll_count (ws := ws) b S hl
  refine ⟨⟨?_, ?_, ?_, E.fe, holdsL_kp kp wm fs E.fh fun b hb hs => E.fd b hb (hsub b hs), fun b hb hm => ?_, by rw [List.length_map]; exact E.lσ, by rw [List.length_map]; exact E.lτ, fun i z hz => ?_, fun i z hz => ?_⟩, fun b hb => ?_, fun b o hb n => kp b o hb fun z => n (hsub b z), fun i t hi ht => ?_⟩
  · rw [er_putAll, E.er]
  · rw [holdsL_iff]
    intro t ht
    obtain ⟨i, hi⟩ := List.mem_iff_getElem?.mp ht
    exact key hi
  · rw [nodup_count]
    intro b
    have h1 := hcount b
    have h2 := hcn b
    have h3 := subs_count S b
    have h4 := nodup_count.mp nw b
    by_cases hb : b ∈ T.footL ws
    · rcases fw b hb with h5 | h5
      · have := List.count_pos_iff.mpr h5
        omega
      · have h6 : (T.footL ts).count b = 0 := List.count_eq_zero_of_not_mem fun hm => MutO.some (holdsL_mut ts E.ho b hm) h5
        omega
    · have := List.count_eq_zero_of_not_mem hb
      omega
  · have h1 := hcount b
    have h2 := List.count_pos_iff.mpr hm
    have h3 := List.count_eq_zero_of_not_mem (E.fd b hb)
    by_cases hw2 : b ∈ T.footL ws
    · rcases fw b hw2 with h5 | h5
      · exact E.fd b hb (hsub b h5)
      · exact MutO.some (holdsL_mut fs E.fh b hb) h5
    · have := List.count_eq_zero_of_not_mem hw2
      omega
  · rw [List.getElem?_map] at hz
    obtain ⟨z0, hz0, rfl⟩ := Option.map_eq_some_iff.mp hz
    obtain ⟨v, h1, h2⟩ := E.sl i z0 hz0
    exact ⟨v, h1, slk h2⟩
  · rw [List.getElem?_map] at hz
    obtain ⟨z0, hz0, rfl⟩ := Option.map_eq_some_iff.mp hz
    obtain ⟨v, h1, h2⟩ := E.tp i z0 hz0
    exact ⟨v, h1, slk h2⟩
  · have h1 := hcount b
    have h2 := List.count_pos_iff.mpr hb
    by_cases hw2 : b ∈ T.footL ws
    · rcases fw b hw2 with h5 | h5
      · exact .inl (hsub b h5)
      · exact .inr h5
    · have := List.count_eq_zero_of_not_mem hw2
      exact .inl (List.count_pos_iff.mp (by omega))
  · by_cases hr : i ∈ rs.map (·.1)
    · obtain ⟨π, t0, s, w, g1, g2, g3, g4, g5, g6⟩ := putAll_at S hl hr
      rw [ht] at g2
      obtain rfl := Option.some.inj g2
      exact ⟨_, g5, put_val g3 (zip_val hv g4)⟩
    · exact ⟨t, by rw [putAll_other S hl hr]; exact ht, rfl⟩
def argSl : List Sl → List Rt → Option (List Sl × List Rt)
  | [], acc => some ([], acc)
  | .val u :: r, acc => (argSl r acc).map fun p => (.val u :: p.1, p.2)
  | .fref j π :: r, acc => (argSl r acc).map fun p => (.fref j π :: p.1, p.2)
  | .ref j π :: r, acc => match ixOf (j, π) acc with
    | some i => (argSl r acc).map fun p => (.ref i [] :: p.1, p.2)
    | none => if j ∈ acc.map (·.1) then none else (argSl r (acc ++ [(j, π)])).map fun p => (.ref acc.length [] :: p.1, p.2)
  | .no :: _, _ => none
def subsU (e : Env) : List Rt → Option (List U)
  | [] => some []
  | r :: rs => (e.at r.1 r.2).bind fun u => (subsU e rs).map (u :: ·)
theorem EnvAt.subs (E : EnvAt K fs e σ τ H ts) : ∀ {rs : List Rt} {us : List U}, subsU e rs = some us → (rs.map (·.1)).Nodup → ∃ ss, Subs ts rs ss ∧ T.erL ss = us ∧ HoldsL K H ss
  | [], us, h, _ => ⟨[], .nil, by rw [T.erL]; exact Option.some.inj h, trivial⟩
  | (j, π) :: rs, us, h, nd => by
    rw [List.map_cons, List.nodup_cons] at nd
    obtain ⟨u, h1, h2⟩ := Option.bind_eq_some_iff.mp h
    obtain ⟨us', h3, rfl⟩ := Option.map_eq_some_iff.mp h2
    obtain ⟨ss, g1, g2, g3⟩ := E.subs h3 nd.2
    obtain ⟨tj, s, a1, a2, rfl, a4⟩ := E.get h1
    exact ⟨s :: ss, .cons a1 a2 nd.1 g1, by rw [T.erL, g2], by rw [HoldsL]; exact ⟨a4, g3⟩⟩
theorem Subs.get {rs : List Rt} {ss : List T} (S : Subs ts rs ss) : ∀ {i j : Nat} {π : List Nat}, rs[i]? = some (j, π) → ∃ t s, ss[i]? = some s ∧ ts[j]? = some t ∧ t.get π = some s := by
  induction S with
  | nil => intro i j π h; cases h
  | cons hj hg hn h ih =>
    intro i j π hi
    cases i with
    | zero =>
      obtain ⟨rfl, rfl⟩ := Prod.mk.inj (Option.some.inj hi)
      exact ⟨_, _, rfl, hj, hg⟩
    | succ i => exact ih hi
theorem ixOf_get {α : Type} [DecidableEq α] {k : α} : ∀ {ks : List α} {n : Nat}, ixOf k ks = some n → ks[n]? = some k
  | [], n, h => by cases h
  | x :: r, n, h => by
    rw [ixOf] at h
    split at h
    · rename_i e
      obtain rfl := Option.some.inj h
      rw [← e]
      rfl
    · obtain ⟨m, h1, rfl⟩ := Option.map_eq_some_iff.mp h
      show r[m]? = some k
      exact ixOf_get h1
theorem arg_ext : ∀ {ss : List Sl} {acc : List Rt} {args : List Sl} {rs : List Rt}, argSl ss acc = some (args, rs) → (acc.map (·.1)).Nodup → (rs.map (·.1)).Nodup ∧ args.length = ss.length ∧ (∀ (i : Nat) (r : Rt), acc[i]? = some r → rs[i]? = some r) ∧ ∀ (i : Nat) (a : Sl), args[i]? = some a → ∃ s, ss[i]? = some s ∧ ((∃ u, s = .val u ∧ a = .val u) ∨ (∃ j π, s = .fref j π ∧ a = .fref j π) ∨ ∃ j π n, s = .ref j π ∧ a = .ref n [] ∧ rs[n]? = some (j, π))
  | [], acc, args, rs, h, nd => by
    obtain ⟨rfl, rfl⟩ := Prod.mk.inj (Option.some.inj h)
    exact ⟨nd, rfl, fun _ _ h => h, fun i a h => by cases h⟩
  | .no :: r, acc, args, rs, h, nd => by cases h
  | .val u :: r, acc, args, rs, h, nd => by
    obtain ⟨⟨a', rs'⟩, h1, h2⟩ := Option.map_eq_some_iff.mp h
    obtain ⟨rfl, rfl⟩ := Prod.mk.inj h2
    obtain ⟨g1, g2, g3, g4⟩ := arg_ext h1 nd
    refine ⟨g1, by rw [List.length_cons, List.length_cons, g2], g3, fun i a hi => ?_⟩
    cases i with
    | zero => exact ⟨_, rfl, .inl ⟨u, rfl, (Option.some.inj hi).symm⟩⟩
    | succ i => exact g4 i a hi
  | .fref j π :: r, acc, args, rs, h, nd => by
    obtain ⟨⟨a', rs'⟩, h1, h2⟩ := Option.map_eq_some_iff.mp h
    obtain ⟨rfl, rfl⟩ := Prod.mk.inj h2
    obtain ⟨g1, g2, g3, g4⟩ := arg_ext h1 nd
    refine ⟨g1, by rw [List.length_cons, List.length_cons, g2], g3, fun i a hi => ?_⟩
    cases i with
    | zero => exact ⟨_, rfl, .inr (.inl ⟨j, π, rfl, (Option.some.inj hi).symm⟩)⟩
    | succ i => exact g4 i a hi
  | .ref j π :: r, acc, args, rs, h, nd => by
    rw [argSl] at h
    split at h
    · rename_i n hn
      obtain ⟨⟨a', rs'⟩, h1, h2⟩ := Option.map_eq_some_iff.mp h
      obtain ⟨rfl, rfl⟩ := Prod.mk.inj h2
      obtain ⟨g1, g2, g3, g4⟩ := arg_ext h1 nd
      refine ⟨g1, by rw [List.length_cons, List.length_cons, g2], g3, fun i a hi => ?_⟩
      cases i with
      | zero => exact ⟨_, rfl, .inr (.inr ⟨j, π, n, rfl, (Option.some.inj hi).symm, g3 n _ (ixOf_get hn)⟩)⟩
      | succ i => exact g4 i a hi
    · split at h
      · cases h
      · rename_i hnm
        obtain ⟨⟨a', rs'⟩, h1, h2⟩ := Option.map_eq_some_iff.mp h
        obtain ⟨rfl, rfl⟩ := Prod.mk.inj h2
        obtain ⟨g1, g2, g3, g4⟩ := arg_ext h1 (by rw [List.map_append]; exact nodup_snoc nd hnm)
        refine ⟨g1, by rw [List.length_cons, List.length_cons, g2], fun i r hi => g3 i r (by rw [List.getElem?_append_left (List.getElem?_eq_some_iff.mp hi).1]; exact hi), fun i a hi => ?_⟩
        cases i with
        | zero => exact ⟨_, rfl, .inr (.inr ⟨j, π, acc.length, rfl, (Option.some.inj hi).symm, g3 _ _ (by rw [List.getElem?_append_right (Nat.le_refl _)]; simp)⟩)⟩
        | succ i => exact g4 i a hi
/-- the state behind a call, its result at hand -/
def callF (F : Fn) (ss : List Sl) (e : Env) : Option Env := (argSl ss []).bind fun a => (subsU e a.2).bind fun st => (F e.fz st a.1).bind fun q =>
  match q.1 with
  | .val u => some { e with st := putAllU e.st a.2 (q.2.take a.2.length), sl := e.sl.map (klAll a.2), tp := .val u :: e.tp.map (klAll a.2) }
  | .ref i κ => match a.2[i]? with
    | some (j, π) => some { e with st := putAllU e.st a.2 (q.2.take a.2.length), sl := e.sl.map (klAll a.2), tp := .ref j (π ++ κ) :: e.tp.map (klAll a.2) }
    | none => match q.2[i]? with
      | some u => some { e with st := putAllU e.st a.2 (q.2.take a.2.length) ++ [u], sl := e.sl.map (klAll a.2), tp := .ref (putAllU e.st a.2 (q.2.take a.2.length)).length κ :: e.tp.map (klAll a.2) }
      | none => none
  | .fref i κ => some { e with st := putAllU e.st a.2 (q.2.take a.2.length), sl := e.sl.map (klAll a.2), tp := .fref i κ :: e.tp.map (klAll a.2) }
  | .no => none
theorem Goes.push {np : Nat} {ts' : List T} {e1 : Env} {s : Sl} {v : V} (n : e1.np = np) (E : EnvAt K fs e1 σ τ H' ts') (f : ∀ b ∈ T.footL ts', b ∈ T.footL ts ∨ H b = none) (k : Kp (fun b => b ∈ T.footL ts) H H') (r : Rv np ts ts') (h : SlAt K fs H' ts' s (some v)) : Goes K fs np H ts { e1 with tp := s :: e1.tp } σ (v :: τ) H' := ⟨n, ts', E.push h, f, k, r⟩
theorem spU_call {F : Fn} {ss : List Sl} {vs : List V} {e' : Env} {Q : VK} {X : XK} (E : EnvAt K fs e σ τ H ts) (hss : ∀ (i : Nat) (s : Sl), ss[i]? = some s → ∃ v, vs[i]? = some v ∧ SlAt K fs H ts s (some v)) (hl : ss.length = vs.length) (h : callF F ss e = some e') (q : ∀ v H', Goes K fs e.np H ts e' σ (v :: τ) H' → Q v H') : spU K F vs H Q X := by
  obtain ⟨⟨args, rs⟩, h1, h⟩ := Option.bind_eq_some_iff.mp h
  obtain ⟨st, h2, h⟩ := Option.bind_eq_some_iff.mp h
  obtain ⟨⟨r, st'⟩, h3, h⟩ := Option.bind_eq_some_iff.mp h
  obtain ⟨g1, g2, g3, g4⟩ := arg_ext h1 List.nodup_nil
  obtain ⟨sub, S, s2, s3⟩ := E.subs h2 g1
  have S : Subs ts rs sub := S
  have hnd : (T.footL sub).Nodup := by
    rw [nodup_count]
    intro b
    exact Nat.le_trans (subs_count S b) (nodup_count.mp E.nd b)
  refine ⟨fs, sub, args, r, st', E.fh, fun b hb hm => E.fd b hb (List.count_pos_iff.mp (Nat.lt_of_lt_of_le (List.count_pos_iff.mpr hm) (subs_count S b))), s3, hnd, by rw [g2, hl], fun i a ha => ?_, by rw [s2, E.fe]; exact h3, fun v H' ts' P => ?_⟩
  · obtain ⟨s, hs, hc⟩ := g4 i a ha
    obtain ⟨v, hv, sv⟩ := hss i s hs
    refine ⟨v, hv, ?_⟩
    rcases hc with ⟨u, rfl, rfl⟩ | ⟨j, π, rfl, rfl⟩ | ⟨j, π, n, rfl, rfl, hr⟩
    · exact sv
    · exact sv
    · obtain ⟨t, w, a1, a2, a3⟩ := S.get hr
      exact ⟨w, w, a1, rfl, by rw [ref_val sv a2 a3]⟩
  · have hsl : sub.length = rs.length := S.len
    have hvals : (ts'.take sub.length).map T.val = sub.map T.val := by
      apply List.ext_getElem?
      intro i
      rw [List.getElem?_map, List.getElem?_map]
      by_cases hi : i < sub.length
      · obtain ⟨t', a1, a2⟩ := P.rv i sub[i] hi (List.getElem?_eq_getElem hi)
        rw [List.getElem?_take_of_lt hi, a1, List.getElem?_eq_getElem hi]
        show some t'.val = some sub[i].val
        rw [a2]
      · rw [List.getElem?_eq_none (by rw [List.length_take]; omega), List.getElem?_eq_none (by omega)]
    have hsplit : T.footL ts' = T.footL (ts'.take sub.length) ++ T.footL (ts'.drop sub.length) := by
      rw [footL_map, footL_map, footL_map, ← List.flatten_append, ← List.map_append, List.take_append_drop]
    have hpn := nodup_count.mp P.nd
    have hwn : (T.footL (ts'.take sub.length)).Nodup := by
      rw [nodup_count]
      intro b
      have := hpn b
      rw [hsplit, List.count_append] at this
      omega
    have hho := (holdsL_iff ts').mp P.ho
    have hwh : HoldsL K H' (ts'.take sub.length) := (holdsL_iff _).mpr fun t ht => hho t (List.mem_of_mem_take ht)
    obtain ⟨E1, f1, k1, r1⟩ := E.modAll S hvals P.kp hwh hwn fun b hb => P.ft b (by rw [hsplit]; exact List.mem_append_left _ hb)
    have her : T.erL (ts'.take sub.length) = st'.take rs.length := by rw [erL_map, List.map_take, ← erL_map, P.er, hsl]
    rw [her] at E1
    cases r with
    | no => cases h
    | val u =>
      obtain rfl := Option.some.inj h
      obtain ⟨t, a1, a2, a3, a4⟩ := P.rs
      exact q v H' (Goes.push rfl E1 f1 k1 r1 ⟨t, a1, a2, a3, a4⟩)
    | fref i κ =>
      obtain rfl := Option.some.inj h
      exact q v H' (Goes.push rfl E1 f1 k1 r1 P.rs)
    | ref i κ =>
      dsimp only at h
      obtain ⟨ti, s, a1, a2, a3⟩ := P.rs
      split at h
      · rename_i j π hr
        obtain rfl := Option.some.inj h
        refine q v H' (Goes.push rfl E1 f1 k1 r1 ?_)
        have hi : i < sub.length := by
          rw [hsl]
          exact (List.getElem?_eq_some_iff.mp hr).1
        have hjm : j ∈ rs.map (·.1) := List.mem_map.mpr ⟨_, List.mem_of_getElem? hr, rfl⟩
        -- the tree at j has the part at π
        have hat : ∃ t0, ts[j]? = some t0 ∧ (putAll ts rs (ts'.take sub.length))[j]? = some (t0.put π ti) ∧ ∃ s0, t0.get π = some s0 := by
          have : ∀ {rs : List Rt} {ts ss ws : List T} {i j : Nat} {π : List Nat} {w : T}, Subs ts rs ss → ws.length = ss.length → rs[i]? = some (j, π) → ws[i]? = some w → ∃ t0, ts[j]? = some t0 ∧ (putAll ts rs ws)[j]? = some (t0.put π w) ∧ ∃ s0, t0.get π = some s0 := by
            intro rs
            induction rs with
            | nil => intro ts ss ws i j π w S _ h; cases h
            | cons r rs ih =>
              intro ts ss ws i j π w S hl hi hw
              cases S with
              | cons hj hg hn S =>
                cases ws with
                | nil => cases hl
                | cons w0 ws =>
                  rw [putAll, hj]
                  cases i with
                  | zero =>
                    obtain ⟨rfl, rfl⟩ := Prod.mk.inj (Option.some.inj hi)
                    obtain rfl := Option.some.inj hw
                    refine ⟨_, hj, ?_, _, hg⟩
                    show (putAll (List.set _ _ _) _ ws)[_]? = _
                    rw [putAll_other (S.set hn) (by simpa using hl) hn, List.getElem?_set_self (List.getElem?_eq_some_iff.mp hj).1]
                  | succ i =>
                    have hne : j ∈ rs.map (·.1) := List.mem_map.mpr ⟨_, List.mem_of_getElem? (show rs[i]? = some (j, π) from hi), rfl⟩
                    obtain ⟨t0, b1, b2, b3⟩ := ih (S.set hn) (ws := ws) (by simpa using hl) hi hw
                    rw [List.getElem?_set_ne fun z => hn (by rw [z]; exact hne)] at b1
                    exact ⟨t0, b1, b2, b3⟩
          refine this S (by simp [List.length_take]; have := congrArg List.length hvals; simp [List.length_take] at this; omega) hr ?_
          rw [List.getElem?_take_of_lt hi]
          exact a1
        obtain ⟨t0, b1, b2, s0, b3⟩ := hat
        refine ⟨_, s, b2, ?_, a3⟩
        rw [tget_append]
        have : T.get π (t0.put π ti) = some ti := by
          have hv : ∀ {π : List Nat} {t s w : T}, t.get π = some s → (t.put π w).get π = some w := by
            intro π
            induction π with
            | nil => intro t s w _; rw [T.put]; rfl
            | cons n π ih =>
              intro t s w hh
              cases t with
              | leaf v => cases hh
              | node a k cs =>
                rw [T.get, T.kid] at hh
                rw [T.put]
                cases hc : cs[n]? with
                | none => rw [hc] at hh; cases hh
                | some c =>
                  rw [hc] at hh
                  rw [T.get, T.kid]
                  show (match (cs.set n (c.put π w))[n]? with | some w => w.get π | none => none) = _
                  rw [List.getElem?_set_self (List.getElem?_eq_some_iff.mp hc).1]
                  exact ih hh
          exact hv b3
        rw [this]
        exact a2
      · rename_i hr
        split at h
        · rename_i u hu
          obtain rfl := Option.some.inj h
          have hi : ¬ i < sub.length := fun z => by
            rw [hsl] at z
            rw [List.getElem?_eq_getElem z] at hr
            cases hr
          -- a tree of the callee's own
          have hue : ti.er = u := by
            rw [← P.er, erL_map, List.getElem?_map, a1] at hu
            exact Option.some.inj hu
          have htm : ti ∈ ts'.drop sub.length := by
            have : (ts'.drop sub.length)[i - sub.length]? = some ti := by
              rw [List.getElem?_drop, show sub.length + (i - sub.length) = i by omega]
              exact a1
            exact List.mem_of_getElem? this
          have hcx : ∀ b, (ti.foot).count b ≤ (T.footL (ts'.drop sub.length)).count b := fun b => by
            obtain ⟨k, hk⟩ := List.mem_iff_getElem?.mp htm
            obtain ⟨L, R, e1, _⟩ := footL_split hk
            rw [e1]
            simp only [List.count_append]
            omega
          have hE : EnvAt K fs { e with st := putAllU e.st rs (st'.take rs.length) ++ [u], sl := e.sl.map (klAll rs), tp := e.tp.map (klAll rs) } σ τ H' (putAll ts rs (ts'.take sub.length) ++ [ti]) := by
            have hsl' : ∀ {z : Sl} {v : Option V}, SlAt K fs H' (putAll ts rs (ts'.take sub.length)) z v → SlAt K fs H' (putAll ts rs (ts'.take sub.length) ++ [ti]) z v := fun {z v} hz => by
              cases z with
              | no => trivial
              | val u => exact hz
              | fref j π => exact hz
              | ref j π =>
                obtain ⟨tj, q, c1, c2⟩ := hz
                exact ⟨tj, q, by rw [List.getElem?_append_left (List.getElem?_eq_some_iff.mp c1).1]; exact c1, c2⟩
            refine ⟨?_, ?_, ?_, E1.fe, E1.fh, fun b hb hm => ?_, E1.lσ, E1.lτ, fun i z hz => ?_, fun i z hz => ?_⟩
            · show T.erL _ = _
              rw [erL_map, List.map_append, ← erL_map, E1.er, ← hue]
              rfl
            · rw [holdsL_iff]
              intro t ht
              rcases List.mem_append.mp ht with ht | ht
              · exact (holdsL_iff _).mp E1.ho t ht
              · rw [show t = ti by simpa using ht]
                exact hho ti (List.mem_of_getElem? a1)
            · rw [nodup_count]
              intro b
              have ef : T.footL (putAll ts rs (ts'.take sub.length) ++ [ti]) = T.footL (putAll ts rs (ts'.take sub.length)) ++ ti.foot := by
                rw [footL_map, List.map_append, List.flatten_append, ← footL_map]
                simp
              rw [ef, List.count_append]
              have c1 := putAll_count (ws := ts'.take sub.length) b S (by have := congrArg List.length hvals; simpa using this)
              have c2 := subs_count S b
              have c3 := nodup_count.mp E.nd b
              have c4 := hpn b
              rw [hsplit, List.count_append] at c4
              have c5 := hcx b
              by_cases hb : b ∈ ti.foot
              · rcases P.ft b (by rw [hsplit]; exact List.mem_append_right _ (List.count_pos_iff.mp (Nat.lt_of_lt_of_le (List.count_pos_iff.mpr hb) c5))) with hx | hx
                · have := List.count_pos_iff.mpr hx
                  omega
                · have h6 : (T.footL ts).count b = 0 := List.count_eq_zero_of_not_mem fun hm => MutO.some (holdsL_mut ts E.ho b hm) hx
                  omega
              · have h7 := List.count_eq_zero_of_not_mem hb
                have h8 := nodup_count.mp E1.nd b
                omega
            · have ef : T.footL (putAll ts rs (ts'.take sub.length) ++ [ti]) = T.footL (putAll ts rs (ts'.take sub.length)) ++ ti.foot := by
                rw [footL_map, List.map_append, List.flatten_append, ← footL_map]
                simp
              rw [ef] at hm
              rcases List.mem_append.mp hm with hm | hm
              · exact E1.fd b hb hm
              · rcases P.ft b (by rw [hsplit]; exact List.mem_append_right _ (List.count_pos_iff.mp (Nat.lt_of_lt_of_le (List.count_pos_iff.mpr hm) (hcx b)))) with hx | hx
                · exact E.fd b hb (List.count_pos_iff.mp (Nat.lt_of_lt_of_le (List.count_pos_iff.mpr hx) (subs_count S b)))
                · exact MutO.some (holdsL_mut fs E.fh b hb) hx
            · obtain ⟨v, c1, c2⟩ := E1.sl i z hz
              exact ⟨v, c1, hsl' c2⟩
            · obtain ⟨v, c1, c2⟩ := E1.tp i z hz
              exact ⟨v, c1, hsl' c2⟩
          have hlen : (putAllU e.st rs (st'.take rs.length)).length = (putAll ts rs (ts'.take sub.length)).length := by
            have := congrArg List.length E1.er
            rw [erL_map, List.length_map] at this
            exact this.symm
          refine q v H' (Goes.push (e1 := { e with st := putAllU e.st rs (st'.take rs.length) ++ [u], sl := e.sl.map (klAll rs), tp := e.tp.map (klAll rs) }) rfl hE (fun b hb => ?_) k1 (r1.trans fun j t _ hj => ⟨t, by rw [List.getElem?_append_left (List.getElem?_eq_some_iff.mp hj).1]; exact hj, rfl⟩) ⟨ti, s, ?_, a2, a3⟩)
          · have ef : T.footL (putAll ts rs (ts'.take sub.length) ++ [ti]) = T.footL (putAll ts rs (ts'.take sub.length)) ++ ti.foot := by
              rw [footL_map, List.map_append, List.flatten_append, ← footL_map]
              simp
            rw [ef] at hb
            rcases List.mem_append.mp hb with hb | hb
            · exact f1 b hb
            · rcases P.ft b (by rw [hsplit]; exact List.mem_append_right _ (List.count_pos_iff.mp (Nat.lt_of_lt_of_le (List.count_pos_iff.mpr hb) (hcx b)))) with hx | hx
              · exact .inl (List.count_pos_iff.mp (Nat.lt_of_lt_of_le (List.count_pos_iff.mpr hx) (subs_count S b)))
              · exact .inr hx
          · rw [hlen, List.getElem?_append_right (Nat.le_refl _)]
            simp
        · cases h
end
end FB
namespace FB
open PySem PySem.Spec PyProof.Rows L2
section
variable {K : PySem.W.Frag} {H H' : Hp} {fs : List T} {ta tb te tc : TE} {d d1 d2 d3 : DX} {r : R2} {e : Env} {σ : L2.St} {τ : List V} {ts : List T}
theorem EnvAt.argsOf {n : Nat} {vs : List V} (E : EnvAt K fs e σ (vs.reverse ++ τ) H ts) (hl : vs.length = n) : EnvAt K fs { e with tp := e.tp.drop n } σ τ H ts ∧ (e.tp.take n).reverse.length = vs.length ∧ ∀ (i : Nat) (s : Sl), (e.tp.take n).reverse[i]? = some s → ∃ v, vs[i]? = some v ∧ SlAt K fs H ts s (some v) := by
  obtain ⟨E1, l1, a1⟩ := EnvAt.popN vs.reverse E
  rw [List.length_reverse, hl] at E1 l1 a1
  refine ⟨E1, by rw [List.length_reverse, l1, hl], fun i s hs => ?_⟩
  have hi : i < n := by
    have := (List.getElem?_eq_some_iff.mp hs).1
    rw [List.length_reverse, l1] at this
    exact this
  rw [List.getElem?_reverse (by rw [l1]; exact hi), l1] at hs
  obtain ⟨v, h1, h2⟩ := a1 _ s hs
  rw [List.getElem?_reverse (by rw [hl]; omega), hl, show n - 1 - (n - 1 - i) = i by omega] at h1
  exact ⟨v, h1, h2⟩
def dCall (F : Fn) (n : Nat) : DX := fun e => callF F (e.tp.take n).reverse { e with tp := e.tp.drop n }
theorem ex_call {F : Fn} {n : Nat} {tv : TA} {X : XK} (ha : AX K n tv d1) : EX K (tCall (spU K F) [] X tv) (dseq d1 (dCall F n)) := fun fs e σ τ H ts E e' h Q q => by
  obtain ⟨e1, h1, h2⟩ := dseq_some h
  refine ha fs e σ τ H ts E e1 h1 _ fun vs H1 hl g1 => ?_
  obtain ⟨n1, ts1, E1, f1, k1, r1⟩ := g1
  obtain ⟨E2, l2, a2⟩ := E1.argsOf hl
  rw [List.append_nil]
  exact spU_call E2 a2 l2 h2 fun v H2 g2 => q v H2 (Goes.to n1 f1 k1 r1 g2)
def dRecv (C : Addr) (m : Str) : DX := fun e => e.top.bind fun p => match p.2.1 with
  | .node (.ins C' fs) _ => if C' = C ∧ ixOf m fs = none then some e else none
  | _ => none
/-- C(..) -/
def dMake (C : Addr) (F : Fn) (n : Nat) : DX := fun e => (callF F (.ref e.st.length [] :: (e.tp.take n).reverse) { e with st := e.st ++ [.node (.ins C []) []], tp := .ref e.st.length [] :: e.tp.drop n }).bind fun e1 => match e1.tp with
  | .val (.leaf .non) :: tp => some { e1 with tp := tp }
  | _ => none
theorem kl_true {j : Nat} {π : List Nat} (s : Sl) : kl j π (fun _ => true) s = s := by
  cases s with
  | no => rfl
  | val u => rfl
  | fref j' π' => rfl
  | ref j' π' =>
    unfold kl
    dsimp only
    split
    · split <;> simp
    · rfl
def okN (f : Nat → Bool) : List Nat → Bool
  | [] => true
  | n :: _ => f n
theorem EnvAt.modNode {j : Nat} {π : List Nat} {tj : T} {a : Addr} {k k' : Kd} {cs cs' xs : List T} {f : Nat → Bool} (E : EnvAt K fs e σ τ H ts) (hj : ts[j]? = some tj) (hg : tj.get π = some (.node a k cs)) (hk : k.mut = true) (hk' : k'.mut = true) (hx : HoldsL K H xs) (nx : (T.footL xs ++ T.footL ts).Nodup) (nf : ∀ b ∈ T.footL xs, b ∉ T.footL fs) (hm : ∀ c ∈ cs', c ∈ cs ∨ c ∈ xs) (hc : ∀ b, (T.footL cs').count b ≤ (T.footL cs).count b + (T.footL xs).count b) (kp : ∀ b o, H b = some o → b ≠ a → H' b = some o) (ho : IsObj K H' a k' (cs'.map T.val)) (hok : ∀ n c, f n = true → cs[n]? = some c → cs'[n]? = some c) :
    EnvAt K fs { e with st := e.st.set j (tj.er.put π (.node k' (T.erL cs'))), sl := e.sl.map (kl j π (okN f)), tp := e.tp.map (kl j π (okN f)) } σ τ H' (ts.set j (tj.put π (.node a k' cs'))) ∧ (∀ b ∈ T.footL (ts.set j (tj.put π (.node a k' cs'))), b ∈ T.footL xs ++ T.footL ts) ∧ Kp (fun b => b ∈ T.footL ts) H H' ∧ Rv e.np ts (ts.set j (tj.put π (.node a k' cs'))) := by
  have hT : Holds K H tj := (holdsL_iff ts).mp E.ho tj (List.mem_of_getElem? hj)
  have hS := get_holds hg hT
  rw [Holds] at hS
  obtain ⟨L, R, e1, e2⟩ := footL_split hj
  obtain ⟨L2, R2, e3, e4⟩ := put_foot hg
  have hsf : T.foot (.node a k cs) = a :: T.footL cs := by rw [T.foot, if_pos hk]
  have hwf : T.foot (.node a k' cs') = a :: T.footL cs' := by rw [T.foot, if_pos hk']
  have hcn := nodup_count.mp nx
  have hin : ∀ b, (T.foot (.node a k cs)).count b ≤ (T.footL ts).count b := fun b => by
    rw [e1, e3]
    simp only [List.count_append]
    omega
  have hma : MutO H a := obj_mut hS.1 hk
  have kp1 : Kp (fun b => b ∈ T.foot (.node a k cs)) H H' := fun b o hb hn => kp b o hb fun z => hn (by rw [z, hsf]; exact List.mem_cons_self)
  have kpa : Kp (fun b => b = a) H H' := fun b o hb hn => kp b o hb hn
  have wma : WM (fun b => b = a) H := fun b hb => by rw [hb]; exact hma
  have ha1 : (T.footL cs).count a = 0 := by
    have h1 := hcn a
    have h2 := hin a
    rw [hsf, List.count_cons_self] at h2
    simp only [List.count_append] at h1
    omega
  have ha2 : (T.footL xs).count a = 0 := by
    have h1 := hcn a
    have h2 := hin a
    rw [hsf, List.count_cons_self] at h2
    simp only [List.count_append] at h1
    omega
  have hmem : ∀ {c : T} {l : List T}, c ∈ l → ∀ b ∈ c.foot, b ∈ T.footL l := fun {c l} hc b hb => by
    rw [footL_map]
    exact List.mem_flatten.mpr ⟨_, List.mem_map.mpr ⟨c, hc, rfl⟩, hb⟩
  have hw : Holds K H' (.node a k' cs') := by
    rw [Holds, holdsL_iff]
    refine ⟨ho, fun c hc' => ?_⟩
    rcases hm c hc' with h | h
    · refine holds_kp kpa wma c ((holdsL_iff cs).mp hS.2 c h) fun b hb z => ?_
      have := List.count_pos_iff.mpr (hmem h b hb)
      rw [z] at this
      omega
    · refine holds_kp kpa wma c ((holdsL_iff xs).mp hx c h) fun b hb z => ?_
      have := List.count_pos_iff.mpr (hmem h b hb)
      rw [z] at this
      omega
  have nw : (T.foot (.node a k' cs')).Nodup := by
    rw [hwf, nodup_count]
    intro b
    have h1 := hcn b
    have h2 := hin b
    have h3 := hc b
    rw [hsf] at h2
    simp only [List.count_append] at h1
    by_cases hb : a = b
    · subst hb
      rw [List.count_cons_self]
      omega
    · rw [List.count_cons_of_ne hb] at h2 ⊢
      omega
  have fw : ∀ b ∈ T.foot (.node a k' cs'), b ∈ T.foot (.node a k cs) ∨ (b ∉ T.footL ts ∧ b ∉ T.footL fs) := fun b hb => by
    rw [hwf] at hb
    rcases List.mem_cons.mp hb with h | h
    · exact .inl (by rw [h, hsf]; exact List.mem_cons_self)
    · have h3 := hc b
      have h4 := List.count_pos_iff.mpr h
      by_cases hb : b ∈ T.footL xs
      · refine .inr ⟨fun z => ?_, nf b hb⟩
        have h1 := hcn b
        have h5 := List.count_pos_iff.mpr hb
        have h6 := List.count_pos_iff.mpr z
        simp only [List.count_append] at h1
        omega
      · have h5 := List.count_eq_zero_of_not_mem hb
        exact .inl (by rw [hsf]; exact List.mem_cons_of_mem _ (List.count_pos_iff.mp (by omega)))
  have hok2 : ∀ (κ : List Nat) (r : T), okN f κ = true → T.get κ (.node a k cs) = some r → ∃ r', T.get κ (.node a k' cs') = some r' ∧ r'.val = r.val := fun κ r hκ hr => by
    cases κ with
    | nil =>
      obtain rfl := Option.some.inj hr
      exact ⟨_, rfl, rfl⟩
    | cons n κ =>
      rw [T.get, T.kid] at hr
      cases hn : cs[n]? with
      | none => rw [hn] at hr; cases hr
      | some c =>
        rw [hn] at hr
        refine ⟨r, ?_, rfl⟩
        rw [T.get, T.kid, hok n c hκ hn]
        exact hr
  obtain ⟨E1, g1, g2, g3⟩ := E.mod (w := .node a k' cs') (ok := okN f) hj hg rfl kp1 hw nw fw hok2
  · have he : T.er (.node a k' cs') = .node k' (T.erL cs') := by rw [T.er]
    rw [he] at E1
    refine ⟨E1, fun b hb => ?_, g2, g3⟩
    rcases g1 b hb with h | h
    · exact List.mem_append_right _ h
    · rw [hwf] at h
      rcases List.mem_cons.mp h with h | h
      · refine List.mem_append_right _ (List.count_pos_iff.mp (Nat.lt_of_lt_of_le ?_ (hin b)))
        rw [h, hsf, List.count_cons_self]
        omega
      · have h3 := hc b
        have h4 := List.count_pos_iff.mpr h
        by_cases hb : b ∈ T.footL xs
        · exact List.mem_append_left _ hb
        · have h5 := List.count_eq_zero_of_not_mem hb
          refine List.mem_append_right _ (List.count_pos_iff.mp (Nat.lt_of_lt_of_le ?_ (hin b)))
          rw [hsf, List.count_cons]
          omega
end
end FB
namespace FB
open PySem PySem.Spec PyProof.Rows L2
section
variable {K : PySem.W.Frag} {H H' : Hp} {fs : List T} {ta tb te tc : TE} {d d1 d2 d3 : DX} {r : R2} {e : Env} {σ : L2.St} {τ : List V} {ts : List T}
theorem okN_true : okN (fun _ => true) = fun _ => true := by
  funext κ
  cases κ <;> rfl
theorem map_kl_true {j : Nat} {π : List Nat} (l : List Sl) : l.map (kl j π (okN fun _ => true)) = l := by
  rw [okN_true]
  have : (kl j π fun _ => true) = id := by
    funext s
    exact kl_true s
  rw [this, List.map_id]
def setU (st : List U) (j : Nat) (π : List Nat) (w : U) : List U := match st[j]? with
  | some u => st.set j (u.put π w)
  | none => st
theorem EnvAt.nodeR {np : Nat} {fz st : List U} {sl tp : List Sl} {j : Nat} {π : List Nat} {x : V} {k : Kd} {us : List U} (E : EnvAt K fs ⟨np, fz, st, sl, .ref j π :: tp⟩ σ (x :: τ) H ts) (h : look1 st j π = some (.node k us)) : ∃ tj a cs, ts[j]? = some tj ∧ tj.get π = some (.node a k cs) ∧ T.erL cs = us ∧ x = .ref a ∧ IsObj K H a k (cs.map T.val) ∧ HoldsL K H cs ∧ st[j]? = some tj.er := by
  have hst : T.erL ts = st := E.er
  have h0 := h
  rw [← hst] at h
  obtain ⟨tj, s, h1, h2, h3, h4⟩ := look1_get h E.ho
  cases s with
  | leaf v => rw [T.er] at h3; cases h3
  | node a k' cs =>
    rw [T.er] at h3
    obtain ⟨rfl, rfl⟩ := U.node.inj h3
    rw [Holds] at h4
    refine ⟨tj, a, cs, h1, h2, rfl, ref_val E.pop.2 h1 h2, h4.1, h4.2, ?_⟩
    rw [← hst, erL_map, List.getElem?_map, h1]
    rfl
/-- what a change of the node at hand asks and gives -/
theorem EnvAt.modTop {np : Nat} {fz st : List U} {sl tp : List Sl} {j : Nat} {π : List Nat} {x : V} {k k' : Kd} {us : List U} {xs : List T} {f : Nat → Bool} (E : EnvAt K fs ⟨np, fz, st, sl, .ref j π :: tp⟩ σ (x :: τ) H ts) (h : look1 st j π = some (.node k us)) (hk : k.mut = true) (hk' : k'.mut = true) (hx : HoldsL K H xs) (nx : (T.footL xs ++ T.footL ts).Nodup) (nf : ∀ b ∈ T.footL xs, b ∉ T.footL fs) (g : List T → List T) (hm : ∀ cs, ∀ c ∈ g cs, c ∈ cs ∨ c ∈ xs) (hc : ∀ cs b, (T.footL (g cs)).count b ≤ (T.footL cs).count b + (T.footL xs).count b) (hok : ∀ cs n c, f n = true → cs[n]? = some c → (g cs)[n]? = some c) :
    ∃ a cs, x = .ref a ∧ T.erL cs = us ∧ IsObj K H a k (cs.map T.val) ∧ ∀ H', (∀ b o, H b = some o → b ≠ a → H' b = some o) → IsObj K H' a k' ((g cs).map T.val) →
      ∃ ts', EnvAt K fs ⟨np, fz, setU st j π (.node k' (T.erL (g cs))), sl.map (kl j π (okN f)), tp.map (kl j π (okN f))⟩ σ τ H' ts' ∧ (∀ b ∈ T.footL ts', b ∈ T.footL xs ++ T.footL ts) ∧ Kp (fun b => b ∈ T.footL ts) H H' ∧ Rv np ts ts' := by
  obtain ⟨tj, a, cs, g1, g2, g3, g4, g5, g6, g7⟩ := E.nodeR h
  refine ⟨a, cs, g4, g3, g5, fun H' kp ho => ?_⟩
  obtain ⟨E1, f1, k1, r1⟩ := E.pop.1.modNode (f := f) (k' := k') (cs' := g cs) (xs := xs) g1 g2 hk hk' hx nx nf (hm cs) (hc cs) kp ho (hok cs)
  refine ⟨_, ?_, f1, k1, r1⟩
  have e1 : setU st j π (.node k' (T.erL (g cs))) = st.set j (tj.er.put π (.node k' (T.erL (g cs)))) := by
    unfold setU
    rw [g7]
  rw [e1]
  exact E1
theorem footL_append (a b : List T) : T.footL (a ++ b) = T.footL a ++ T.footL b := by rw [footL_map, List.map_append, List.flatten_append, ← footL_map, ← footL_map]
theorem erL_append (a b : List T) : T.erL (a ++ b) = T.erL a ++ T.erL b := by rw [erL_map, List.map_append, ← erL_map, ← erL_map]
theorem footL_set {cs : List T} {n : Nat} {c : T} (b : Addr) : (T.footL (cs.set n c)).count b ≤ (T.footL cs).count b + (T.footL [c]).count b := by
  have hc1 : T.footL [c] = c.foot := by rw [T.footL, T.footL, List.append_nil]
  by_cases h : n < cs.length
  · obtain ⟨L, R, e1, e2⟩ := footL_split (List.getElem?_eq_getElem h)
    rw [e1, e2, hc1]
    simp only [List.count_append]
    omega
  · rw [List.set_eq_of_length_le (by omega)]
    omega
def dChk (ok : Kd → Bool) : DX := fun e => e.top.bind fun p => (p.2.1.seq ok).map fun _ => e
def dAppend : DX := fun e => (takeTop e).bind fun p => match p.2.tp with
  | .ref j π :: tp => match look1 p.2.st j π with
    | some (.node .lst us) => if us.length < 100000 then some { p.2 with st := setU p.2.st j π (.node .lst (us ++ [p.1])), tp := .val (.leaf .non) :: tp } else none
    | _ => none
  | _ => none
theorem big {n : Nat} (h : n < 100000) : n < sizeLine := Nat.lt_of_lt_of_le h (by decide)
theorem take_fs {e1 : Env} {u : U} {v : V} (E : EnvAt K fs e σ (v :: τ) H ts) (h : takeTop e = some (u, e1)) : e1.np = e.np ∧ ∃ ts1 c, EnvAt K fs e1 σ τ H ts1 ∧ c.val = v ∧ c.er = u ∧ HoldsL K H [c] ∧ (T.footL [c] ++ T.footL ts1).Nodup ∧ (∀ b ∈ T.footL [c] ++ T.footL ts1, b ∈ T.footL ts) ∧ Rv e.np ts ts1 ∧ ∀ b ∈ T.footL [c], b ∉ T.footL fs := by
  obtain ⟨n1, ts1, c, h1, h2, h3, h4, h5, h6, h7⟩ := E.take1 h
  have hc1 : T.footL [c] = c.foot := by rw [T.footL, T.footL, List.append_nil]
  refine ⟨n1, ts1, c, h1, h2, h3, by rw [HoldsL]; exact ⟨h4, trivial⟩, by rw [hc1]; exact h5, by rw [hc1]; exact h6, h7, fun b hb hf => E.fd b hf (h6 b ?_)⟩
  rw [hc1] at hb
  exact List.mem_append_left _ hb
theorem Kp.weak {W W' : Addr → Prop} (h : Kp W H H') (s : ∀ b, W b → W' b) : Kp W' H H' := fun b o hb n => h b o hb fun w => n (s b w)
theorem rxm_append : RXm K 1 rAppend dAppend := fun fs e σ τ x vs H ts hl E e' h Q q => by
  obtain ⟨v, rfl⟩ : ∃ v, vs = [v] := List.length_eq_one_iff.mp hl
  have E : EnvAt K fs e σ (v :: x :: τ) H ts := E
  obtain ⟨⟨u, e1⟩, h1, h⟩ := Option.bind_eq_some_iff.mp h
  obtain ⟨n1, ts1, c, E1, c1, c2, c3, c4, c5, c6, c7⟩ := take_fs E h1
  obtain ⟨np, fz, st, sl, tp⟩ := e1
  dsimp only at h
  split at h
  · rename_i j π tp' 
    split at h
    · rename_i us hat
      split at h
      · rename_i hlen
        obtain rfl := Option.some.inj h
        obtain ⟨a, cs, rfl, e1, ho, k⟩ := E1.modTop (k' := .lst) (xs := [c]) (f := fun _ => true) hat rfl rfl c3 c4 c7 (fun cs => cs ++ [c]) (fun cs x hx => List.mem_append.mp hx) (fun cs b => by rw [footL_append, List.count_append]; omega) (fun cs n x _ hx => by rw [List.getElem?_append_left (List.getElem?_eq_some_iff.mp hx).1]; exact hx)
        have hl2 : (cs.map T.val).length = us.length := by rw [List.length_map, ← e1, erL_map, List.length_map]
        refine ⟨a, cs.map T.val, v, rfl, rfl, ho, by rw [hl2]; exact big hlen, ?_⟩
        obtain ⟨ts2, E2, f2, k2, r2⟩ := k (upd H a (.lst (cs.map T.val ++ [v]))) (fun b o hb n => by rw [upd_ne n]; exact hb) (by rw [List.map_append, ← c1]; exact upd_same)
        rw [map_kl_true, map_kl_true, erL_append, e1, show T.erL [c] = [u] by rw [T.erL, T.erL, c2]] at E2
        refine q .non _ ⟨n1, ts2, E2.push (slat_leaf rfl), fun b hb => .inl (c5 b (f2 b hb)), k2.weak fun b hb => c5 b (List.mem_append_right _ hb), c6.trans (by rw [← n1]; exact r2)⟩
      · cases h
    · cases h
  · cases h
theorem ex_bm {n : Nat} {tv : TA} {r : V → List V → Hp → VK → Prop} (ho : EX K ta d1) (ha : AX K n tv d2) (hr : RXm K n r d3) : EX K (tBM K "list" r ta tv) (dseq d1 (dseq (dChk okL) (dseq d2 d3))) := fun fs e σ τ H ts E e' h Q q => by
  obtain ⟨e1, h1, h⟩ := dseq_some h
  obtain ⟨e2, h2, h⟩ := dseq_some h
  obtain ⟨e3, h3, h4⟩ := dseq_some h
  refine ho fs e σ τ H ts E e1 h1 _ fun x H1 g1 => ?_
  obtain ⟨n1, ts1, E1, f1, k1, r1⟩ := g1
  obtain ⟨⟨s, u, e0⟩, h5, h6⟩ := Option.bind_eq_some_iff.mp h2
  obtain ⟨us, h7, rfl⟩ := Option.map_eq_some_iff.mp h6
  obtain ⟨_, E0, s0, l0⟩ := E1.top h5
  obtain ⟨a, k, cs, rfl, hk, _, g2, _⟩ := E0.seq s0 l0 h7
  refine ⟨.inl ⟨rfl, _, obj_sql g2 hk⟩, ha fs e1 σ _ H1 ts1 E1 e3 h3 _ fun vs H2 hl g2 => ?_⟩
  obtain ⟨n2, ts2, E2, f2, k2, r2⟩ := g2
  exact hr fs e3 σ τ _ vs H2 ts2 hl E2 e' h4 Q fun v H3 g3 => q v H3 (Goes.to n1 f1 k1 r1 (Goes.to n2 f2 k2 r2 g3))
def Env.rot (e : Env) : Option Env := match e.tp with
  | a :: b :: c :: tp => some { e with tp := c :: a :: b :: tp }
  | _ => none
def Env.swap (e : Env) : Option Env := match e.tp with
  | a :: b :: tp => some { e with tp := b :: a :: tp }
  | _ => none
theorem EnvAt.swap {x y : V} {e1 : Env} (E : EnvAt K fs e σ (x :: y :: τ) H ts) (h : e.swap = some e1) : e1.np = e.np ∧ EnvAt K fs e1 σ (y :: x :: τ) H ts := by
  obtain ⟨np, fz, st, sl, tp⟩ := e
  unfold Env.swap at h
  split at h
  · rename_i a b tp' htp
    obtain rfl : tp = _ := htp
    obtain rfl := Option.some.inj h
    obtain ⟨E1, s1⟩ := E.pop
    obtain ⟨E2, s2⟩ := E1.pop
    exact ⟨rfl, (E2.push s1).push s2⟩
  · cases h
theorem EnvAt.rot {x y z : V} {e1 : Env} (E : EnvAt K fs e σ (x :: y :: z :: τ) H ts) (h : e.rot = some e1) : e1.np = e.np ∧ EnvAt K fs e1 σ (z :: x :: y :: τ) H ts := by
  obtain ⟨np, fz, st, sl, tp⟩ := e
  unfold Env.rot at h
  split at h
  · rename_i a b c tp' htp
    obtain rfl : tp = _ := htp
    obtain rfl := Option.some.inj h
    obtain ⟨E1, s1⟩ := E.pop
    obtain ⟨E2, s2⟩ := E1.pop
    obtain ⟨E3, s3⟩ := E2.pop
    exact ⟨rfl, ((E3.push s2).push s1).push s3⟩
  · cases h
theorem putK_set {k : Key} {v : V} : ∀ {ks : List Key} {vs : List V} {n : Nat}, ks.Nodup → ks.length = vs.length → ixOf k ks = some n → putK (ks.zip vs) k v = ks.zip (vs.set n v)
  | [], vs, n, _, _, h => by cases h
  | x :: ks, [], n, _, hl, _ => by cases hl
  | x :: ks, y :: vs, n, nd, hl, h => by
    rw [List.nodup_cons] at nd
    rw [ixOf] at h
    have hno : ∀ {ks : List Key} {vs : List V}, x ∉ ks → (ks.zip vs).map (fun kv => if kv.1 = x then (kv.1, v) else kv) = ks.zip vs := fun {ks vs} hx => by
      have : ∀ p ∈ ks.zip vs, (fun kv : Key × V => if kv.1 = x then (kv.1, v) else kv) p = p := fun p hp => if_neg fun z => hx (by rw [← z]; exact (List.of_mem_zip hp).1)
      rw [List.map_congr_left this, List.map_id']
    split at h
    · rename_i e
      subst e
      obtain rfl := Option.some.inj h
      unfold putK
      rw [List.zip_cons_cons, if_pos (by simp), List.map_cons, if_pos rfl, hno nd.1]
      rfl
    · rename_i e
      obtain ⟨m, h1, rfl⟩ := Option.map_eq_some_iff.mp h
      have ih := putK_set (k := k) (v := v) (vs := vs) nd.2 (by simpa using hl) h1
      have hany : ((ks.zip vs).any fun kv => decide (kv.1 = k)) = true := by
        have hg := ixOf_get h1
        have hlt : m < vs.length := by
          have := (List.getElem?_eq_some_iff.mp hg).1
          simp at hl
          omega
        rw [List.any_eq_true]
        refine ⟨(k, vs[m]), ?_, by simp⟩
        refine List.mem_of_getElem? (i := m) ?_
        rw [List.getElem?_zip_eq_some]
        exact ⟨hg, List.getElem?_eq_getElem hlt⟩
      unfold putK at ih ⊢
      rw [if_pos hany] at ih
      rw [List.zip_cons_cons, if_pos (by rw [List.any_cons, hany, Bool.or_true]), List.map_cons, if_neg e, ih]
      rfl
theorem ixOf_none {α : Type} [DecidableEq α] {k : α} : ∀ {ks : List α}, ixOf k ks = none → k ∉ ks
  | [], _ => List.not_mem_nil
  | x :: r, h => by
    rw [ixOf] at h
    split at h
    · cases h
    · rename_i e
      intro hm
      rcases List.mem_cons.mp hm with z | z
      · exact e z.symm
      · exact ixOf_none (Option.map_eq_none_iff.mp h) z
theorem putK_app {k : Key} {v : V} {ks : List Key} {vs : List V} (hl : ks.length = vs.length) (h : ixOf k ks = none) : putK (ks.zip vs) k v = (ks ++ [k]).zip (vs ++ [v]) := by
  have hn := ixOf_none h
  unfold putK
  rw [if_neg, List.zip_append hl]
  · rfl
  · intro hany
    obtain ⟨p, hp, hk⟩ := List.any_eq_true.mp hany
    exact hn (by rw [← of_decide_eq_true hk]; exact (List.of_mem_zip hp).1)
/-- the value first, then the dict, then the key are at hand -/
def dPut : DX := fun e => e.rot.bind fun e0 => (takeTop e0).bind fun p => p.2.leaf.bind fun y => (keyOf y.1).bind fun k => match y.2.tp with
  | .ref j π :: tp => match look1 y.2.st j π with
    | some (.node (.dic ks) us) => if us.length < 100000 then (match ixOf k ks with
      | some n => some { y.2 with st := setU y.2.st j π (.node (.dic ks) (us.set n p.1)), sl := y.2.sl.map (kl j π (okN (· != n))), tp := tp.map (kl j π (okN (· != n))) }
      | none => some { y.2 with st := setU y.2.st j π (.node (.dic (ks ++ [k])) (us ++ [p.1])), tp := tp }) else none
    | _ => none
  | _ => none
theorem EnvAt.dput {v x y : V} {e' : Env} (E : EnvAt K fs e σ (y :: x :: v :: τ) H ts) (h : dPut e = some e') : ∃ a H4, x = .ref a ∧ DPut H a y v H4 ∧ Goes K fs e.np H ts e' σ τ H4 := by
  obtain ⟨e0, h0, h⟩ := Option.bind_eq_some_iff.mp h
  obtain ⟨⟨u, e1⟩, h1, h⟩ := Option.bind_eq_some_iff.mp h
  obtain ⟨⟨y', e2⟩, h2, h⟩ := Option.bind_eq_some_iff.mp h
  obtain ⟨k, h3, h⟩ := Option.bind_eq_some_iff.mp h
  obtain ⟨n0, E0⟩ := E.rot h0
  obtain ⟨n1, ts1, c, E1, c1, c2, c3, c4, c5, c6, c7⟩ := take_fs E0 h1
  obtain ⟨n2, E2, rfl, _⟩ := E1.leaf h2
  obtain rfl := keyOf_is h3
  obtain ⟨np, fz, st, sl, tp⟩ := e2
  dsimp only at h
  have hn : np = e.np := n2.trans (n1.trans n0)
  split at h
  · rename_i j π tp'
    split at h
    · rename_i ks us hat
      split at h
      · rename_i hlen
        split at h
        · rename_i n hix
          obtain rfl := Option.some.inj h
          obtain ⟨a, cs, rfl, e1, ⟨⟨nd, hl⟩, ho⟩, kk⟩ := E2.modTop (k' := .dic ks) (xs := [c]) (f := (· != n)) hat rfl rfl c3 c4 c7 (fun cs => cs.set n c) (fun cs x hx => by rcases List.mem_or_eq_of_mem_set hx with h | h; exact .inl h; exact .inr (by rw [h]; exact List.mem_singleton.mpr rfl)) (fun cs b => footL_set b) (fun cs m x hm hx => by rw [List.getElem?_set_ne (by intro z; rw [z] at hm; simp at hm)]; exact hx)
          have hl2 : (cs.map T.val).length = us.length := by rw [List.length_map, ← e1, erL_map, List.length_map]
          refine ⟨a, _, rfl, .inl ⟨_, k, ho, rfl, by rw [List.length_zip, hl, Nat.min_self, hl2]; exact big hlen, rfl⟩, ?_⟩
          obtain ⟨ts2, E3, f3, k3, r3⟩ := kk (upd H a (.dK (putK (ks.zip (cs.map T.val)) k v))) (fun b o hb n => by rw [upd_ne n]; exact hb) ⟨⟨nd, by rw [hl, List.length_map, List.length_map, List.length_set]⟩, by rw [upd_same, putK_set nd hl hix, List.map_set, c1]⟩
          rw [erL_set, e1, c2] at E3
          exact ⟨hn, ts2, E3, fun b hb => .inl (c5 b (f3 b hb)), k3.weak fun b hb => c5 b (List.mem_append_right _ hb), by rw [n0] at c6; exact c6.trans (by rw [← hn]; exact r3)⟩
        · rename_i hix
          obtain rfl := Option.some.inj h
          obtain ⟨a, cs, rfl, e1, ⟨⟨nd, hl⟩, ho⟩, kk⟩ := E2.modTop (k' := .dic (ks ++ [k])) (xs := [c]) (f := fun _ => true) hat rfl rfl c3 c4 c7 (fun cs => cs ++ [c]) (fun cs x hx => List.mem_append.mp hx) (fun cs b => by rw [footL_append, List.count_append]; omega) (fun cs n x _ hx => by rw [List.getElem?_append_left (List.getElem?_eq_some_iff.mp hx).1]; exact hx)
          have hl2 : (cs.map T.val).length = us.length := by rw [List.length_map, ← e1, erL_map, List.length_map]
          refine ⟨a, _, rfl, .inl ⟨_, k, ho, rfl, by rw [List.length_zip, hl, Nat.min_self, hl2]; exact big hlen, rfl⟩, ?_⟩
          obtain ⟨ts2, E3, f3, k3, r3⟩ := kk (upd H a (.dK (putK (ks.zip (cs.map T.val)) k v))) (fun b o hb n => by rw [upd_ne n]; exact hb) ⟨⟨nodup_snoc nd (ixOf_none hix), by simp [hl]⟩, by rw [upd_same, putK_app hl hix, List.map_append, ← c1]; rfl⟩
          rw [map_kl_true, map_kl_true, erL_append, e1, show T.erL [c] = [u] by rw [T.erL, T.erL, c2]] at E3
          exact ⟨hn, ts2, E3, fun b hb => .inl (c5 b (f3 b hb)), k3.weak fun b hb => c5 b (List.mem_append_right _ hb), by rw [n0] at c6; exact c6.trans (by rw [← hn]; exact r3)⟩
      · cases h
    · cases h
  · cases h
def sDo (a : DX) : DS := fun e => (a e).map .nx
theorem sx_dput (hd : EX K ta d2) (hk : EX K tb d3) (hv : EX K tc d1) : SX K (sDPut ta tb tc) (sDo (dseq d1 (dseq d2 (dseq d3 dPut)))) := fun fs e σ τ H ts E o h D k => by
  obtain ⟨e4, hh, rfl⟩ := Option.map_eq_some_iff.mp h
  obtain ⟨e1, h1, h⟩ := dseq_some hh
  obtain ⟨e2, h2, h⟩ := dseq_some h
  obtain ⟨e3, h3, h4⟩ := dseq_some h
  refine hv fs e σ τ H ts E e1 h1 _ fun v H1 g1 => ?_
  obtain ⟨n1, ts1, E1, f1, k1, r1⟩ := g1
  refine hd fs e1 σ _ H1 ts1 E1 e2 h2 _ fun x H2 g2 => ?_
  obtain ⟨n2, ts2, E2, f2, k2, r2⟩ := g2
  refine hk fs e2 σ _ H2 ts2 E2 e3 h3 _ fun y H3 g3 => ?_
  obtain ⟨n3, ts3, E3, f3, k3, r3⟩ := g3
  obtain ⟨a, H4, hx, hp, g4⟩ := E3.dput h4
  exact ⟨a, H4, hx, hp, k σ H4 (Goes.to n1 f1 k1 r1 (Goes.to n2 f2 k2 r2 (Goes.to n3 f3 k3 r3 g4)))⟩
def dFSet (C : Addr) (f : Str) : DX := fun e => e.swap.bind fun e0 => (takeTop e0).bind fun p => match p.2.tp with
  | .ref j π :: tp => match look1 p.2.st j π with
    | some (.node (.ins C' gs) us) => if C' = C ∧ us.length < 900 then (match ixOf f gs with
      | some n => some { p.2 with st := setU p.2.st j π (.node (.ins C gs) (us.set n p.1)), sl := p.2.sl.map (kl j π (okN (· != n))), tp := tp.map (kl j π (okN (· != n))) }
      | none => some { p.2 with st := setU p.2.st j π (.node (.ins C (gs ++ [f])) (us ++ [p.1])), tp := tp }) else none
    | _ => none
  | _ => none
end
end FB
namespace FB
open PySem PySem.Spec PyProof.Rows L2
section
variable {K : PySem.W.Frag} {H H' : Hp} {fs : List T} {ta tb te tc : TE} {d d1 d2 d3 : DX} {r : R2} {e : Env} {σ : L2.St} {τ : List V} {ts : List T}
def fzS (j m : Nat) : Sl → Sl
  | .ref j' π => if j' = j then .fref m π else .ref j' π
  | s => s
def ufS (j m : Nat) : Sl → Sl
  | .fref m' π => if m' = m then .ref j π else .fref m' π
  | .ref j' π => if j' = j then .no else .ref j' π
  | s => s
def Env.freeze (e : Env) (j : Nat) : Option Env := (e.st[j]?).map fun u => { e with fz := e.fz ++ [u], st := e.st.set j (.leaf .non), sl := e.sl.map (fzS j e.fz.length), tp := e.tp.map (fzS j e.fz.length) }
def isNon : U → Bool
  | .leaf .non => true
  | _ => false
def Env.thaw (e : Env) (j m : Nat) : Option Env := match e.st[j]?, e.fz[m]? with
  | some w, some u => if isNon w = true then some { e with fz := e.fz.take m, st := e.st.set j u, sl := e.sl.map (ufS j m), tp := e.tp.map (ufS j m) } else none
  | _, _ => none
theorem set_feet {j : Nat} {c : T} (hj : ts[j]? = some c) : ∃ L R, T.footL ts = L ++ c.foot ++ R ∧ T.footL (ts.set j (.leaf .non)) = L ++ R := by
  obtain ⟨L, R, e1, e2⟩ := footL_split hj
  exact ⟨L, R, e1, by rw [e2, T.foot]; simp⟩
theorem EnvAt.freeze {j : Nat} {e1 : Env} (E : EnvAt K fs e σ τ H ts) (h : e.freeze j = some e1) : ∃ tj, ts[j]? = some tj ∧ e1.np = e.np ∧ EnvAt K (fs ++ [tj]) e1 σ τ H (ts.set j (.leaf .non)) := by
  obtain ⟨u, h1, rfl⟩ := Option.map_eq_some_iff.mp h
  rw [← E.er, erL_map, List.getElem?_map] at h1
  obtain ⟨tj, h2, rfl⟩ := Option.map_eq_some_iff.mp h1
  obtain ⟨L, R, e1, e2⟩ := set_feet h2
  have hcn := nodup_count.mp E.nd
  have hfl : fs.length = e.fz.length := by rw [← E.fe, erL_map, List.length_map]
  have sk : ∀ {z : Sl} {v : Option V}, SlAt K fs H ts z v → SlAt K (fs ++ [tj]) H (ts.set j (.leaf .non)) (fzS j e.fz.length z) v := fun {z v} hz => by
    cases z with
    | no => trivial
    | val u => exact hz
    | fref j' π =>
      obtain ⟨t', s', g1, g2⟩ := hz
      exact ⟨t', s', by rw [List.getElem?_append_left (List.getElem?_eq_some_iff.mp g1).1]; exact g1, g2⟩
    | ref j' π =>
      obtain ⟨t', s', g1, g2⟩ := hz
      show SlAt K (fs ++ [tj]) H (ts.set j (.leaf .non)) (if j' = j then .fref e.fz.length π else .ref j' π) v
      split
      · rename_i hjj
        subst hjj
        rw [h2] at g1
        obtain rfl := Option.some.inj g1
        exact ⟨tj, s', by rw [← hfl, List.getElem?_append_right (Nat.le_refl _)]; simp, g2⟩
      · rename_i hjj
        exact ⟨t', s', by rw [List.getElem?_set_ne fun z => hjj z.symm]; exact g1, g2⟩
  refine ⟨tj, h2, rfl, ⟨by rw [erL_set, E.er, T.er], ?_, ?_, ?_, ?_, ?_, by rw [List.length_map]; exact E.lσ, by rw [List.length_map]; exact E.lτ, fun i z hz => ?_, fun i z hz => ?_⟩⟩
  · rw [holdsL_iff]
    intro q hq
    rcases List.mem_or_eq_of_mem_set hq with hq | hq
    · exact (holdsL_iff ts).mp E.ho q hq
    · rw [hq, Holds]
      rfl
  · rw [e2, nodup_count]
    intro b
    have := hcn b
    rw [e1] at this
    simp only [List.count_append] at this ⊢
    omega
  · rw [erL_append, E.fe]
    rfl
  · rw [holdsL_iff]
    intro t ht
    rcases List.mem_append.mp ht with ht | ht
    · exact (holdsL_iff fs).mp E.fh t ht
    · rw [show t = tj by simpa using ht]
      exact (holdsL_iff ts).mp E.ho tj (List.mem_of_getElem? h2)
  · intro b hb hm
    rw [footL_append] at hb
    rw [e2] at hm
    rcases List.mem_append.mp hb with hb | hb
    · exact E.fd b hb (by rw [e1]; simp only [List.mem_append] at hm ⊢; exact hm.elim (fun h => .inl (.inl h)) .inr)
    · have hb : b ∈ tj.foot := by rw [T.footL, T.footL, List.append_nil] at hb; exact hb
      have h3 := hcn b
      have h4 := List.count_pos_iff.mpr hb
      have h5 := List.count_pos_iff.mpr hm
      rw [e1] at h3
      simp only [List.count_append] at h3 h5
      omega
  · rw [List.getElem?_map] at hz
    obtain ⟨z0, hz0, rfl⟩ := Option.map_eq_some_iff.mp hz
    obtain ⟨v, g1, g2⟩ := E.sl i z0 hz0
    exact ⟨v, g1, sk g2⟩
  · rw [List.getElem?_map] at hz
    obtain ⟨z0, hz0, rfl⟩ := Option.map_eq_some_iff.mp hz
    obtain ⟨v, g1, g2⟩ := E.tp i z0 hz0
    exact ⟨v, g1, sk g2⟩
theorem EnvAt.thawAt {j m np : Nat} {tj : T} {e1 e2 : Env} {σ' : L2.St} {τ' : List V} (E : EnvAt K fs e σ τ H ts) (hj : ts[j]? = some tj) (hm : m = fs.length) (G : Goes K (fs ++ [tj]) np H (ts.set j (.leaf .non)) e1 σ' τ' H') (h : e1.thaw j m = some e2) : ∃ ts', ts'[j]? = some tj ∧ e2.np = np ∧ EnvAt K fs e2 σ' τ' H' ts' ∧ (∀ b ∈ T.footL ts', b ∈ T.footL ts ∨ H b = none) ∧ Kp (fun b => b ∈ T.footL ts) H H' ∧ Rv np ts ts' := by
  obtain ⟨n1, ts1, E1, f1, k1, r1⟩ := G
  unfold Env.thaw at h
  split at h
  · rename_i w u hw hu
    split at h
    · rename_i hnon
      obtain rfl := Option.some.inj h
      -- the place of the tree is empty
      have hw2 := hw
      rw [← E1.er, erL_map, List.getElem?_map] at hw2
      obtain ⟨tw, htw, hwe⟩ := Option.map_eq_some_iff.mp hw2
      have htw0 : tw = .leaf .non := by
        cases tw with
        | leaf v =>
          rw [T.er] at hwe
          rw [← hwe] at hnon
          cases v <;> first | rfl | (cases hnon)
        | node a k cs =>
          rw [T.er] at hwe
          rw [← hwe] at hnon
          cases hnon
      subst htw0
      have hl : j < ts1.length := (List.getElem?_eq_some_iff.mp htw).1
      have hut : tj.er = u := by
        rw [← E1.fe, erL_append, hm, show fs.length = (T.erL fs).length by rw [erL_map, List.length_map], List.getElem?_append_right (Nat.le_refl _)] at hu
        simpa [T.erL] using hu
      obtain ⟨L, R, e3, e4⟩ := set_feet hj
      obtain ⟨L2, R2, e5, e6⟩ := footL_split htw
      rw [T.foot, List.append_nil] at e5
      have hsub : ∀ b ∈ T.footL (ts.set j (.leaf .non)), b ∈ T.footL ts := fun b hb => by
        rw [e4] at hb
        rw [e3]
        simp only [List.mem_append] at hb ⊢
        exact hb.elim (fun h => .inl (.inl h)) .inr
      have htj : ∀ b ∈ tj.foot, b ∈ T.footL (fs ++ [tj]) := fun b hb => by
        rw [footL_append, T.footL, T.footL, List.append_nil]
        exact List.mem_append_right _ hb
      have hhj : Holds K H' tj := (holdsL_iff _).mp E1.fh tj (by simp)
      have sk : ∀ {z : Sl} {v : Option V}, SlAt K (fs ++ [tj]) H' ts1 z v → SlAt K fs H' (ts1.set j tj) (ufS j m z) v := fun {z v} hz => by
        cases z with
        | no => trivial
        | val u => exact hz
        | ref j' π =>
          show SlAt K fs H' (ts1.set j tj) (if j' = j then .no else .ref j' π) v
          split
          · trivial
          · rename_i hjj
            obtain ⟨t', s', g1, g2, g3⟩ := hz
            exact ⟨t', s', by rw [List.getElem?_set_ne fun z => hjj z.symm]; exact g1, g2, g3⟩
        | fref m' π =>
          obtain ⟨t', s', g1, g2⟩ := hz
          show SlAt K fs H' (ts1.set j tj) (if m' = m then .ref j π else .fref m' π) v
          split
          · rename_i hmm
            subst hmm
            rw [hm, List.getElem?_append_right (Nat.le_refl _)] at g1
            obtain rfl : tj = t' := by simpa using g1
            exact ⟨tj, s', List.getElem?_set_self hl, g2⟩
          · rename_i hmm
            refine ⟨t', s', ?_, g2⟩
            have hlt : m' < (fs ++ [tj]).length := (List.getElem?_eq_some_iff.mp g1).1
            rw [List.length_append] at hlt
            rw [List.getElem?_append_left (by simp at hlt; omega)] at g1
            exact g1
      have hdj : ∀ b ∈ tj.foot, b ∉ T.footL ts1 := fun b hb => E1.fd b (htj b hb)
      have hnd1 := nodup_count.mp E1.nd
      have hcn := nodup_count.mp E.nd
      refine ⟨ts1.set j tj, List.getElem?_set_self hl, n1, ⟨by rw [erL_set, E1.er, hut], ?_, ?_, ?_, ?_, ?_, by rw [List.length_map]; exact E1.lσ, by rw [List.length_map]; exact E1.lτ, fun i z hz => ?_, fun i z hz => ?_⟩, fun b hb => ?_, k1.weak hsub, fun i t hi ht => ?_⟩
      · rw [holdsL_iff]
        intro q hq
        rcases List.mem_or_eq_of_mem_set hq with hq | hq
        · exact (holdsL_iff ts1).mp E1.ho q hq
        · rw [hq]
          exact hhj
      · rw [e6, nodup_count]
        intro b
        have h1 := hnd1 b
        have h2 := hcn b
        rw [e5] at h1
        rw [e3] at h2
        simp only [List.count_append] at h1 h2 ⊢
        by_cases hb : b ∈ tj.foot
        · have h3 := List.count_eq_zero_of_not_mem (hdj b hb)
          rw [e5] at h3
          simp only [List.count_append] at h3
          omega
        · have h3 := List.count_eq_zero_of_not_mem hb
          omega
      · show T.erL fs = e1.fz.take m
        rw [← E1.fe, erL_append, hm, show fs.length = (T.erL fs).length by rw [erL_map, List.length_map], List.take_left]
      · rw [holdsL_iff]
        exact fun t ht => (holdsL_iff _).mp E1.fh t (List.mem_append_left _ ht)
      · intro b hb hmm
        rw [e6] at hmm
        have h1 := E1.fd b (by rw [footL_append]; exact List.mem_append_left _ hb)
        rw [e5] at h1
        simp only [List.mem_append] at hmm h1
        rcases hmm with (h | h) | h
        · exact h1 (.inl h)
        · exact E.fd b hb (by rw [e3]; simp [h])
        · exact h1 (.inr h)
      · rw [List.getElem?_map] at hz
        obtain ⟨z0, hz0, rfl⟩ := Option.map_eq_some_iff.mp hz
        obtain ⟨v, g1, g2⟩ := E1.sl i z0 hz0
        exact ⟨v, g1, sk g2⟩
      · rw [List.getElem?_map] at hz
        obtain ⟨z0, hz0, rfl⟩ := Option.map_eq_some_iff.mp hz
        obtain ⟨v, g1, g2⟩ := E1.tp i z0 hz0
        exact ⟨v, g1, sk g2⟩
      · rw [e6] at hb
        simp only [List.mem_append] at hb
        have h1 := f1 b
        rw [e5] at h1
        simp only [List.mem_append] at h1
        rcases hb with (h | h) | h
        · exact (h1 (.inl h)).imp_left (hsub b)
        · exact .inl (by rw [e3]; simp [h])
        · exact (h1 (.inr h)).imp_left (hsub b)
      · by_cases hij : j = i
        · subst hij
          rw [hj] at ht
          obtain rfl := Option.some.inj ht
          exact ⟨_, List.getElem?_set_self hl, rfl⟩
        · obtain ⟨t', g1, g2⟩ := r1 i t hi (by rw [List.getElem?_set_ne hij]; exact ht)
          exact ⟨t', by rw [List.getElem?_set_ne hij]; exact g1, g2⟩
    · cases h
  · cases h
theorem EnvAt.thaw {j m np : Nat} {tj : T} {e1 e2 : Env} {σ' : L2.St} {τ' : List V} (E : EnvAt K fs e σ τ H ts) (hj : ts[j]? = some tj) (hm : m = fs.length) (G : Goes K (fs ++ [tj]) np H (ts.set j (.leaf .non)) e1 σ' τ' H') (h : e1.thaw j m = some e2) : Goes K fs np H ts e2 σ' τ' H' := by
  obtain ⟨ts', _, n, E', f, k, r⟩ := EnvAt.thawAt E hj hm G h
  exact ⟨n, ts', E', f, k, r⟩
end
end FB
namespace FB
open PySem PySem.Spec PyProof.Rows L2
section
variable {K : PySem.W.Frag} {H H' : Hp} {fs : List T} {ta tb te tc : TE} {d d1 d2 d3 : DX} {r : R2} {e : Env} {σ : L2.St} {τ : List V} {ts : List T}
def GX (K : PySem.W.Frag) (g : TG) (b : DX) : Prop := ∀ (fs : List T) (e : Env) (σ : L2.St) (τ : List V) (x : V) (H : Hp) (ts : List T), EnvAt K fs e σ (x :: τ) H ts → ∀ e', b e = some e' → ∀ N : L2.St → Hp → Prop, (∀ σ' H', Goes K fs e.np H ts e' σ' τ H' → N σ' H') → g x σ H N
theorem gx_name (i : Nat) : GX K (gName i) (fun e => e.put i) := fun fs e σ τ x H ts E e' h N k => by
  obtain ⟨n, E1⟩ := E.put h
  exact k _ H ⟨n, ts, E1, fun _ h => .inl h, Kp.refl _ _, Rv.refl _ _⟩
/-- the parts of a tuple, to targets -/
def GXs (K : PySem.W.Frag) (n : Nat) (g : TGs) (b : DX) : Prop := ∀ (fs : List T) (e : Env) (σ : L2.St) (τ : List V) (xs : List V) (H : Hp) (ts : List T), xs.length = n → EnvAt K fs e σ (xs ++ τ) H ts → ∀ e', b e = some e' → ∀ N : L2.St → Hp → Prop, (∀ σ' H', Goes K fs e.np H ts e' σ' τ H' → N σ' H') → g xs σ H N
theorem gxs_nil : GXs K 0 gNil some := fun fs e σ τ xs H ts hl E e' h N k => by
  obtain rfl := List.length_eq_zero_iff.mp hl
  obtain rfl := Option.some.inj h
  exact ⟨rfl, k σ H (Goes.refl E)⟩
theorem gxs_cons {n : Nat} {g : TG} {gs : TGs} {b1 b2 : DX} (h1 : GX K g b1) (h2 : GXs K n gs b2) : GXs K (n + 1) (gCons g gs) (dseq b1 b2) := fun fs e σ τ xs H ts hl E e' h N k => by
  obtain ⟨e1, g1, g2⟩ := dseq_some h
  cases xs with
  | nil => cases hl
  | cons x xs =>
    refine ⟨x, xs, rfl, h1 fs e σ (xs ++ τ) x H ts E e1 g1 _ fun σ1 H1 G1 => ?_⟩
    obtain ⟨n1, ts1, E1, f1, k1, r1⟩ := G1
    exact h2 fs e1 σ1 τ xs H1 ts1 (by simpa using hl) E1 e' g2 N fun σ' H' G2 => k σ' H' (Goes.to n1 f1 k1 r1 G2)
def kids (s : Sl) : Nat → List U → List Sl
  | _, [] => []
  | i, u :: us => kidS s i u :: kids s (i + 1) us
theorem kids_len (s : Sl) : ∀ (i : Nat) (us : List U), (kids s i us).length = us.length
  | _, [] => rfl
  | i, u :: us => by rw [kids, List.length_cons, List.length_cons, kids_len s (i + 1) us]
theorem kids_get (s : Sl) : ∀ (i n : Nat) (us : List U), (kids s i us)[n]? = (us[n]?).map fun u => kidS s (i + n) u
  | _, _, [] => rfl
  | i, 0, u :: us => rfl
  | i, n + 1, u :: us => by
    show (kids s (i + 1) us)[n]? = (us[n]?).map _
    rw [kids_get s (i + 1) n us, show i + 1 + n = i + (n + 1) by omega]
theorem kids_imm (s : Sl) : ∀ (i : Nat) (us : List U), U.immL us = true → kids s i us = us.map .val
  | _, [], _ => rfl
  | i, u :: us, h => by
    rw [U.immL, Bool.and_eq_true] at h
    rw [kids, List.map_cons, kids_imm s (i + 1) us h.2]
    unfold kidS
    rw [if_pos h.1]
theorem EnvAt.pushN {cs : List T} : ∀ {ss : List Sl} {vs : List V}, EnvAt K fs e σ τ H ts → ss.length = vs.length → (∀ (i : Nat) (s : Sl), ss[i]? = some s → ∃ v, vs[i]? = some v ∧ SlAt K fs H ts s (some v)) → EnvAt K fs { e with tp := ss ++ e.tp } σ (vs ++ τ) H ts
  | [], [], E, _, _ => E
  | [], _ :: _, _, h, _ => by cases h
  | _ :: _, [], _, h, _ => by cases h
  | s :: ss, v :: vs, E, hl, ha => by
    have E1 := EnvAt.pushN (cs := cs) (ss := ss) (vs := vs) E (by simpa using hl) fun i s h => ha (i + 1) s h
    obtain ⟨v', h1, h2⟩ := ha 0 s rfl
    obtain rfl : v = v' := Option.some.inj h1
    exact E1.push h2
def gTupD (n : Nat) (b : DX) : DX := fun e => e.top.bind fun p => (p.2.1.seq okT).bind fun us => if us.length = n then b { p.2.2 with tp := kids p.1 0 us ++ p.2.2.tp } else none
theorem gx_tup {n : Nat} {gs : TGs} {b : DX} (h1 : GXs K n gs b) : GX K (gTup K n gs) (gTupD n b) := fun fs e σ τ x H ts E e' h N k => by
  obtain ⟨⟨s, u, e1⟩, g1, h⟩ := Option.bind_eq_some_iff.mp h
  obtain ⟨us, g2, h⟩ := Option.bind_eq_some_iff.mp h
  obtain ⟨n1, E1, s1, l1⟩ := E.top g1
  obtain ⟨a, kd, cs, rfl, hk, hcs, ho, hh, hkid⟩ := E1.seq s1 l1 g2
  split at h
  · rename_i hn
    have hlen : cs.length = n := by rw [← hn, ← hcs, erL_map, List.length_map]
    refine ⟨a, cs.map T.val, rfl, obj_sqt ho hk, by rw [List.length_map, hlen], ?_⟩
    have E2 : EnvAt K fs { e1 with tp := kids s 0 us ++ e1.tp } σ (cs.map T.val ++ τ) H ts := by
      refine EnvAt.pushN (cs := cs) E1 (by rw [kids_len, List.length_map, ← hcs, erL_map, List.length_map]) fun i z hz => ?_
      rw [kids_get, Nat.zero_add, ← hcs, erL_map, List.getElem?_map] at hz
      cases hc : cs[i]? with
      | none => rw [hc] at hz; cases hz
      | some c =>
        rw [hc] at hz
        rw [← show kidS s i c.er = z from Option.some.inj hz]
        exact ⟨c.val, by rw [List.getElem?_map, hc]; rfl, hkid i c hc⟩
    have h : b { e1 with tp := kids s 0 us ++ e1.tp } = some e' := h
    exact h1 fs _ σ τ (cs.map T.val) H ts (by rw [List.length_map, hlen]) E2 e' h N fun σ' H' G => k σ' H' (by rw [← n1]; exact G)
  · cases h
theorem sx_asg {g : TG} {b : DX} (hg : GX K g b) (ha : EX K te d) : SX K (tAsg te g) (sDo (dseq d b)) := fun fs e σ τ H ts E o h D k => by
  obtain ⟨e2, hh, rfl⟩ := Option.map_eq_some_iff.mp h
  obtain ⟨e1, h1, h2⟩ := dseq_some hh
  refine ha fs e σ τ H ts E e1 h1 _ fun v H1 g1 => ?_
  obtain ⟨n1, ts1, E1, f1, k1, r1⟩ := g1
  exact hg fs e1 σ τ v H1 ts1 E1 e2 h2 _ fun σ' H' G => k σ' H' (Goes.to n1 f1 k1 r1 G)
def loopL (b : DX) (body : DS) : List Sl → DS
  | [], e => some (.nx e)
  | s :: r, e => ((b { e with tp := s :: e.tp }).bind body).bind fun o => match o with
    | .nx e1 => loopL b body r e1
    | .ct e1 => loopL b body r e1
    | .bk e1 => some (.nx e1)
    | .rt e1 => some (.rt e1)
/-- a turn of a loop: from the i-th item on -/
theorem loop_turn {g : TG} {b : DX} {tu : TS} {body : DS} (hg : GX K g b) (hb : SX K tu body) {np : Nat} {ts0 : List T} {H0 : Hp} {its : List Sl} {o : Out} {D : Ends} (ho : Post K fs np H0 ts0 τ D o) {i : Nat} {s : Sl} {x : V} (hs : its[i]? = some s) {ei : Env} {σ' : L2.St} {H' : Hp} (G : Goes K fs np H0 ts0 ei σ' τ H') (hx : ∀ ts1, EnvAt K fs ei σ' τ H' ts1 → SlAt K fs H' ts1 s (some x)) (hl : loopL b body (its.drop i) ei = some o) :
    g x σ' H' fun σ2 H2 => tu { D with nx := fun σ3 H3 => ∃ e1, Goes K fs np H0 ts0 e1 σ3 τ H3 ∧ loopL b body (its.drop (i + 1)) e1 = some o, ct := fun σ3 H3 => ∃ e1, Goes K fs np H0 ts0 e1 σ3 τ H3 ∧ loopL b body (its.drop (i + 1)) e1 = some o, bk := D.nx } σ2 H2 := by
  obtain ⟨n1, ts1, E1, f1, k1, r1⟩ := G
  have hd : its.drop i = s :: its.drop (i + 1) := by
    rw [List.drop_eq_getElem_cons (List.getElem?_eq_some_iff.mp hs).1, (List.getElem?_eq_some_iff.mp hs).2]
  rw [hd, loopL] at hl
  obtain ⟨o1, h1, h2⟩ := Option.bind_eq_some_iff.mp hl
  obtain ⟨e2, h3, h4⟩ := Option.bind_eq_some_iff.mp h1
  have E2 := E1.push (hx ts1 E1)
  refine hg fs _ σ' τ x H' ts1 E2 e2 h3 _ fun σ2 H2 G2 => ?_
  obtain ⟨n2, ts2, E3, f2, k2, r2⟩ := G2
  have tr : ∀ {e9 : Env} {σ9 : L2.St} {τ9 : List V} {H9 : Hp}, Goes K fs e2.np H2 ts2 e9 σ9 τ9 H9 → Goes K fs np H0 ts0 e9 σ9 τ9 H9 := fun G => Goes.to n1 f1 k1 r1 (Goes.to n2 f2 k2 r2 G)
  refine hb fs e2 σ2 τ H2 ts2 E3 o1 h4 _ ?_
  cases o1 with
  | nx e1 => exact fun σ3 H3 G3 => ⟨e1, tr G3, h2⟩
  | ct e1 => exact fun σ3 H3 G3 => ⟨e1, tr G3, h2⟩
  | bk e1 =>
    obtain rfl := Option.some.inj h2
    exact fun σ3 H3 G3 => ho σ3 H3 (tr G3)
  | rt e1 =>
    obtain rfl := Option.some.inj h2
    exact fun v σ3 H3 G3 => ho v σ3 H3 (tr G3)
def rngSl (lo : Int) (n : Nat) : List Sl := (List.range n).map fun (i : Nat) => .val (.leaf (.int (lo + (i : Int))))
/-- over range(n) -/
def sForR1 (a : DX) (b : DX) (body : DS) : DS := fun e => (a e).bind fun e1 => e1.leaf.bind fun y => (asInt y.1).bind fun j => if -(2 ^ 62) ≤ j ∧ j < 2 ^ 62 then loopL b body (rngSl 0 j.toNat) y.2 else none
theorem sx_forR1 {tv : TA} {g : TG} {b : DX} {tu : TS} {body : DS} (ha : AX K 1 tv d) (hg : GX K g b) (hb : SX K tu body) : SX K (tFor (iRng1 tv) g tu) (sForR1 d b body) := fun fs e σ τ H ts E o h D k => by
  obtain ⟨e1, h1, h⟩ := Option.bind_eq_some_iff.mp h
  obtain ⟨⟨y, e2⟩, h2, h⟩ := Option.bind_eq_some_iff.mp h
  obtain ⟨j, h3, h⟩ := Option.bind_eq_some_iff.mp h
  refine ha fs e σ τ H ts E e1 h1 _ fun vs H1 hl g1 => ?_
  obtain ⟨n1, ts1, E1, f1, k1, r1⟩ := g1
  obtain ⟨v, rfl⟩ : ∃ v, vs = [v] := List.length_eq_one_iff.mp hl
  have E1 : EnvAt K fs e1 σ (v :: τ) H1 ts1 := E1
  obtain ⟨n2, E2, rfl, _⟩ := E1.leaf h2
  obtain rfl := asInt_is h3
  split at h
  · rename_i hj
    have h : loopL b body (rngSl 0 j.toNat) e2 = some o := h
    have hlen : (rngSl 0 j.toNat).length = j.toNat := by unfold rngSl; rw [List.length_map, List.length_range]
    refine ⟨j, rfl, hj.1, hj.2, for_range (lo := 0) (n := j.toNat) (fun i σ3 H3 => ∃ e9, Goes K fs e.np H ts e9 σ3 τ H3 ∧ loopL b body ((rngSl 0 j.toNat).drop i) e9 = some o) ⟨e2, ⟨n2.trans n1, ts1, E2, f1, k1, r1⟩, h⟩ (fun i σ' H' hi hp => ?_) (fun σ' H' hp => ?_)⟩
    · obtain ⟨e9, G9, h9⟩ := hp
      exact loop_turn hg hb k (s := .val (.leaf (.int (0 + i)))) (by unfold rngSl; rw [List.getElem?_map, List.getElem?_range hi]; rfl) G9 (fun ts9 E9 => slat_leaf rfl) h9
    · obtain ⟨e9, G9, h9⟩ := hp
      rw [List.drop_eq_nil_of_le (by rw [hlen]; exact Nat.le_refl _), loopL] at h9
      obtain rfl := Option.some.inj h9
      exact k σ' H' G9
  · cases h
def outMap (f : Env → Option Env) : Out → Option Out
  | .nx e => (f e).map .nx
  | .rt e => (f e).map .rt
  | .bk e => (f e).map .bk
  | .ct e => (f e).map .ct
def dropF (m : Nat) : Sl → Sl
  | .fref m' π => if m' = m then .no else .fref m' π
  | s => s
def Env.pushF (e : Env) (u : U) : Env := { e with fz := e.fz ++ [u] }
def Env.popF (e : Env) (m : Nat) : Option Env := some { e with fz := e.fz.take m, sl := e.sl.map (dropF m), tp := e.tp.map (dropF m) }
theorem EnvAt.pushF {t : T} (E : EnvAt K fs e σ τ H ts) (ht : Holds K H t) (hf : t.foot = []) : EnvAt K (fs ++ [t]) (e.pushF t.er) σ τ H ts := by
  have sk : ∀ {z : Sl} {v : Option V}, SlAt K fs H ts z v → SlAt K (fs ++ [t]) H ts z v := fun {z v} hz => by
    cases z with
    | no => trivial
    | val u => exact hz
    | ref j π => exact hz
    | fref j' π =>
      obtain ⟨t', s', g1, g2⟩ := hz
      exact ⟨t', s', by rw [List.getElem?_append_left (List.getElem?_eq_some_iff.mp g1).1]; exact g1, g2⟩
  refine ⟨E.er, E.ho, E.nd, by rw [erL_append, E.fe]; rfl, ?_, ?_, E.lσ, E.lτ, fun i z hz => ?_, fun i z hz => ?_⟩
  · rw [holdsL_iff]
    intro q hq
    rcases List.mem_append.mp hq with hq | hq
    · exact (holdsL_iff fs).mp E.fh q hq
    · rw [show q = t by simpa using hq]
      exact ht
  · intro b hb
    rw [footL_append, T.footL, T.footL, hf] at hb
    exact E.fd b (by simpa using hb)
  · obtain ⟨v, g1, g2⟩ := E.sl i z hz
    exact ⟨v, g1, sk g2⟩
  · obtain ⟨v, g1, g2⟩ := E.tp i z hz
    exact ⟨v, g1, sk g2⟩
theorem Goes.popF {m np : Nat} {t : T} {e1 e2 : Env} {σ' : L2.St} {τ' : List V} (hm : m = fs.length) (G : Goes K (fs ++ [t]) np H ts e1 σ' τ' H') (h : e1.popF m = some e2) : Goes K fs np H ts e2 σ' τ' H' := by
  obtain ⟨n1, ts1, E1, f1, k1, r1⟩ := G
  obtain rfl := Option.some.inj h
  have sk : ∀ {z : Sl} {v : Option V}, SlAt K (fs ++ [t]) H' ts1 z v → SlAt K fs H' ts1 (dropF m z) v := fun {z v} hz => by
    cases z with
    | no => trivial
    | val u => exact hz
    | ref j π => exact hz
    | fref m' π =>
      obtain ⟨t', s', g1, g2⟩ := hz
      show SlAt K fs H' ts1 (if m' = m then .no else .fref m' π) v
      split
      · trivial
      · rename_i hmm
        refine ⟨t', s', ?_, g2⟩
        have hlt : m' < (fs ++ [t]).length := (List.getElem?_eq_some_iff.mp g1).1
        rw [List.length_append] at hlt
        rw [List.getElem?_append_left (by simp at hlt; omega)] at g1
        exact g1
  refine ⟨n1, ts1, ⟨E1.er, E1.ho, E1.nd, ?_, ?_, ?_, by rw [List.length_map]; exact E1.lσ, by rw [List.length_map]; exact E1.lτ, fun i z hz => ?_, fun i z hz => ?_⟩, f1, k1, r1⟩
  · show T.erL fs = e1.fz.take m
    rw [← E1.fe, erL_append, hm, show fs.length = (T.erL fs).length by rw [erL_map, List.length_map], List.take_left]
  · rw [holdsL_iff]
    exact fun t ht => (holdsL_iff _).mp E1.fh t (List.mem_append_left _ ht)
  · exact fun b hb => E1.fd b (by rw [footL_append]; exact List.mem_append_left _ hb)
  · rw [List.getElem?_map] at hz
    obtain ⟨z0, hz0, rfl⟩ := Option.map_eq_some_iff.mp hz
    obtain ⟨v, g1, g2⟩ := E1.sl i z0 hz0
    exact ⟨v, g1, sk g2⟩
  · rw [List.getElem?_map] at hz
    obtain ⟨z0, hz0, rfl⟩ := Option.map_eq_some_iff.mp hz
    obtain ⟨v, g1, g2⟩ := E1.tp i z0 hz0
    exact ⟨v, g1, sk g2⟩
/-- over the items of a list, a tuple, whose tree is only read meanwhile -/
def sForS (ok : Kd → Bool) (a : DX) (b : DX) (body : DS) : DS := fun e => (a e).bind fun e1 => e1.top.bind fun p => (p.2.1.seq ok).bind fun us => match p.1 with
  | .ref j π => (p.2.2.freeze j).bind fun e3 => (loopL b body (kids (.fref p.2.2.fz.length π) 0 us) e3).bind (outMap fun e => e.thaw j p.2.2.fz.length)
  | .val u => (loopL b body (kids (.fref p.2.2.fz.length []) 0 us) (p.2.2.pushF u)).bind (outMap fun e => e.popF p.2.2.fz.length)
  | .fref m π => loopL b body (kids (.fref m π) 0 us) p.2.2
  | .no => none
/-- what a walk over items asks -/
def Walks (K : PySem.W.Frag) (a : Addr) (xs : List V) (k : Kd) (g : TG) (tu : TS) (D : Ends) (σ : L2.St) (H : Hp) : Prop := IsObj K H a k xs ∧ ∃ Pv : Nat → L2.St → Hp → Prop, Pv 0 σ H ∧ (∀ i σ' H', Pv i σ' H' → IsObj K H' a k xs) ∧ (∀ i y σ' H', xs[i]? = some y → Pv i σ' H' → g y σ' H' fun σ2 H2 => tu { D with nx := Pv (i + 1), ct := Pv (i + 1), bk := D.nx } σ2 H2) ∧ ∀ σ' H', Pv xs.length σ' H' → D.nx σ' H'
theorem for_core {g : TG} {b : DX} {tu : TS} {body : DS} (hg : GX K g b) (hb : SX K tu body) {np : Nat} {ts0 : List T} {H0 : Hp} {o : Out} {D : Ends} (ho : Post K fs np H0 ts0 τ D o) {m : Nat} {π : List Nat} {tm : T} {a : Addr} {k : Kd} {cs : List T} (hm : fs[m]? = some tm) (hp : tm.get π = some (.node a k cs)) {e1 : Env} {σ1 : L2.St} {H1 : Hp} (G : Goes K fs np H0 ts0 e1 σ1 τ H1) (h : loopL b body (kids (.fref m π) 0 (T.erL cs)) e1 = some o) : Walks K a (cs.map T.val) k g tu D σ1 H1 := by
  have node : ∀ {e9 : Env} {σ9 : L2.St} {H9 : Hp}, Goes K fs np H0 ts0 e9 σ9 τ H9 → IsObj K H9 a k (cs.map T.val) ∧ HoldsL K H9 cs := fun {e9 σ9 H9} G9 => by
    obtain ⟨_, ts9, E9, _⟩ := G9
    have := get_holds hp ((holdsL_iff fs).mp E9.fh tm (List.mem_of_getElem? hm))
    rw [Holds] at this
    exact this
  have hlen : (kids (.fref m π) 0 (T.erL cs)).length = (cs.map T.val).length := by rw [kids_len, erL_map, List.length_map, List.length_map]
  refine ⟨(node G).1, fun i σ3 H3 => ∃ e9, Goes K fs np H0 ts0 e9 σ3 τ H3 ∧ loopL b body ((kids (.fref m π) 0 (T.erL cs)).drop i) e9 = some o, ⟨e1, G, h⟩, fun i σ' H' hpv => ?_, fun i y σ' H' hy hpv => ?_, fun σ' H' hpv => ?_⟩
  · obtain ⟨e9, G9, _⟩ := hpv
    exact (node G9).1
  · obtain ⟨e9, G9, h9⟩ := hpv
    rw [List.getElem?_map] at hy
    obtain ⟨c, hc, rfl⟩ := Option.map_eq_some_iff.mp hy
    have hh := (node G9).2
    refine loop_turn hg hb ho (s := kidS (.fref m π) i c.er) (by rw [kids_get, Nat.zero_add, erL_map, List.getElem?_map, hc]; rfl) G9 (fun ts9 E9 => ?_) h9
    unfold kidS
    split
    · rename_i hi
      exact ⟨c, rfl, rfl, (holdsL_iff cs).mp hh c (List.mem_of_getElem? hc), imm_foot c hi⟩
    · refine ⟨tm, c, hm, ?_, rfl⟩
      rw [tget_append, hp]
      show T.get [i] (.node a k cs) = _
      rw [get1]
      exact hc
  · obtain ⟨e9, G9, h9⟩ := hpv
    rw [List.drop_eq_nil_of_le (by rw [hlen]; exact Nat.le_refl _), loopL] at h9
    obtain rfl := Option.some.inj h9
    exact ho σ' H' G9
theorem outMap_post {fs' : List T} {f : Env → Option Env} {np : Nat} {ts ts0 : List T} {D : Ends} {o o1 : Out} (ho : outMap f o1 = some o) (hk : Post K fs np H ts τ D o) (hf : ∀ {e1 e2 : Env} {σ' : L2.St} {τ' : List V} {H' : Hp}, Goes K fs' np H ts0 e1 σ' τ' H' → f e1 = some e2 → Goes K fs np H ts e2 σ' τ' H') : Post K fs' np H ts0 τ D o1 := by
  cases o1 with
  | nx e1 =>
    obtain ⟨e2, h1, rfl⟩ := Option.map_eq_some_iff.mp ho
    exact fun σ' H' G => hk σ' H' (hf G h1)
  | rt e1 =>
    obtain ⟨e2, h1, rfl⟩ := Option.map_eq_some_iff.mp ho
    exact fun v σ' H' G => hk v σ' H' (hf G h1)
  | bk e1 =>
    obtain ⟨e2, h1, rfl⟩ := Option.map_eq_some_iff.mp ho
    exact fun σ' H' G => hk σ' H' (hf G h1)
  | ct e1 =>
    obtain ⟨e2, h1, rfl⟩ := Option.map_eq_some_iff.mp ho
    exact fun σ' H' G => hk σ' H' (hf G h1)
theorem seq_node {ok : Kd → Bool} {u : U} {us : List U} (h : u.seq ok = some us) : ∃ k, ok k = true ∧ u = .node k us := by
  unfold U.seq at h
  split at h
  · rename_i k us'
    split at h
    · rename_i hk
      exact ⟨k, hk, by rw [Option.some.inj h]⟩
    · cases h
  · cases h
theorem Post.from {np : Nat} {ts ts1 : List T} {H1 : Hp} {D : Ends} {o : Out} (h : Post K fs np H ts τ D o) (f1 : ∀ b ∈ T.footL ts1, b ∈ T.footL ts ∨ H b = none) (k1 : Kp (fun b => b ∈ T.footL ts) H H1) (r1 : Rv np ts ts1) : Post K fs np H1 ts1 τ D o := by
  cases o with
  | nx e' => exact fun σ' H' g => h σ' H' (Goes.trans f1 k1 r1 g)
  | rt e' => exact fun v σ' H' g => h v σ' H' (Goes.trans f1 k1 r1 g)
  | bk e' => exact fun σ' H' g => h σ' H' (Goes.trans f1 k1 r1 g)
  | ct e' => exact fun σ' H' g => h σ' H' (Goes.trans f1 k1 r1 g)
theorem for_items {ok : Kd → Bool} {g : TG} {b : DX} {tu : TS} {body : DS} (ha : EX K te d) (hg : GX K g b) (hb : SX K tu body) {fs : List T} {e : Env} {σ : L2.St} {τ : List V} {H : Hp} {ts : List T} (E : EnvAt K fs e σ τ H ts) {o : Out} (h : sForS ok d b body e = some o) {D : Ends} (k : Post K fs e.np H ts τ D o) {W : It → Hp → Prop} (hW : ∀ a xs kd H1, ok kd = true → Walks K a xs kd g tu D σ H1 → ∃ a', V.ref a = .ref a' ∧ (∃ xs, (if ok .tup = true then SqT K H1 a' xs else SqL K H1 a' xs)) ∧ W (if ok .tup = true then Itt K a' else Itl K a') H1) :
    te σ H fun x H1 => ∃ a, x = .ref a ∧ (∃ xs, (if ok .tup = true then SqT K H1 a xs else SqL K H1 a xs)) ∧ W (if ok .tup = true then Itt K a else Itl K a) H1 := by
  obtain ⟨e1, h1, h⟩ := Option.bind_eq_some_iff.mp h
  obtain ⟨⟨s, u, e2⟩, h2, h⟩ := Option.bind_eq_some_iff.mp h
  obtain ⟨us, h3, h⟩ := Option.bind_eq_some_iff.mp h
  obtain ⟨kd, hkd, rfl⟩ := seq_node h3
  refine ha fs e σ τ H ts E e1 h1 _ fun x H1 g1 => ?_
  obtain ⟨n1, ts1, E1, f1, k1, r1⟩ := g1
  obtain ⟨n2, E2, s2, l2⟩ := E1.top h2
  have hfl : fs.length = e2.fz.length := by rw [← E2.fe, erL_map, List.length_map]
  have hn : e2.np = e.np := n2.trans n1
  have kk := k.from f1 k1 r1
  cases s with
  | no => cases h
  | ref j π =>
    obtain ⟨e3, h4, h⟩ := Option.bind_eq_some_iff.mp h
    obtain ⟨o1, h5, h6⟩ := Option.bind_eq_some_iff.mp h
    obtain ⟨tj, hj, n3, E3⟩ := E2.freeze h4
    obtain ⟨t', s', g1, g2, g3⟩ := s2
    rw [hj] at g1
    obtain rfl := Option.some.inj g1
    have l2 : look1 e2.st j π = some (.node kd us) := l2
    rw [← E2.er] at l2
    obtain ⟨tj2, w, b1, b2, b3, b4⟩ := look1_get l2 E2.ho
    rw [hj] at b1
    obtain rfl := Option.some.inj b1
    rw [g2] at b2
    obtain rfl := Option.some.inj b2
    cases s' with
    | leaf v => rw [T.er] at b3; cases b3
    | node a kd' cs =>
      rw [T.er] at b3
      obtain ⟨rfl, rfl⟩ := U.node.inj b3
      have P1 := outMap_post (fs' := fs ++ [tj]) (ts0 := ts1.set j (.leaf .non)) h6 kk fun {e8 e9 σ' τ' H'} G hth => EnvAt.thaw E2 hj hfl.symm G hth
      have Wk := for_core hg hb P1 (m := e2.fz.length) (π := π) (tm := tj) (a := a) (k := kd') (cs := cs) (by rw [← hfl, List.getElem?_append_right (Nat.le_refl _)]; simp) g2 (by rw [← hn, ← n3]; exact Goes.refl E3) h5
      obtain ⟨a', e1, e2, e3⟩ := hW a _ kd' H1 hkd Wk
      exact ⟨a', by rw [Option.some.inj g3]; exact e1, e2, e3⟩
  | val w =>
    obtain ⟨o1, h5, h6⟩ := Option.bind_eq_some_iff.mp h
    obtain ⟨t, g1, g2, g3, g4⟩ := s2
    obtain rfl : w = .node kd us := Option.some.inj l2
    cases t with
    | leaf v => rw [T.er] at g2; cases g2
    | node a kd' cs =>
      have hpe := E2.pushF g3 g4
      rw [g2] at hpe
      rw [T.er] at g2
      obtain ⟨rfl, rfl⟩ := U.node.inj g2
      have P1 := outMap_post (fs' := fs ++ [.node a kd' cs]) (ts0 := ts1) h6 kk fun {e8 e9 σ' τ' H'} G hth => Goes.popF hfl.symm G hth
      have Wk := for_core hg hb P1 (m := e2.fz.length) (π := []) (tm := .node a kd' cs) (a := a) (k := kd') (cs := cs) (by rw [← hfl, List.getElem?_append_right (Nat.le_refl _)]; simp) rfl (by rw [← hn]; exact Goes.refl hpe) h5
      obtain ⟨a', e1, e2, e3⟩ := hW a _ kd' H1 hkd Wk
      exact ⟨a', by rw [Option.some.inj g1]; exact e1, e2, e3⟩
  | fref m π =>
    obtain ⟨t', s', g1, g2, g3⟩ := s2
    have l2 : look1 e2.fz m π = some (.node kd us) := l2
    rw [← E2.fe] at l2
    obtain ⟨tj2, w, b1, b2, b3, b4⟩ := look1_get l2 E2.fh
    rw [g1] at b1
    obtain rfl := Option.some.inj b1
    rw [g2] at b2
    obtain rfl := Option.some.inj b2
    cases s' with
    | leaf v => rw [T.er] at b3; cases b3
    | node a kd' cs =>
      rw [T.er] at b3
      obtain ⟨rfl, rfl⟩ := U.node.inj b3
      have Wk := for_core hg hb kk g1 g2 (by rw [← hn]; exact Goes.refl E2) h
      obtain ⟨a', e1, e2, e3⟩ := hW a _ kd' H1 hkd Wk
      exact ⟨a', by rw [Option.some.inj g3]; exact e1, e2, e3⟩
theorem sx_forL {g : TG} {b : DX} {tu : TS} {body : DS} (ha : EX K te d) (hg : GX K g b) (hb : SX K tu body) : SX K (tFor (iList K te) g tu) (sForS okL d b body) := fun fs e σ τ H ts E o h D k => by
  have := for_items (ok := okL) (W := fun J H1 => ∃ W : Nat → Nat → L2.St → Hp → Prop, (∃ m, W 0 m σ H1) ∧ ∀ i m σ H, W i m σ H →
    (J.stop i H ∧ D.nx σ H) ∨ (J.go i H ∧ ∃ N : L2.St → Hp → Prop, (∀ σ' H', N σ' H' → ∃ m', m' < m ∧ W (i + 1) m' σ' H') ∧ ∀ x H', J.yld i H x H' → g x σ H' fun σ2 H2 => tu { D with nx := N, ct := N, bk := D.nx } σ2 H2)) ha hg hb E h k (fun a xs kd H1 hk hw => by
    obtain ⟨w1, Pv, w2, w3, w4, w5⟩ := hw
    exact ⟨a, rfl, ⟨xs, obj_sql w1 hk⟩, for_list Pv w2 (fun i σ' H' _ hp => obj_sql (w3 i σ' H' hp) hk) w4 w5⟩)
  exact this
end
end FB
namespace FB
open PySem PySem.Spec PyProof.Rows L2
section
variable {K : PySem.W.Frag} {H H' : Hp} {fs : List T} {ta tb te tc : TE} {d d1 d2 d3 : DX} {r : R2} {e : Env} {σ : L2.St} {τ : List V} {ts : List T}
def wipeSl (sl : List Sl) : List Nat → List Sl
  | [] => sl
  | v :: vs => (wipeSl sl vs).set v .no
theorem wipeSl_len (sl : List Sl) : ∀ vs : List Nat, (wipeSl sl vs).length = sl.length
  | [] => rfl
  | v :: vs => by rw [wipeSl, List.length_set, wipeSl_len sl vs]
def Env.wipe (e : Env) (vs : List Nat) : Env := { e with sl := wipeSl e.sl vs }
theorem EnvAt.wipe (E : EnvAt K fs e σ τ H ts) : ∀ vs : List Nat, EnvAt K fs (e.wipe vs) (L2.wipe σ vs) τ H ts
  | [] => E
  | v :: vs => by
    have E1 := E.wipe vs
    refine ⟨E1.er, E1.ho, E1.nd, E1.fe, E1.fh, E1.fd, ?_, E1.lτ, fun i s hs => ?_, E1.tp⟩
    · show ((L2.wipe σ vs).set v none).length = ((wipeSl e.sl vs).set v .no).length
      rw [List.length_set, List.length_set]
      exact E1.lσ
    · have hs : ((wipeSl e.sl vs).set v .no)[i]? = some s := hs
      have hl : (L2.wipe σ vs).length = (wipeSl e.sl vs).length := E1.lσ
      show ∃ w, ((L2.wipe σ vs).set v none)[i]? = some w ∧ _
      by_cases hv : v = i
      · subst hv
        have hi : v < (wipeSl e.sl vs).length := by
          have := (List.getElem?_eq_some_iff.mp hs).1
          rwa [List.length_set] at this
        rw [List.getElem?_set_self hi] at hs
        rw [← Option.some.inj hs]
        exact ⟨none, List.getElem?_set_self (by omega), trivial⟩
      · rw [List.getElem?_set_ne hv] at hs ⊢
        exact E1.sl i s hs
theorem wipeSl_out (sl : List Sl) {i : Nat} : ∀ {vs : List Nat}, i ∉ vs → (wipeSl sl vs)[i]? = sl[i]?
  | [], _ => rfl
  | v :: vs, h => by
    rw [List.mem_cons, not_or] at h
    rw [wipeSl, List.getElem?_set_ne fun z => h.1 z.symm, wipeSl_out sl h.2]
theorem wipeSl_in (sl : List Sl) {i : Nat} : ∀ {vs : List Nat}, i ∈ vs → i < sl.length → (wipeSl sl vs)[i]? = some .no
  | [], h, _ => by cases h
  | v :: vs, h, hl => by
    rw [wipeSl]
    by_cases hv : v = i
    · subst hv
      rw [List.getElem?_set_self (by rw [wipeSl_len]; exact hl)]
    · rw [List.getElem?_set_ne hv]
      exact wipeSl_in sl ((List.mem_cons.mp h).resolve_left fun z => hv z.symm) hl
/-- behind it the slots are what they were -/
theorem EnvAt.unwipe {vs : List Nat} (E : EnvAt K fs e (L2.wipe σ vs) τ H ts) : EnvAt K fs (e.wipe vs) σ τ H ts := by
  have hl : σ.length = e.sl.length := by rw [← wipe_length σ vs]; exact E.lσ
  refine ⟨E.er, E.ho, E.nd, E.fe, E.fh, E.fd, ?_, E.lτ, fun i s hs => ?_, E.tp⟩
  · show σ.length = (wipeSl e.sl vs).length
    rw [wipeSl_len]
    exact hl
  · have hs : (wipeSl e.sl vs)[i]? = some s := hs
    have hi : i < e.sl.length := by
      have := (List.getElem?_eq_some_iff.mp hs).1
      rwa [wipeSl_len] at this
    by_cases hv : i ∈ vs
    · rw [wipeSl_in e.sl hv hi] at hs
      rw [← Option.some.inj hs]
      exact ⟨σ[i], List.getElem?_eq_getElem (by omega), trivial⟩
    · rw [wipeSl_out e.sl hv] at hs
      obtain ⟨v, g1, g2⟩ := E.sl i s hs
      rw [wipe_out hv] at g1
      exact ⟨v, g1, g2⟩
/-- a target of the comprehension's own names -/
def GXW (K : PySem.W.Frag) (vs : List Nat) (g : TG) (b : DX) : Prop := ∀ (fs : List T) (e : Env) (σ : L2.St) (τ : List V) (x : V) (H : Hp) (ts : List T), EnvAt K fs e σ (x :: τ) H ts → ∀ e', b e = some e' → ∀ N : L2.St → Hp → Prop, (∀ σ' H', Goes K fs e.np H ts e' σ' τ H' → L2.wipe σ' vs = L2.wipe σ vs → N σ' H') → g x σ H N
theorem wipe_set {σ : L2.St} {i : Nat} {x : Option V} : ∀ {vs : List Nat}, i ∈ vs → L2.wipe (σ.set i x) vs = L2.wipe σ vs
  | [], h => by cases h
  | v :: vs, h => by
    show (L2.wipe (σ.set i x) vs).set v none = (L2.wipe σ vs).set v none
    by_cases hv : i ∈ vs
    · rw [wipe_set hv]
    · obtain rfl := (List.mem_cons.mp h).resolve_right hv
      have : ∀ {vs : List Nat}, i ∉ vs → L2.wipe (σ.set i x) vs = (L2.wipe σ vs).set i x := by
        intro vs
        induction vs with
        | nil => intro _; rfl
        | cons w vs ih =>
          intro hn
          rw [List.mem_cons, not_or] at hn
          show (L2.wipe (σ.set i x) vs).set w none = ((L2.wipe σ vs).set w none).set i x
          rw [ih hn.2, List.set_comm _ _ hn.1]
      rw [this hv, List.set_set]
theorem gxw_name {vs : List Nat} (i : Nat) (hi : i ∈ vs := by decide) : GXW K vs (gName i) (fun e => e.put i) := fun fs e σ τ x H ts E e' h N k => by
  obtain ⟨n, E1⟩ := E.put h
  exact k _ H ⟨n, ts, E1, fun _ h => .inl h, Kp.refl _ _, Rv.refl _ _⟩ (wipe_set hi)
/-- the element goes behind the list -/
def dAppK : DX := fun e => (takeTop e).bind fun p => match p.2.tp with
  | .ref j π :: tp => match look1 p.2.st j π with
    | some (.node .lst us) => if us.length < 100000 then some { p.2 with st := setU p.2.st j π (.node .lst (us ++ [p.1])), tp := .ref j π :: tp } else none
    | _ => none
  | _ => none
theorem EnvAt.appK {x y : V} {e' : Env} (E : EnvAt K fs e σ (y :: x :: τ) H ts) (h : dAppK e = some e') : ∃ a acc, x = .ref a ∧ H a = some (.lst acc) ∧ acc.length < sizeLine ∧ Goes K fs e.np H ts e' σ (x :: τ) (upd H a (.lst (acc ++ [y]))) := by
  obtain ⟨⟨u, e1⟩, h1, h⟩ := Option.bind_eq_some_iff.mp h
  obtain ⟨n1, ts1, c, E1, c1, c2, c3, c4, c5, c6, c7⟩ := take_fs E h1
  obtain ⟨np, fz, st, sl, tp⟩ := e1
  dsimp only at h
  split at h
  · rename_i j π tp'
    split at h
    · rename_i us hat
      split at h
      · rename_i hlen
        obtain rfl := Option.some.inj h
        obtain ⟨tj, a, cs, m1, m2, m3, rfl, m5, m6, m7⟩ := E1.nodeR hat
        have hl2 : (cs.map T.val).length = us.length := by rw [List.length_map, ← m3, erL_map, List.length_map]
        refine ⟨a, cs.map T.val, rfl, m5, by rw [hl2]; exact big hlen, ?_⟩
        -- the reference stays at hand: change with it on top
        obtain ⟨E2, f2, k2, r2⟩ := E1.modNode (H' := upd H a (.lst (cs.map T.val ++ [y]))) (f := fun _ => true) (k' := .lst) (cs' := cs ++ [c]) (xs := [c]) m1 m2 rfl rfl c3 c4 c7 (fun x hx => List.mem_append.mp hx) (fun b => by rw [footL_append, List.count_append]; omega) (fun b o hb n => by rw [upd_ne n]; exact hb) (by rw [List.map_append, ← c1]; exact upd_same) (fun n x _ hx => by rw [List.getElem?_append_left (List.getElem?_eq_some_iff.mp hx).1]; exact hx)
        rw [map_kl_true, map_kl_true, erL_append, m3, show T.erL [c] = [u] by rw [T.erL, T.erL, c2]] at E2
        have e9 : setU st j π (.node .lst (us ++ [u])) = st.set j (tj.er.put π (.node .lst (us ++ [u]))) := by
          unfold setU
          rw [m7]
        refine ⟨n1, _, ?_, fun b hb => .inl (c5 b (f2 b hb)), k2.weak fun b hb => c5 b (List.mem_append_right _ hb), c6.trans (by rw [← n1]; exact r2)⟩
        rw [e9]
        exact E2
      · cases h
    · cases h
  · cases h
def loopC (vs : List Nat) (b : DX) (t : DT) (a : DX) : List Sl → DX
  | [], e => some e
  | s :: r, e => (b { e with tp := s :: e.tp }).bind fun e1 => (t e1).bind fun p => if p.1 = true then (a p.2).bind fun e2 => (dAppK e2).bind fun e3 => loopC vs b t a r (e3.wipe vs) else loopC vs b t a r (p.2.wipe vs)
theorem tx_yes : TX K tYes (fun e => some (true, e)) := fun fs e σ τ H ts E b e' h Q q => by
  obtain ⟨rfl, rfl⟩ := Prod.mk.inj (Option.some.inj h)
  exact q H (Goes.refl E)
theorem lc_turn {vs : List Nat} {g : TG} {b : DX} {tt : TT} {dt : DT} (hg : GXW K vs g b) (ht : TX K tt dt) (he : EX K te d) {np : Nat} {ts0 : List T} {H0 : Hp} {its : List Sl} {eF : Env} {D : Addr} {i : Nat} {s : Sl} {x : V} (hs : its[i]? = some s) {ei : Env} {H' : Hp} (G : Goes K fs np H0 ts0 ei (L2.wipe σ vs) (.ref D :: τ) H') (hx : ∀ ts1, EnvAt K fs ei (L2.wipe σ vs) (.ref D :: τ) H' ts1 → SlAt K fs H' ts1 s (some x)) (hl : loopC vs b dt d (its.drop i) ei = some eF) :
    g x (L2.wipe σ vs) H' fun σ2 H2 => L2.wipe σ2 vs = L2.wipe σ vs ∧ tt σ2 H2 fun c H3 => if c = true then te σ2 H3 fun y H4 => ∃ acc, H4 D = some (.lst acc) ∧ acc.length < sizeLine ∧ (∃ e1, Goes K fs np H0 ts0 e1 (L2.wipe σ vs) (.ref D :: τ) (upd H4 D (.lst (acc ++ [y]))) ∧ loopC vs b dt d (its.drop (i + 1)) e1 = some eF) else (∃ e1, Goes K fs np H0 ts0 e1 (L2.wipe σ vs) (.ref D :: τ) H3 ∧ loopC vs b dt d (its.drop (i + 1)) e1 = some eF) := by
  obtain ⟨n1, ts1, E1, f1, k1, r1⟩ := G
  have hd : its.drop i = s :: its.drop (i + 1) := by
    rw [List.drop_eq_getElem_cons (List.getElem?_eq_some_iff.mp hs).1, (List.getElem?_eq_some_iff.mp hs).2]
  rw [hd, loopC] at hl
  obtain ⟨e2, h1, hl⟩ := Option.bind_eq_some_iff.mp hl
  obtain ⟨⟨c, e3⟩, h2, hl⟩ := Option.bind_eq_some_iff.mp hl
  have ww : L2.wipe (L2.wipe σ vs) vs = L2.wipe σ vs := by
    have : ∀ (vs ws : List Nat), (∀ v ∈ vs, v ∈ ws) → L2.wipe (L2.wipe σ vs) ws = L2.wipe σ ws := by
      intro vs
      induction vs with
      | nil => intro ws _; rfl
      | cons v vs ih =>
        intro ws hw
        show L2.wipe ((L2.wipe σ vs).set v none) ws = _
        rw [wipe_set (hw v List.mem_cons_self)]
        exact ih ws fun z hz => hw z (List.mem_cons_of_mem _ hz)
    exact this vs vs fun _ h => h
  refine hg fs _ (L2.wipe σ vs) _ x H' ts1 (E1.push (hx ts1 E1)) e2 h1 _ fun σ2 H2 G2 w2 => ?_
  rw [ww] at w2
  obtain ⟨n2, ts2, E2, f2, k2, r2⟩ := G2
  refine ⟨w2, ht fs e2 σ2 _ H2 ts2 E2 c e3 h2 _ fun H3 G3 => ?_⟩
  obtain ⟨n3, ts3, E3, f3, k3, r3⟩ := G3
  have fin : ∀ {e9 : Env} {H9 : Hp}, Goes K fs np H0 ts0 e9 σ2 (.ref D :: τ) H9 → Goes K fs np H0 ts0 (e9.wipe vs) (L2.wipe σ vs) (.ref D :: τ) H9 := fun {e9 H9} G => by
    obtain ⟨m1, m2, m3, m4⟩ := G
    refine ⟨m1, m2, ?_, m4⟩
    have := m3.wipe vs
    rw [w2] at this
    exact this
  have tr : ∀ {e9 : Env} {σ9 : L2.St} {τ9 : List V} {H9 : Hp}, Goes K fs e3.np H3 ts3 e9 σ9 τ9 H9 → Goes K fs np H0 ts0 e9 σ9 τ9 H9 := fun G => Goes.to n1 f1 k1 r1 (Goes.to n2 f2 k2 r2 (Goes.to n3 f3 k3 r3 G))
  cases c with
  | true =>
    have hl : ((d e3).bind fun e2 => (dAppK e2).bind fun e3 => loopC vs b dt d (its.drop (i + 1)) (e3.wipe vs)) = some eF := hl
    obtain ⟨e4, h4, hl⟩ := Option.bind_eq_some_iff.mp hl
    obtain ⟨e5, h5, hl⟩ := Option.bind_eq_some_iff.mp hl
    show te σ2 H3 _
    refine he fs e3 σ2 _ H3 ts3 E3 e4 h4 _ fun y H4 G4 => ?_
    obtain ⟨n4, ts4, E4, f4, k4, r4⟩ := G4
    obtain ⟨a, acc, ea, q1, q2, q3⟩ := E4.appK h5
    obtain rfl : D = a := V.ref.inj ea
    exact ⟨acc, q1, q2, e5.wipe vs, fin (tr (Goes.to n4 f4 k4 r4 q3)), hl⟩
  | false =>
    have hl : loopC vs b dt d (its.drop (i + 1)) (e3.wipe vs) = some eF := hl
    exact ⟨e3.wipe vs, fin (tr (Goes.refl E3)), hl⟩
/-- the new list, ahead of the turns -/
def Env.newL (e : Env) (vs : List Nat) : Env := ({ e with sl := wipeSl e.sl vs } : Env).new (.node .lst [])
theorem EnvAt.newL {D : Addr} (E : EnvAt K fs e σ τ H ts) (vs : List Nat) (nD : H D = none) : Goes K fs e.np H ts (e.newL vs) (L2.wipe σ vs) (.ref D :: τ) (upd H D (.lst [])) := by
  obtain ⟨E1, f1, r1⟩ := (E.wipe vs).newF (k := .lst) (cs := []) nD (same_new nD) upd_same trivial (by rw [T.footL]; exact E.nd) (fun b hb => by rw [T.footL] at hb; cases hb)
  refine ⟨rfl, _, E1, fun b hb => ?_, fun b o hb _ => same_new nD b o hb, r1⟩
  rcases f1 b hb with h | h
  · rw [T.footL] at h
    exact .inl h
  · exact .inr h
/-- over range(n) -/
def dLcR1 (vs : List Nat) (a : DX) (b : DX) (t : DT) (x : DX) : DX := fun e => (a e).bind fun e1 => e1.leaf.bind fun y => (asInt y.1).bind fun j => if -(2 ^ 62) ≤ j ∧ j < 2 ^ 62 then (loopC vs b t x (rngSl 0 j.toNat) (y.2.newL vs)).map fun e => e.wipe vs else none
theorem ex_lcR1 {vs : List Nat} {tv : TA} {g : TG} {b : DX} {tt : TT} {dt : DT} (ha : AX K 1 tv d1) (hg : GXW K vs g b) (ht : TX K tt dt) (he : EX K te d) : EX K (tLc (iRng1 tv) g tt te vs) (dLcR1 vs d1 b dt d) := fun fs e σ τ H ts E e' h Q q => by
  obtain ⟨e1, h1, h⟩ := Option.bind_eq_some_iff.mp h
  obtain ⟨⟨y, e2⟩, h2, h⟩ := Option.bind_eq_some_iff.mp h
  obtain ⟨j, h3, h⟩ := Option.bind_eq_some_iff.mp h
  refine ha fs e σ τ H ts E e1 h1 _ fun ws H1 hl g1 => ?_
  obtain ⟨n1, ts1, E1, f1, k1, r1⟩ := g1
  obtain ⟨v, rfl⟩ : ∃ v, ws = [v] := List.length_eq_one_iff.mp hl
  have E1 : EnvAt K fs e1 σ (v :: τ) H1 ts1 := E1
  obtain ⟨n2, E2, rfl, _⟩ := E1.leaf h2
  obtain rfl := asInt_is h3
  split at h
  · rename_i hj
    obtain ⟨eF, hh, rfl⟩ := Option.map_eq_some_iff.mp h
    have hlen : (rngSl 0 j.toNat).length = j.toNat := by unfold rngSl; rw [List.length_map, List.length_range]
    have hn : e2.np = e.np := n2.trans n1
    refine ⟨j, rfl, hj.1, hj.2, fun D nD => lc_range (lo := 0) (n := j.toNat) (fun i H3 => ∃ e9, Goes K fs e.np H ts e9 (L2.wipe σ vs) (.ref D :: τ) H3 ∧ loopC vs b dt d ((rngSl 0 j.toNat).drop i) e9 = some eF) ⟨e2.newL vs, Goes.to (e1 := e2) hn f1 k1 r1 (E2.newL vs nD), hh⟩ (fun i H' hi hp => ?_) (fun H' hp => ?_)⟩
    · obtain ⟨e9, G9, h9⟩ := hp
      exact lc_turn hg ht he (s := .val (.leaf (.int (0 + i)))) (by unfold rngSl; rw [List.getElem?_map, List.getElem?_range hi]; rfl) G9 (fun ts9 E9 => slat_leaf rfl) h9
    · obtain ⟨e9, ⟨m1, m2, m3, m4⟩, h9⟩ := hp
      rw [List.drop_eq_nil_of_le (by rw [hlen]; exact Nat.le_refl _), loopC] at h9
      obtain rfl := Option.some.inj h9
      exact q _ H' ⟨m1, m2, m3.unwipe, m4⟩
  · cases h
/-- over the items of a list, a tuple -/
def dLcS (ok : Kd → Bool) (vs : List Nat) (a : DX) (b : DX) (t : DT) (x : DX) : DX := fun e => (a e).bind fun e1 => e1.top.bind fun p => (p.2.1.seq ok).bind fun us => match p.1 with
  | .ref j π => (p.2.2.freeze j).bind fun e3 => (loopC vs b t x (kids (.fref p.2.2.fz.length π) 0 us) (e3.newL vs)).bind fun e => (e.wipe vs).thaw j p.2.2.fz.length
  | .val u => (loopC vs b t x (kids (.fref p.2.2.fz.length []) 0 us) ((p.2.2.pushF u).newL vs)).bind fun e => (e.wipe vs).popF p.2.2.fz.length
  | .fref m π => (loopC vs b t x (kids (.fref m π) 0 us) (p.2.2.newL vs)).map fun e => e.wipe vs
  | .no => none
/-- what a walk of a comprehension asks -/
def WalksC (K : PySem.W.Frag) (a : Addr) (xs : List V) (k : Kd) (vs : List Nat) (g : TG) (tt : TT) (te : TE) (σ : L2.St) (H : Hp) (Q : VK) : Prop := IsObj K H a k xs ∧ ∀ D, H D = none → ∃ Pv : Nat → Hp → Prop, Pv 0 (upd H D (.lst [])) ∧ (∀ i H', Pv i H' → IsObj K H' a k xs) ∧ (∀ i y H', xs[i]? = some y → Pv i H' → g y (L2.wipe σ vs) H' fun σ2 H2 => L2.wipe σ2 vs = L2.wipe σ vs ∧ tt σ2 H2 fun c H3 => if c = true then te σ2 H3 fun y H4 => ∃ acc, H4 D = some (.lst acc) ∧ acc.length < sizeLine ∧ Pv (i + 1) (upd H4 D (.lst (acc ++ [y]))) else Pv (i + 1) H3) ∧ ∀ H', Pv xs.length H' → Q (.ref D) H'
theorem lcS_core {vs : List Nat} {g : TG} {b : DX} {tt : TT} {dt : DT} (hg : GXW K vs g b) (ht : TX K tt dt) (he : EX K te d) {m : Nat} {π : List Nat} {tm : T} {a : Addr} {k : Kd} {cs : List T} (hm : fs[m]? = some tm) (hp : tm.get π = some (.node a k cs)) {e1 eF : Env} {H1 : Hp} {ts1 : List T} (E : EnvAt K fs e1 σ τ H1 ts1) (h : loopC vs b dt d (kids (.fref m π) 0 (T.erL cs)) (e1.newL vs) = some eF) {Q : VK} (q : ∀ v H', Goes K fs e1.np H1 ts1 (eF.wipe vs) σ (v :: τ) H' → Q v H') : WalksC K a (cs.map T.val) k vs g tt te σ H1 Q := by
  have node0 : ∀ {e9 : Env} {σ9 : L2.St} {τ9 : List V} {H9 : Hp} {ts9 : List T}, EnvAt K fs e9 σ9 τ9 H9 ts9 → IsObj K H9 a k (cs.map T.val) ∧ HoldsL K H9 cs := fun E9 => by
    have := get_holds hp ((holdsL_iff fs).mp E9.fh tm (List.mem_of_getElem? hm))
    rw [Holds] at this
    exact this
  have hlen : (kids (.fref m π) 0 (T.erL cs)).length = (cs.map T.val).length := by rw [kids_len, erL_map, List.length_map, List.length_map]
  refine ⟨(node0 E).1, fun D nD => ⟨fun i H3 => ∃ e9, Goes K fs e1.np H1 ts1 e9 (L2.wipe σ vs) (.ref D :: τ) H3 ∧ loopC vs b dt d ((kids (.fref m π) 0 (T.erL cs)).drop i) e9 = some eF, ⟨_, E.newL vs nD, h⟩, fun i H' hpv => ?_, fun i y H' hy hpv => ?_, fun H' hpv => ?_⟩⟩
  · obtain ⟨e9, ⟨_, ts9, E9, _⟩, _⟩ := hpv
    exact (node0 E9).1
  · obtain ⟨e9, G9, h9⟩ := hpv
    rw [List.getElem?_map] at hy
    obtain ⟨c, hc, rfl⟩ := Option.map_eq_some_iff.mp hy
    refine lc_turn hg ht he (s := kidS (.fref m π) i c.er) (by rw [kids_get, Nat.zero_add, erL_map, List.getElem?_map, hc]; rfl) G9 (fun ts9 E9 => ?_) h9
    have hh := (node0 E9).2
    unfold kidS
    split
    · rename_i hi
      exact ⟨c, rfl, rfl, (holdsL_iff cs).mp hh c (List.mem_of_getElem? hc), imm_foot c hi⟩
    · refine ⟨tm, c, hm, ?_, rfl⟩
      rw [tget_append, hp]
      show T.get [i] (.node a k cs) = _
      rw [get1]
      exact hc
  · obtain ⟨e9, ⟨m1, m2, m3, m4⟩, h9⟩ := hpv
    rw [List.drop_eq_nil_of_le (by rw [hlen]; exact Nat.le_refl _), loopC] at h9
    obtain rfl := Option.some.inj h9
    exact q _ H' ⟨m1, m2, m3.unwipe, m4⟩
theorem lc_items {ok : Kd → Bool} {vs : List Nat} {g : TG} {b : DX} {tt : TT} {dt : DT} {ti : TE} (ha : EX K ti d1) (hg : GXW K vs g b) (ht : TX K tt dt) (he : EX K te d) {fs : List T} {e : Env} {σ : L2.St} {τ : List V} {H : Hp} {ts : List T} (E : EnvAt K fs e σ τ H ts) {e' : Env} (h : dLcS ok vs d1 b dt d e = some e') {Q : VK} (q : ∀ v H', Goes K fs e.np H ts e' σ (v :: τ) H' → Q v H') {R : V → Hp → Prop} (hW : ∀ a xs kd H1, ok kd = true → WalksC K a xs kd vs g tt te σ H1 Q → R (.ref a) H1) : ti σ H R := by
  obtain ⟨e1, h1, h⟩ := Option.bind_eq_some_iff.mp h
  obtain ⟨⟨s, u, e2⟩, h2, h⟩ := Option.bind_eq_some_iff.mp h
  obtain ⟨us, h3, h⟩ := Option.bind_eq_some_iff.mp h
  obtain ⟨kd, hkd, rfl⟩ := seq_node h3
  refine ha fs e σ τ H ts E e1 h1 _ fun x H1 g1 => ?_
  obtain ⟨n1, ts1, E1, f1, k1, r1⟩ := g1
  obtain ⟨n2, E2, s2, l2⟩ := E1.top h2
  have hfl : fs.length = e2.fz.length := by rw [← E2.fe, erL_map, List.length_map]
  have hn : e2.np = e.np := n2.trans n1
  have qq : ∀ v H', Goes K fs e2.np H1 ts1 e' σ (v :: τ) H' → Q v H' := fun v H' G => q v H' (Goes.to hn f1 k1 r1 G)
  cases s with
  | no => cases h
  | ref j π =>
    obtain ⟨e3, h4, h⟩ := Option.bind_eq_some_iff.mp h
    obtain ⟨eF, h5, h6⟩ := Option.bind_eq_some_iff.mp h
    obtain ⟨tj, hj, n3, E3⟩ := E2.freeze h4
    obtain ⟨t', s', g1, g2, g3⟩ := s2
    rw [hj] at g1
    obtain rfl := Option.some.inj g1
    have l2 : look1 e2.st j π = some (.node kd us) := l2
    rw [← E2.er] at l2
    obtain ⟨tj2, w, b1, b2, b3, b4⟩ := look1_get l2 E2.ho
    rw [hj] at b1
    obtain rfl := Option.some.inj b1
    rw [g2] at b2
    obtain rfl := Option.some.inj b2
    cases s' with
    | leaf v => rw [T.er] at b3; cases b3
    | node a kd' cs =>
      rw [T.er] at b3
      obtain ⟨rfl, rfl⟩ := U.node.inj b3
      have Wk := lcS_core hg ht he (Q := Q) (m := e2.fz.length) (π := π) (tm := tj) (a := a) (k := kd') (cs := cs) (by rw [← hfl, List.getElem?_append_right (Nat.le_refl _)]; simp) g2 E3 h5 fun v H' G => qq v H' (by rw [n3] at G; exact EnvAt.thaw E2 hj hfl.symm G h6)
      rw [Option.some.inj g3]
      exact hW a _ kd' H1 hkd Wk
  | val w =>
    obtain ⟨eF, h5, h6⟩ := Option.bind_eq_some_iff.mp h
    obtain ⟨t, g1, g2, g3, g4⟩ := s2
    obtain rfl : w = .node kd us := Option.some.inj l2
    cases t with
    | leaf v => rw [T.er] at g2; cases g2
    | node a kd' cs =>
      have hpe := E2.pushF g3 g4
      rw [g2] at hpe
      rw [T.er] at g2
      obtain ⟨rfl, rfl⟩ := U.node.inj g2
      have Wk := lcS_core hg ht he (Q := Q) (m := e2.fz.length) (π := []) (tm := .node a kd' cs) (a := a) (k := kd') (cs := cs) (by rw [← hfl, List.getElem?_append_right (Nat.le_refl _)]; simp) rfl hpe h5 fun v H' G => qq v H' (Goes.popF hfl.symm G h6)
      rw [Option.some.inj g1]
      exact hW a _ kd' H1 hkd Wk
  | fref m π =>
    obtain ⟨eF, h5, rfl⟩ := Option.map_eq_some_iff.mp h
    obtain ⟨t', s', g1, g2, g3⟩ := s2
    have l2 : look1 e2.fz m π = some (.node kd us) := l2
    rw [← E2.fe] at l2
    obtain ⟨tj2, w, b1, b2, b3, b4⟩ := look1_get l2 E2.fh
    rw [g1] at b1
    obtain rfl := Option.some.inj b1
    rw [g2] at b2
    obtain rfl := Option.some.inj b2
    cases s' with
    | leaf v => rw [T.er] at b3; cases b3
    | node a kd' cs =>
      rw [T.er] at b3
      obtain ⟨rfl, rfl⟩ := U.node.inj b3
      have Wk := lcS_core hg ht he (Q := Q) g1 g2 E2 h5 qq
      rw [Option.some.inj g3]
      exact hW a _ kd' H1 hkd Wk
theorem ex_lcL {vs : List Nat} {ti : TE} {g : TG} {b : DX} {tt : TT} {dt : DT} (ha : EX K ti d1) (hg : GXW K vs g b) (ht : TX K tt dt) (he : EX K te d) : EX K (tLc (iList K ti) g tt te vs) (dLcS okL vs d1 b dt d) := fun fs e σ τ H ts E e' h Q q => lc_items ha hg ht he E h q fun a xs kd H1 hk hw => by
  obtain ⟨w1, w2⟩ := hw
  refine ⟨a, rfl, ⟨xs, obj_sql w1 hk⟩, fun D nD => ?_⟩
  obtain ⟨Pv, p0, p1, p2, p3⟩ := w2 D nD
  exact lc_list Pv p0 (fun i H' _ hp => obj_sql (p1 i H' hp) hk) p2 p3
theorem ex_lcT {vs : List Nat} {ti : TE} {g : TG} {b : DX} {tt : TT} {dt : DT} (ha : EX K ti d1) (hg : GXW K vs g b) (ht : TX K tt dt) (he : EX K te d) : EX K (tLc (iTup K ti) g tt te vs) (dLcS okT vs d1 b dt d) := fun fs e σ τ H ts E e' h Q q => lc_items ha hg ht he E h q fun a xs kd H1 hk hw => by
  obtain ⟨w1, w2⟩ := hw
  refine ⟨a, rfl, ⟨xs, obj_sqt w1 hk⟩, fun D nD => ?_⟩
  obtain ⟨Pv, p0, p1, p2, p3⟩ := w2 D nD
  exact lc_tup Pv p0 (fun i H' _ hp => obj_sqt (p1 i H' hp) hk) p2 p3
end
end FB
namespace FB
open PySem PySem.Spec PyProof.Rows L2
section
variable {K : PySem.W.Frag} {H H' : Hp} {fs : List T} {ta tb te tc : TE} {d d1 d2 d3 : DX} {r : R2} {e : Env} {σ : L2.St} {τ : List V} {ts : List T}
def fInt (g : Int → Int → V) : V → V → Option V
  | .int i, .int j => some (g i j)
  | _, _ => none
def fIntC (c : Int → Int → Bool) (g : Int → Int → V) : V → V → Option V
  | .int i, .int j => if c i j = true then some (g i j) else none
  | _, _ => none
def fStr (g : Str → Str → V) : V → V → Option V
  | .str i, .str j => some (g i j)
  | _, _ => none
theorem rx_int {g : Int → Int → V} (hg : ∀ i j, scalV (g i j) = true := by intro _ _; rfl) : RX2 K (rI0 g) (dS2 (fInt g)) := rx_s2 (fun x y H Q z h q => by
  cases x <;> cases y <;> cases h
  exact ⟨_, _, rfl, rfl, q⟩) (fun x y z _ _ h => by
  cases x <;> cases y <;> cases h
  exact hg _ _)
theorem rx_intC {c : Int → Int → Bool} {C : Int → Int → Prop} {g : Int → Int → V} (hc : ∀ i j, c i j = true → C i j) (hg : ∀ i j, scalV (g i j) = true := by intro _ _; rfl) : RX2 K (rI C g) (dS2 (fIntC c g)) := rx_s2 (fun x y H Q z h q => by
  cases x with
  | int i =>
    cases y with
    | int j =>
      unfold fIntC at h
      dsimp only at h
      split at h
      · rename_i hh
        obtain rfl := Option.some.inj h
        exact ⟨_, _, rfl, rfl, hc _ _ hh, q⟩
      · cases h
    | _ => cases h
  | _ => cases h) (fun x y z _ _ h => by
  cases x with
  | int i =>
    cases y with
    | int j =>
      unfold fIntC at h
      dsimp only at h
      split at h
      · obtain rfl := Option.some.inj h
        exact hg _ _
      · cases h
    | _ => cases h
  | _ => cases h)
theorem rx_str {g : Str → Str → V} {r : R2} (hr : ∀ i j H Q, Q (g i j) H → r (.str i) (.str j) H Q) (hg : ∀ i j, scalV (g i j) = true := by intro _ _; rfl) : RX2 K r (dS2 (fStr g)) := rx_s2 (fun x y H Q z h q => by
  cases x <;> cases y <;> cases h
  exact hr _ _ H Q q) (fun x y z _ _ h => by
  cases x <;> cases y <;> cases h
  exact hg _ _)
def fAdd := fInt fun i j => .int (i + j)
def fSub := fInt fun i j => .int (i - j)
def fLt := fInt fun i j => .bl (decide (i < j))
def fLe := fInt fun i j => .bl (decide (i ≤ j))
def fGt := fInt fun i j => .bl (decide (j < i))
def fGe := fInt fun i j => .bl (decide (j ≤ i))
def small64 (i : Int) : Bool := decide (-(2 ^ 64) < i ∧ i < 2 ^ 64)
def fMul := fIntC (fun i j => small64 i || small64 j) fun i j => .int (i * j)
def fMod := fIntC (fun _ j => decide (0 < j)) fun i j => .int (i % j)
def fDiv := fIntC (fun _ j => decide (0 < j ∧ j < 2 ^ 60)) fun i j => .int (i / j)
theorem rx_add : RX2 K (rI0 fun i j => .int (i + j)) (dS2 fAdd) := rx_int
theorem rx_sub : RX2 K (rI0 fun i j => .int (i - j)) (dS2 fSub) := rx_int
theorem rx_gt : RX2 K (rI0 fun i j => .bl (decide (j < i))) (dS2 fGt) := rx_int
theorem rx_mul : RX2 K (rI CMul fun i j => .int (i * j)) (dS2 fMul) := rx_intC fun i j h => by
  rw [Bool.or_eq_true] at h
  exact h.imp (fun h => of_decide_eq_true h) (fun h => of_decide_eq_true h)
theorem rx_mod : RX2 K (rI (fun _ j => 0 < j) fun i j => .int (i % j)) (dS2 fMod) := rx_intC fun i j h => of_decide_eq_true h
theorem rx_div : RX2 K (rI CDivW fun i j => .int (i / j)) (dS2 fDiv) := rx_intC fun i j h => by
  have h := of_decide_eq_true h
  exact wide_div (b := 60) h.1 (by omega) (by decide) (by decide)
def fLtS := fStr fun i j => .bl (ltS i j)
def fLeS := fStr fun i j => .bl (!ltS j i)
def fGtS := fStr fun i j => .bl (ltS j i)
def fGeS := fStr fun i j => .bl (!ltS i j)
theorem rx_ltS : RX2 K (fun x y H Q => ∃ i j, x = .str i ∧ y = .str j ∧ Q (.bl (decide (i.cps.toList < j.cps.toList))) H) (dS2 fLtS) := rx_str fun i j H Q q => ⟨i, j, rfl, rfl, q⟩
theorem rx_leS : RX2 K (fun x y H Q => ∃ i j, x = .str i ∧ y = .str j ∧ Q (.bl (!decide (j.cps.toList < i.cps.toList))) H) (dS2 fLeS) := rx_str fun i j H Q q => ⟨i, j, rfl, rfl, q⟩
theorem rx_gtS : RX2 K (fun x y H Q => ∃ i j, x = .str i ∧ y = .str j ∧ Q (.bl (decide (j.cps.toList < i.cps.toList))) H) (dS2 fGtS) := rx_str fun i j H Q q => ⟨i, j, rfl, rfl, q⟩
def fEq : V → V → Option V := fun x y => if scal x y = true then some (.bl (decide (x = y))) else none
def fNe : V → V → Option V := fun x y => if scal x y = true then some (.bl (!decide (x = y))) else none
theorem rx_eq : RX2 K rEq (dS2 fEq) := rx_s2 (fun x y H Q z h q => by
  unfold fEq at h
  split at h
  · rename_i hh
    obtain rfl := Option.some.inj h
    exact ⟨hh, q⟩
  · cases h) (fun x y z _ _ h => by
  unfold fEq at h
  split at h
  · obtain rfl := Option.some.inj h
    rfl
  · cases h)
theorem rx_ne : RX2 K rNe (dS2 fNe) := rx_s2 (fun x y H Q z h q => by
  unfold fNe at h
  split at h
  · rename_i hh
    obtain rfl := Option.some.inj h
    exact ⟨hh, q⟩
  · cases h) (fun x y z _ _ h => by
  unfold fNe at h
  split at h
  · obtain rfl := Option.some.inj h
    rfl
  · cases h)
/-- is None -/
def dIsN (neg : Bool) : DX := fun e => e.leaf.bind fun y => if y.1 = .non then (match y.2.tp with
  | .val (.leaf x) :: tp => some { y.2 with tp := .val (.leaf (.bl (if neg = true then !decide (x = .non) else decide (x = .non)))) :: tp }
  | .val (.node _ _) :: tp => some { y.2 with tp := .val (.leaf (.bl neg)) :: tp }
  | .ref j π :: tp => match look1 y.2.st j π with
    | some (.node _ _) => some { y.2 with tp := .val (.leaf (.bl neg)) :: tp }
    | _ => none
  | _ => none) else none
theorem rx_isN {neg : Bool} : RX2 K (fun x y H Q => y = .non ∧ Q (.bl (if neg = true then !decide (x = .non) else decide (x = .non))) H) (dIsN neg) := fun fs e σ τ x y H ts E e' h Q q => by
  obtain ⟨⟨y', e1⟩, h1, h⟩ := Option.bind_eq_some_iff.mp h
  obtain ⟨n1, E1, rfl, _⟩ := E.leaf h1
  obtain ⟨np, fz, st, sl, tp⟩ := e1
  have fin : ∀ {tp' : List Sl} {b : Bool}, EnvAt K fs ⟨np, fz, st, sl, tp'⟩ σ τ H ts → Goes K fs e.np H ts ⟨np, fz, st, sl, .val (.leaf (.bl b)) :: tp'⟩ σ (.bl b :: τ) H := fun {tp' b} E2 => ⟨n1, ts, E2.push (slat_leaf rfl), fun _ h => .inl h, Kp.refl _ _, Rv.refl _ _⟩
  have ref : ∀ {a : Addr}, (if neg = true then !decide (V.ref a = .non) else decide (V.ref a = .non)) = neg := fun {a} => by
    rw [show decide (V.ref a = .non) = false from decide_eq_false (by intro z; cases z)]
    cases neg <;> rfl
  split at h
  · rename_i hy
    refine ⟨hy, ?_⟩
    dsimp only at h
    split at h
    · rename_i x' tp'
      obtain ⟨E2, s2⟩ := E1.pop
      obtain ⟨rfl, _⟩ := leaf_slat s2
      obtain rfl := Option.some.inj h
      exact q _ H (fin E2)
    · rename_i k us tp'
      obtain ⟨E2, s2⟩ := E1.pop
      obtain ⟨a, cs, rfl, _⟩ := E2.node s2 (k := k) (us := us) rfl
      obtain rfl := Option.some.inj h
      rw [ref]
      exact q _ H (fin E2)
    · rename_i j π tp'
      split at h
      · rename_i k us hat
        obtain ⟨E2, s2⟩ := E1.pop
        obtain ⟨a, cs, rfl, _⟩ := E2.node s2 (k := k) (us := us) hat
        obtain rfl := Option.some.inj h
        rw [ref]
        exact q _ H (fin E2)
      · cases h
    · cases h
  · cases h
theorem rxn1 {r : List V → Hp → VK → Prop} (h : ∀ (fs : List T) (e : Env) (σ : L2.St) (τ : List V) (x : V) (H : Hp) (ts : List T), EnvAt K fs e σ (x :: τ) H ts → ∀ e', d e = some e' → ∀ Q : VK, (∀ v H', Goes K fs e.np H ts e' σ (v :: τ) H' → Q v H') → r [x] H Q) : RXn K 1 r d := fun fs e σ τ vs H ts hl E e' he Q q => by
  obtain ⟨v, rfl⟩ : ∃ v, vs = [v] := List.length_eq_one_iff.mp hl
  exact h fs e σ τ v H ts E e' he Q q
def okS : Kd → Bool
  | .lst => true
  | .fls => true
  | .tup => true
  | _ => false
theorem obj_sq {a : Addr} {k : Kd} {vs : List V} (h : IsObj K H a k vs) (hk : okS k = true) : SqL K H a vs ∨ SqT K H a vs := by
  cases k with
  | lst => exact .inl (.inl (.inl h))
  | tup => exact .inr h
  | fls =>
    rcases h with ⟨od, h⟩ | h
    · exact .inl (.inl (.inr ⟨od, h⟩))
    · exact .inl (.inr h)
  | dic ks => cases hk
  | fdi ks => cases hk
  | dit ks => cases hk
  | tul => cases hk
  | fdt ks => cases hk
  | ins C fs => cases hk
  | tab P => cases hk
def dLen : DX := fun e => e.top.bind fun p => (p.2.1.seq okS).map fun us => { p.2.2 with tp := .val (.leaf (.int us.length)) :: p.2.2.tp }
theorem rxn_len : RXn K 1 (fun xs H Q => ∃ p ys, xs = [.ref p] ∧ (SqL K H p ys ∨ SqT K H p ys) ∧ Q (.int ys.length) H) dLen := rxn1 fun fs e σ τ x H ts E e' h Q q => by
  obtain ⟨⟨s, u, e1⟩, h1, h⟩ := Option.bind_eq_some_iff.mp h
  obtain ⟨us, h2, rfl⟩ := Option.map_eq_some_iff.mp h
  obtain ⟨n1, E1, s1, l1⟩ := E.top h1
  obtain ⟨a, k, cs, rfl, hk, rfl, g2, _⟩ := E1.seq s1 l1 h2
  refine ⟨a, _, rfl, obj_sq g2 hk, ?_⟩
  rw [List.length_map, show cs.length = (T.erL cs).length by rw [erL_map, List.length_map]]
  exact q _ H ⟨n1, ts, E1.push (slat_leaf rfl), fun _ h => .inl h, Kp.refl _ _, Rv.refl _ _⟩
/-- a new list or tuple of things that can't change -/
theorem EnvAt.copy {p : Addr} {k : Kd} {cs : List T} (E : EnvAt K fs e σ τ H ts) (hi : U.immL (T.erL cs) = true) (hc : HoldsL K H cs) (np : H p = none) (s : Same H H') (ho : IsObj K H' p k (cs.map T.val)) : Goes K fs e.np H ts (if k.mut = true then e.new (.node k (T.erL cs)) else { e with tp := .val (.node k (T.erL cs)) :: e.tp }) σ (.ref p :: τ) H' := by
  have hf : T.footL cs = [] := immL_foot cs hi
  have kp : Kp (fun b => b ∈ T.footL ts) H H' := fun b o hb _ => s b o hb
  split
  · obtain ⟨E1, f1, r1⟩ := E.newF (k := k) (cs := cs) np s ho hc (by rw [hf]; exact E.nd) (fun b hb => by rw [hf] at hb; cases hb)
    refine ⟨rfl, _, E1, fun b hb => ?_, kp, r1⟩
    rcases f1 b hb with h | h
    · rw [hf] at h
      exact .inl h
    · exact .inr h
  · rename_i hm
    exact ⟨rfl, ts, (E.same s).push (slat_node ho (by simpa using hm) (holdsL_same s hc) hf), fun _ h => .inl h, kp, Rv.refl _ _⟩
def mk (e : Env) (k : Kd) (us : List U) : Env := if k.mut = true then e.new (.node k us) else { e with tp := .val (.node k us) :: e.tp }
def dList : DX := fun e => e.top.bind fun p => (p.2.1.seq okS).bind fun us => if U.immL us = true then some (mk p.2.2 .lst us) else none
theorem rxn_list : RXn K 1 (fun xs H Q => ∃ p ys, xs = [.ref p] ∧ (SqL K H p ys ∨ SqT K H p ys) ∧ ∀ l, H l = none → Q (.ref l) (upd H l (.lst ys))) dList := rxn1 fun fs e σ τ x H ts E e' h Q q => by
  obtain ⟨⟨s, u, e1⟩, h1, h⟩ := Option.bind_eq_some_iff.mp h
  obtain ⟨us, h2, h⟩ := Option.bind_eq_some_iff.mp h
  obtain ⟨n1, E1, s1, l1⟩ := E.top h1
  obtain ⟨a, k, cs, rfl, hk, rfl, g2, g3, _⟩ := E1.seq s1 l1 h2
  split at h
  · rename_i hi
    obtain rfl := Option.some.inj h
    refine ⟨a, _, rfl, obj_sq g2 hk, fun l nl => q _ _ ?_⟩
    have := E1.copy (k := .lst) hi g3 nl (same_new nl) (H' := upd H l (.lst (cs.map T.val))) upd_same
    rw [← n1]
    exact this
  · cases h
def dTuple : DX := fun e => e.top.bind fun p => (p.2.1.seq okL).bind fun us => if U.immL us = true then some (mk p.2.2 .tup us) else none
theorem rxn_s1 {r : List V → Hp → VK → Prop} {f : V → Option V} (hf : ∀ x H Q z, f x = some z → Q z H → r [x] H Q) (hs : ∀ x z, scalV x = true → f x = some z → scalV z = true) : RXn K 1 r (dS1 f) := rxn1 fun fs e σ τ x H ts E e' h Q q => rx_s1 (r := fun x H Q => r [x] H Q) hf hs fs e σ τ x H ts E e' h Q q
theorem rxn_s2 {r : List V → Hp → VK → Prop} {f : V → V → Option V} (hf : ∀ x y H Q z, f x y = some z → Q z H → r [x, y] H Q) (hs : ∀ x y z, scalV x = true → scalV y = true → f x y = some z → scalV z = true) : RXn K 2 r (dS2 f) := fun fs e σ τ vs H ts hl E e' h Q q => by
  obtain ⟨x, y, rfl⟩ : ∃ x y, vs = [x, y] := by
    match vs, hl with
    | [x, y], _ => exact ⟨x, y, rfl⟩
  exact rx_s2 (r := fun x y H Q => r [x, y] H Q) hf hs fs e σ τ x y H ts E e' h Q q
def fInt1 : V → Option V
  | .int i => some (.int i)
  | .bl k => some (.int (if k = true then 1 else 0))
  | _ => none
theorem rxn_int1 : RXn K 1 (fun xs H Q => (∃ i, xs = [.int i] ∧ Q (.int i) H) ∨ ∃ k, xs = [.bl k] ∧ Q (.int (if k then 1 else 0)) H) (dS1 fInt1) := rxn_s1 (fun x H Q z h q => by
  cases x with
  | int i => obtain rfl := Option.some.inj h; exact .inl ⟨i, rfl, q⟩
  | bl k => obtain rfl := Option.some.inj h; exact .inr ⟨k, rfl, q⟩
  | _ => cases h) (fun x z _ h => by cases x <;> cases h <;> rfl)
def fMax2 := fInt fun i j => .int (if j > i then j else i)
def fMin2 := fInt fun i j => .int (if j < i then j else i)
def fMaxS2 := fStr fun i j => .str (maxS i j)
theorem rxn_maxS2 : RXn K 2 (fun xs H Q => ∃ i j, xs = [.str i, .str j] ∧ Q (.str (maxS i j)) H) (dS2 fMaxS2) := rxn_s2 (fun x y H Q z h q => by
  cases x <;> cases y <;> cases h
  exact ⟨_, _, rfl, q⟩) (fun x y z _ _ h => by cases x <;> cases y <;> cases h <;> rfl)
end
end FB
namespace FB
open PySem PySem.Spec PyProof.Rows L2
section
variable {K : PySem.W.Frag} {H H' : Hp} {fs : List T} {ta tb te tc : TE} {d d1 d2 d3 : DX} {r : R2} {e : Env} {σ : L2.St} {τ : List V} {ts : List T}
def refs (j : Nat) : Sl → Bool
  | .ref i _ => i == j
  | _ => false
def down (j : Nat) : Sl → Sl
  | .ref i π => .ref (if j < i then i - 1 else i) π
  | s => s
def Env.gcAt (e : Env) (j : Nat) : Env := if (e.sl.any (refs j) || e.tp.any (refs j)) = true then e else { e with st := e.st.eraseIdx j, sl := e.sl.map (down j), tp := e.tp.map (down j) }
def Env.gcN : Nat → Env → Env
  | 0, e => e
  | k + 1, e => match e.st[e.np + k]? with
    | some u => if isNon u = true then e else gcN k (e.gcAt (e.np + k))
    | none => gcN k e
def Env.gc (e : Env) : Env := e.gcN (e.st.length - e.np)
def Env.clean (e : Env) (vs : List Nat) : Env := (e.wipe vs).gc
theorem slAt_down {j : Nat} {s : Sl} {v : Option V} (h : SlAt K fs H ts s v) (hr : refs j s = false) : SlAt K fs H (ts.eraseIdx j) (down j s) v := by
  cases s with
  | no => trivial
  | val u => exact h
  | fref i π => exact h
  | ref i π =>
    obtain ⟨tj, s, h1, h2, h3⟩ := h
    have hne : i ≠ j := fun z => by
      subst z
      simp [refs] at hr
    refine ⟨tj, s, ?_, h2, h3⟩
    rw [List.getElem?_eraseIdx]
    by_cases hl : j < i
    · rw [if_pos hl, if_neg (by omega), show i - 1 + 1 = i by omega]
      exact h1
    · rw [if_neg hl, if_pos (by omega)]
      exact h1
theorem erase_foot (j : Nat) : ∀ b, (T.footL (ts.eraseIdx j)).count b ≤ (T.footL ts).count b := by
  intro b
  rw [footL_map, footL_map]
  have key : ∀ {l1 l2 : List (List Addr)}, l1.Sublist l2 → l1.flatten.count b ≤ l2.flatten.count b := by
    intro l1 l2 h
    induction h with
    | slnil => exact Nat.le_refl _
    | cons a _ ih => rw [List.flatten_cons, List.count_append]; omega
    | cons_cons a _ ih => rw [List.flatten_cons, List.flatten_cons, List.count_append, List.count_append]; omega
  exact key (List.Sublist.map T.foot (List.eraseIdx_sublist ts j))
theorem erL_erase (j : Nat) : T.erL (ts.eraseIdx j) = (T.erL ts).eraseIdx j := by
  rw [erL_map, erL_map]
  induction ts generalizing j with
  | nil => rfl
  | cons t r ih =>
    cases j with
    | zero => rfl
    | succ j =>
      rw [List.eraseIdx_cons_succ, List.map_cons, List.map_cons, List.eraseIdx_cons_succ, ih]
theorem EnvAt.gcAt {j : Nat} (E : EnvAt K fs e σ τ H ts) : (e.gcAt j).np = e.np ∧ ∃ ts', EnvAt K fs (e.gcAt j) σ τ H ts' ∧ (∀ b ∈ T.footL ts', b ∈ T.footL ts) ∧ (e.np ≤ j → Rv e.np ts ts') := by
  unfold Env.gcAt
  split
  · exact ⟨rfl, ts, E, fun _ h => h, fun _ => Rv.refl _ _⟩
  · rename_i hn
    have hn' : e.sl.any (refs j) = false ∧ e.tp.any (refs j) = false := by
      cases h1 : e.sl.any (refs j) <;> cases h2 : e.tp.any (refs j) <;> simp_all
    have sub : ∀ b ∈ T.footL (ts.eraseIdx j), b ∈ T.footL ts := fun b hb => List.count_pos_iff.mp (Nat.lt_of_lt_of_le (List.count_pos_iff.mpr hb) (erase_foot j b))
    have go : ∀ (l : List Sl), l.any (refs j) = false → ∀ (i : Nat) (s : Sl), (l.map (down j))[i]? = some s → ∃ s0, l[i]? = some s0 ∧ s = down j s0 ∧ refs j s0 = false := fun l hl i s hs => by
      rw [List.getElem?_map] at hs
      obtain ⟨s0, h0, h1⟩ := Option.map_eq_some_iff.mp hs
      refine ⟨s0, h0, h1.symm, ?_⟩
      have := List.any_eq_false.mp hl s0 (List.mem_of_getElem? h0)
      simpa using this
    refine ⟨rfl, ts.eraseIdx j, ⟨?_, ?_, ?_, E.fe, E.fh, fun b hb hm => E.fd b hb (sub b hm), ?_, ?_, ?_, ?_⟩, sub, fun hj i t hi ht => ?_⟩
    · rw [erL_erase, E.er]
    · rw [holdsL_iff]
      exact fun t ht => (holdsL_iff ts).mp E.ho t ((List.eraseIdx_sublist ts j).mem ht)
    · rw [nodup_count]
      exact fun b => Nat.le_trans (erase_foot j b) (nodup_count.mp E.nd b)
    · rw [E.lσ, List.length_map]
    · rw [E.lτ, List.length_map]
    · intro i s hs
      obtain ⟨s0, h0, rfl, hr⟩ := go _ hn'.1 i s hs
      obtain ⟨v, h1, h2⟩ := E.sl i s0 h0
      exact ⟨v, h1, slAt_down h2 hr⟩
    · intro i s hs
      obtain ⟨s0, h0, rfl, hr⟩ := go _ hn'.2 i s hs
      obtain ⟨v, h1, h2⟩ := E.tp i s0 h0
      exact ⟨v, h1, slAt_down h2 hr⟩
    · refine ⟨t, ?_, rfl⟩
      rw [List.getElem?_eraseIdx, if_pos (by omega)]
      exact ht
theorem EnvAt.gcN : ∀ (k : Nat) {e : Env} {ts : List T}, EnvAt K fs e σ τ H ts → (e.gcN k).np = e.np ∧ ∃ ts', EnvAt K fs (e.gcN k) σ τ H ts' ∧ (∀ b ∈ T.footL ts', b ∈ T.footL ts) ∧ Rv e.np ts ts'
  | 0, e, ts, E => ⟨rfl, ts, E, fun _ h => h, Rv.refl _ _⟩
  | k + 1, e, ts, E => by
    rw [Env.gcN]
    split
    · split
      · exact ⟨rfl, ts, E, fun _ h => h, Rv.refl _ _⟩
      · obtain ⟨n1, ts1, E1, f1, r1⟩ := E.gcAt (j := e.np + k)
        obtain ⟨n2, ts2, E2, f2, r2⟩ := EnvAt.gcN k E1
        rw [n1] at n2 r2
        exact ⟨n2, ts2, E2, fun b hb => f1 b (f2 b hb), (r1 (by omega)).trans r2⟩
    · exact EnvAt.gcN k E
theorem EnvAt.forget (E : EnvAt K fs e σ τ H ts) : ∀ vs : List Nat, EnvAt K fs (e.wipe vs) σ τ H ts := fun vs =>
  ⟨E.er, E.ho, E.nd, E.fe, E.fh, E.fd, by rw [E.lσ]; exact (wipeSl_len e.sl vs).symm, E.lτ, fun i s hs => by
    have hs : (wipeSl e.sl vs)[i]? = some s := hs
    by_cases hi : i ∈ vs
    · have hl : i < e.sl.length := by
        have := (List.getElem?_eq_some_iff.mp hs).1
        rwa [wipeSl_len] at this
      rw [wipeSl_in e.sl hi hl] at hs
      obtain rfl := Option.some.inj hs
      have hl' : i < σ.length := by rw [E.lσ]; exact hl
      exact ⟨_, List.getElem?_eq_getElem hl', trivial⟩
    · rw [wipeSl_out e.sl hi] at hs
      exact E.sl i s hs, E.tp⟩
theorem Goes.clean {np : Nat} {e1 : Env} {σ' : L2.St} {τ' : List V} (G : Goes K fs np H ts e1 σ' τ' H') (vs : List Nat) : Goes K fs np H ts (e1.clean vs) σ' τ' H' := by
  obtain ⟨n1, ts1, E1, f1, k1, r1⟩ := G
  have E1 := E1.forget vs
  obtain ⟨n2, ts2, E2, f2, r2⟩ := EnvAt.gcN ((e1.wipe vs).st.length - (e1.wipe vs).np) E1
  refine ⟨n2.trans n1, ts2, E2, fun b hb => f1 b (f2 b hb), k1, r1.trans ?_⟩
  have : (e1.wipe vs).np = np := n1
  rw [this] at r2
  exact r2
def Out.clean (vs : List Nat) : Out → Out
  | .nx e => .nx (e.clean vs)
  | .ct e => .ct (e.clean vs)
  | .bk e => .bk (e.clean vs)
  | .rt e => .rt e
def sClean (vs : List Nat) (a : DS) : DS := fun e => (a e).map (Out.clean vs)
theorem sx_clean {s : TS} {a : DS} (vs : List Nat) (h : SX K s a) : SX K s (sClean vs a) := fun fs e σ τ H ts E o ho D k => by
  obtain ⟨o1, h1, rfl⟩ := Option.map_eq_some_iff.mp ho
  refine h fs e σ τ H ts E o1 h1 D ?_
  cases o1 with
  | nx e1 => exact fun σ' H' G => k σ' H' (G.clean vs)
  | ct e1 => exact fun σ' H' G => k σ' H' (G.clean vs)
  | bk e1 => exact fun σ' H' G => k σ' H' (G.clean vs)
  | rt e1 => exact k
end
end FB
namespace FB
open PySem PySem.Spec PyProof.Rows L2
section
variable {K : PySem.W.Frag} {H H' : Hp} {fs : List T} {ta tb te tc : TE} {d d1 d2 d3 : DX} {r : R2} {e : Env} {σ : L2.St} {τ : List V} {ts : List T}
def ok0 : Kd → Bool
  | .lst => true
  | _ => false
theorem ok0_is {k : Kd} (h : ok0 k = true) : k = .lst := by cases k <;> first | rfl | cases h
theorem holdsL_append {a b : List T} (h1 : HoldsL K H a) (h2 : HoldsL K H b) : HoldsL K H (a ++ b) := by
  rw [holdsL_iff] at *
  intro t ht
  rcases List.mem_append.mp ht with h | h
  · exact h1 t h
  · exact h2 t h
theorem immL_append : ∀ (a b : List U), U.immL (a ++ b) = (U.immL a && U.immL b)
  | [], b => by rw [List.nil_append, U.immL, Bool.true_and]
  | x :: a, b => by rw [List.cons_append, U.immL, U.immL, immL_append a b, Bool.and_assoc]
def dCat : DX := fun e => e.top.bind fun p => p.2.2.top.bind fun q => (q.2.1.seq ok0).bind fun us => (p.2.1.seq ok0).bind fun ws => if U.immL us = true ∧ U.immL ws = true ∧ us.length + ws.length < 100000 then some (q.2.2.new (.node .lst (us ++ ws))) else none
theorem rx_cat : RX2 K rCat dCat := fun fs e σ τ x y H ts E e' h Q q => by
  obtain ⟨⟨s, u, e1⟩, h1, h⟩ := Option.bind_eq_some_iff.mp h
  obtain ⟨⟨s', u', e2⟩, h2, h⟩ := Option.bind_eq_some_iff.mp h
  obtain ⟨us, h3, h⟩ := Option.bind_eq_some_iff.mp h
  obtain ⟨ws, h4, h⟩ := Option.bind_eq_some_iff.mp h
  obtain ⟨n1, E1, s1, l1⟩ := E.top h1
  obtain ⟨n2, E2, s2, l2⟩ := E1.top h2
  obtain ⟨b, k', cs', rfl, hk', rfl, g2', g3', _⟩ := E1.seq s1 l1 h4
  obtain ⟨a, k, cs, rfl, hk, rfl, g2, g3, _⟩ := E2.seq s2 l2 h3
  obtain rfl := ok0_is hk
  obtain rfl := ok0_is hk'
  split at h
  · rename_i hi
    obtain rfl := Option.some.inj h
    have hlen : (cs.map T.val).length + (cs'.map T.val).length < 100000 := by
      have := hi.2.2
      rw [erL_map, erL_map, List.length_map, List.length_map] at this
      rw [List.length_map, List.length_map]
      exact this
    refine ⟨a, b, _, _, rfl, rfl, g2, g2', Nat.le_of_lt (Nat.lt_of_lt_of_le hlen (by decide)), fun l nl => q _ _ ?_⟩
    have := E2.copy (k := .lst) (cs := cs ++ cs') (by rw [erL_append, immL_append, hi.1, hi.2.1]; rfl) (holdsL_append g3 g3') nl (same_new nl) (H' := upd H l (.lst (cs.map T.val ++ cs'.map T.val))) (by rw [List.map_append]; exact upd_same)
    rw [erL_append] at this
    rw [← n1, ← n2]
    exact this
  · cases h
def dCatT : DX := fun e => e.top.bind fun p => p.2.2.top.bind fun q => (q.2.1.seq okT).bind fun us => (p.2.1.seq okT).bind fun ws => if U.immL us = true ∧ U.immL ws = true ∧ us ≠ [] ∧ us.length + ws.length < 100000 then some { q.2.2 with tp := .val (.node .tup (us ++ ws)) :: q.2.2.tp } else none
def dRep : DX := fun e => e.leaf.bind fun y => y.2.top.bind fun p => (asInt y.1).bind fun k => (p.2.1.seq ok0).bind fun us => if U.immL us = true ∧ k < 1000 ∧ -1000 < k ∧ us.length < 1000 then some (p.2.2.new (.node .lst (List.replicate k.toNat us).flatten)) else none
theorem rep_map {α β : Type} (f : α → β) (n : Nat) (l : List α) : (List.replicate n l).flatten.map f = (List.replicate n (l.map f)).flatten := by
  induction n with
  | zero => rfl
  | succ n ih => rw [List.replicate_succ, List.flatten_cons, List.map_append, ih, List.replicate_succ, List.flatten_cons]
theorem rep_imm (n : Nat) {l : List U} (h : U.immL l = true) : U.immL (List.replicate n l).flatten = true := by
  induction n with
  | zero => rw [List.replicate_zero, List.flatten_nil, U.immL]
  | succ n ih => rw [List.replicate_succ, List.flatten_cons, immL_append, h, ih]; rfl
theorem rx_rep : RX2 K rRep dRep := fun fs e σ τ x y H ts E e' h Q q => by
  obtain ⟨⟨y', e1⟩, h1, h⟩ := Option.bind_eq_some_iff.mp h
  obtain ⟨⟨s, u, e2⟩, h2, h⟩ := Option.bind_eq_some_iff.mp h
  obtain ⟨k, h3, h⟩ := Option.bind_eq_some_iff.mp h
  obtain ⟨us, h4, h9⟩ := Option.bind_eq_some_iff.mp h
  obtain ⟨n1, E1, rfl, _⟩ := E.leaf h1
  obtain ⟨n2, E2, s2, l2⟩ := E1.top h2
  obtain ⟨a, kd, cs, rfl, hk, rfl, g2, g3, _⟩ := E2.seq s2 l2 h4
  obtain rfl := ok0_is hk
  obtain rfl := asInt_is h3
  split at h9
  · rename_i hi
    obtain rfl := Option.some.inj h9
    have hl : (cs.map T.val).length * k.toNat ≤ sizeLine := by
      have h0 : (cs.map T.val).length ≤ 1000 := by
        have := hi.2.2.2
        rw [erL_map, List.length_map] at this
        rw [List.length_map]
        omega
      have h5 : k.toNat ≤ 1000 := by omega
      exact Nat.le_trans (Nat.mul_le_mul h0 h5) (by decide)
    refine ⟨a, k, _, rfl, rfl, g2, by omega, by omega, hl, fun l nl => q _ _ ?_⟩
    have e0 : T.erL (List.replicate k.toNat cs).flatten = (List.replicate k.toNat (T.erL cs)).flatten := by
      rw [erL_map, rep_map, ← erL_map]
    have := E2.copy (k := .lst) (cs := (List.replicate k.toNat cs).flatten) (by rw [e0]; exact rep_imm _ hi.1) (by
      rw [holdsL_iff]
      intro t ht
      obtain ⟨l0, hl0, ht⟩ := List.mem_flatten.mp ht
      rw [(List.mem_replicate.mp hl0).2] at ht
      exact (holdsL_iff cs).mp g3 t ht) nl (same_new nl) (H' := upd H l (.lst (List.replicate k.toNat (cs.map T.val)).flatten)) (by rw [rep_map]; exact upd_same)
    rw [e0] at this
    rw [← n1, ← n2]
    exact this
  · cases h9
def fCatS : V → V → Option V
  | .str i, .str j => if i.length + j.length < 100000 then some (.str (i ++ j)) else none
  | _, _ => none
theorem rx_catS : RX2 K (fun x y H Q => ∃ i j, x = .str i ∧ y = .str j ∧ i.length + j.length ≤ sizeLine ∧ Q (.str (i ++ j)) H) (dS2 fCatS) := rx_s2 (fun x y H Q z h q => by
  unfold fCatS at h
  split at h
  · split at h
    · rename_i hh
      obtain rfl := Option.some.inj h
      exact ⟨_, _, rfl, rfl, Nat.le_of_lt (Nat.lt_of_lt_of_le hh (by decide)), q⟩
    · cases h
  · cases h) (fun x y z _ _ h => by
  unfold fCatS at h
  split at h
  · split at h
    · obtain rfl := Option.some.inj h
      rfl
    · cases h
  · cases h)
def fIxS : V → V → Option V
  | .str z, .int i => if z.length < 100000 then (atI z.cps.toList i).map fun c => .str ⟨#[c]⟩ else none
  | _, _ => none
theorem rx_ixS : RX2 K rIxS (dS2 fIxS) := rx_s2 (fun x y H Q z h q => by
  unfold fIxS at h
  split at h
  · split at h
    · rename_i hh
      obtain ⟨c, h1, rfl⟩ := Option.map_eq_some_iff.mp h
      exact ⟨_, _, c, rfl, rfl, Nat.le_of_lt (Nat.lt_of_lt_of_le hh (by decide)), h1, q⟩
    · cases h
  · cases h) (fun x y z _ _ h => by
  unfold fIxS at h
  split at h
  · split at h
    · obtain ⟨c, h1, rfl⟩ := Option.map_eq_some_iff.mp h
      rfl
    · cases h
  · cases h)
def fPow := fIntC (fun i j => decide (0 ≤ j ∧ j ≤ 1000000 ∧ i.natAbs < 2 ^ 64)) fun i j => .int (i ^ j.toNat)
def fAbs : V → Option V
  | .int i => some (.int (if i < 0 then -i else i))
  | _ => none
def fLenS : V → Option V
  | .str z => if z.length < 100000 then some (.int z.length) else none
  | _ => none
def dChkD : DX := fun e => e.top.bind fun p => p.2.1.dic.map fun _ => e
def dGet2 : DX := fun e => match e.tp with
  | sz :: tp => (Env.leaf { e with tp := tp }).bind fun y => y.2.top.bind fun p => (keyOf y.1).bind fun k => p.2.1.dic.bind fun c => match ixOf k c.1 with
    | none => some { p.2.2 with tp := sz :: p.2.2.tp }
    | some n => (c.2[n]?).map fun u => { p.2.2 with tp := kidS p.1 n u :: p.2.2.tp }
  | [] => none
mutual
def U.dat : U → Option PyData
  | .leaf .non => some .none
  | .leaf (.bl b) => some (.bool b)
  | .leaf (.int i) => some (.int i)
  | .leaf (.str x) => some (.str x)
  | .leaf _ => none
  | .node .tup us => (U.datL us).map .tuple
  | .node .lst us => (U.datL us).map .list
  | .node .fls us => (U.datL us).map .list
  | .node _ _ => none
def U.datL : List U → Option (List PyData)
  | [] => some []
  | u :: r => (U.dat u).bind fun x => (U.datL r).map (x :: ·)
end
mutual
theorem dat_dp : ∀ (t : T) (x : PyData), Holds K H t → t.er.dat = some x → Dp K H t.val x
  | .leaf v, x, h, hd => by
    rw [T.er] at hd
    cases v <;> rw [U.dat] at hd <;> first | (cases hd; done) | skip
    all_goals first | (obtain rfl := Option.some.inj hd; first | exact .non | exact .bl _ | exact .int _ | exact .str _) | cases hd
  | .node a k cs, x, h, hd => by
    rw [T.er] at hd
    rw [Holds] at h
    cases k with
    | tup =>
      rw [U.dat] at hd
      obtain ⟨xs, h1, rfl⟩ := Option.map_eq_some_iff.mp hd
      exact .tup h.1 (datL_dp cs xs h.2 h1)
    | lst =>
      rw [U.dat] at hd
      obtain ⟨xs, h1, rfl⟩ := Option.map_eq_some_iff.mp hd
      exact .lst (.inl (.inl h.1)) (datL_dp cs xs h.2 h1)
    | fls =>
      rw [U.dat] at hd
      obtain ⟨xs, h1, rfl⟩ := Option.map_eq_some_iff.mp hd
      refine .lst ?_ (datL_dp cs xs h.2 h1)
      rcases h.1 with ⟨od, h⟩ | h
      · exact .inl (.inr ⟨od, h⟩)
      · exact .inr h
    | dic ks => simp [U.dat] at hd
    | fdi ks => simp [U.dat] at hd
    | dit ks => simp [U.dat] at hd
    | tul => simp [U.dat] at hd
    | fdt ks => simp [U.dat] at hd
    | ins C gs => simp [U.dat] at hd
    | tab P => simp [U.dat] at hd
theorem datL_dp : ∀ (cs : List T) (xs : List PyData), HoldsL K H cs → U.datL (T.erL cs) = some xs → DpAll K H (cs.map T.val) xs
  | [], xs, h, hd => by
    rw [T.erL, U.datL] at hd
    obtain rfl := Option.some.inj hd
    exact .nil
  | t :: r, xs, h, hd => by
    rw [T.erL, U.datL] at hd
    rw [HoldsL] at h
    obtain ⟨x, h1, hd⟩ := Option.bind_eq_some_iff.mp hd
    obtain ⟨ys, h2, rfl⟩ := Option.map_eq_some_iff.mp hd
    exact .cons (dat_dp t x h.1 h1) (datL_dp r ys h.2 h2)
end
def dEqD (neg : Bool) : DX := fun e => e.top.bind fun p => p.2.2.top.bind fun q => q.2.1.dat.bind fun x => p.2.1.dat.bind fun y => if SeqAt.shaped x = true ∧ SeqAt.shaped y = true then some { q.2.2 with tp := .val (.leaf (.bl (if neg = true then !PyData.eqv x y else PyData.eqv x y))) :: q.2.2.tp } else none
theorem EnvAt.tree {s : Sl} {v : V} {u : U} (E : EnvAt K fs e σ τ H ts) (hs : SlAt K fs H ts s (some v)) (hl : e.look s = some u) : ∃ t : T, t.val = v ∧ t.er = u ∧ Holds K H t := by
  cases s with
  | no => cases hl
  | val u' =>
    have hl : some u' = some u := hl
    obtain rfl := Option.some.inj hl
    obtain ⟨t, h1, h2, h3, _⟩ := hs
    exact ⟨t, (Option.some.inj h1).symm, h2, h3⟩
  | ref j π =>
    obtain ⟨tj, s, a1, a2, rfl, a4⟩ := E.get (e := e) hl
    obtain ⟨tj', s', b1, b2, b3⟩ := hs
    rw [a1] at b1
    obtain rfl := Option.some.inj b1
    rw [a2] at b2
    obtain rfl := Option.some.inj b2
    exact ⟨s, (Option.some.inj b3).symm, rfl, a4⟩
  | fref j π =>
    obtain ⟨tj', s', b1, b2, b3⟩ := hs
    have hl : look1 e.fz j π = some u := hl
    unfold look1 at hl
    rw [← E.fe, erL_map, List.getElem?_map, b1] at hl
    have hl : U.get π tj'.er = some u := hl
    obtain ⟨w, hw, rfl⟩ := er_get hl
    rw [b2] at hw
    obtain rfl := Option.some.inj hw
    exact ⟨s', (Option.some.inj b3).symm, rfl, get_holds b2 ((holdsL_iff fs).mp E.fh tj' (List.mem_of_getElem? b1))⟩
theorem rx_eqDN {neg : Bool} : RX2 K (fun x y H Q => ∃ d e, Dp K H x d ∧ Dp K H y e ∧ SeqAt.shaped d = true ∧ SeqAt.shaped e = true ∧ Q (.bl (if neg = true then !PyData.eqv d e else PyData.eqv d e)) H) (dEqD neg) := fun fs e σ τ x y H ts E e' h Q q => by
  obtain ⟨⟨s, u, e1⟩, h1, h⟩ := Option.bind_eq_some_iff.mp h
  obtain ⟨⟨s', u', e2⟩, h2, h⟩ := Option.bind_eq_some_iff.mp h
  obtain ⟨dx, h3, h⟩ := Option.bind_eq_some_iff.mp h
  obtain ⟨dy, h4, h9⟩ := Option.bind_eq_some_iff.mp h
  obtain ⟨n1, E1, s1, l1⟩ := E.top h1
  obtain ⟨n2, E2, s2, l2⟩ := E1.top h2
  obtain ⟨ty, rfl, rfl, g1⟩ := E1.tree s1 l1
  obtain ⟨tx, rfl, rfl, g2⟩ := E2.tree s2 l2
  split at h9
  · rename_i hs
    obtain rfl := Option.some.inj h9
    exact ⟨dx, dy, dat_dp tx dx g2 h3, dat_dp ty dy g1 h4, hs.1, hs.2, q _ H ⟨n2.trans n1, ts, E2.push (slat_leaf rfl), fun _ h => .inl h, Kp.refl _ _, Rv.refl _ _⟩⟩
  · cases h9
theorem rx_eqD : RX2 K (rEqD K) (dEqD false) := rx_eqDN (neg := false)
theorem rx_neD : RX2 K (rNeD K) (dEqD true) := rx_eqDN (neg := true)
end
end FB
namespace FB
open PySem PySem.Spec PyProof.Rows L2
section
variable {K : PySem.W.Frag} {H H' : Hp} {fs : List T} {ta tb te tc : TE} {d d1 d2 d3 : DX} {r : R2} {e : Env} {σ : L2.St} {τ : List V} {ts : List T}
def flatP (ps : List (V × V)) : List V := ps.flatMap fun p => [p.1, p.2]
def PXs (K : PySem.W.Frag) (n : Nat) (trs : List (TE × TE)) (d : DX) : Prop := ∀ (fs : List T) (e : Env) (σ : L2.St) (τ : List V) (H : Hp) (ts : List T), EnvAt K fs e σ τ H ts → ∀ e', d e = some e' → ∀ Q : List (V × V) → Hp → Prop, (∀ ps H', ps.length = n → Goes K fs e.np H ts e' σ ((flatP ps).reverse ++ τ) H' → Q ps H') → tPairs trs σ H Q
theorem px_nil : PXs K 0 [] some := fun fs e σ τ H ts E e' h Q q => by
  obtain rfl := Option.some.inj h
  exact q [] H rfl (Goes.refl E)
theorem px_cons {n : Nat} {trs : List (TE × TE)} (hk : EX K ta d1) (hv : EX K tb d2) (hr : PXs K n trs d3) : PXs K (n + 1) ((ta, tb) :: trs) (dseq d1 (dseq d2 d3)) := fun fs e σ τ H ts E e' h Q q => by
  obtain ⟨e1, h1, h⟩ := dseq_some h
  obtain ⟨e2, h2, h3⟩ := dseq_some h
  refine hk fs e σ τ H ts E e1 h1 _ fun x H1 g1 => ?_
  obtain ⟨n1, ts1, E1, f1, k1, r1⟩ := g1
  refine hv fs e1 σ _ H1 ts1 E1 e2 h2 _ fun y H2 g2 => ?_
  obtain ⟨n2, ts2, E2, f2, k2, r2⟩ := g2
  refine hr fs e2 σ _ H2 ts2 E2 e' h3 _ fun ps H3 hl g3 => ?_
  refine q _ H3 (by rw [List.length_cons, hl]) (Goes.to n1 f1 k1 r1 (Goes.to n2 f2 k2 r2 ?_))
  have : (flatP ((x, y) :: ps)).reverse ++ τ = (flatP ps).reverse ++ y :: x :: τ := by
    simp [flatP]
  rw [this]
  exact g3
def takeP : Nat → Env → Option (List (Key × U) × Env)
  | 0, e => some ([], e)
  | n + 1, e => (takeTop e).bind fun p => p.2.leaf.bind fun y => (keyOf y.1).bind fun k => (takeP n y.2).map fun q => (q.1 ++ [(k, p.1)], q.2)
theorem EnvAt.takeP : ∀ {n : Nat} {e e1 : Env} {kus : List (Key × U)} {ps : List (V × V)} {τ : List V} {ts : List T}, EnvAt K fs e σ ((flatP ps).reverse ++ τ) H ts → ps.length = n → FB.takeP n e = some (kus, e1) →
    e1.np = e.np ∧ ∃ ts1 cs, EnvAt K fs e1 σ τ H ts1 ∧ cs.map T.val = ps.map (·.2) ∧ T.erL cs = kus.map (·.2) ∧ ps.map (·.1) = kus.map (fun z => kV z.1) ∧ HoldsL K H cs ∧ (T.footL cs ++ T.footL ts1).Nodup ∧ (∀ b ∈ T.footL cs ++ T.footL ts1, b ∈ T.footL ts) ∧ Rv e.np ts ts1
  | 0, e, e1, us, ps, τ, ts, E, hl, h => by
    obtain ⟨rfl, rfl⟩ := Prod.mk.inj (Option.some.inj h)
    obtain rfl := List.length_eq_zero_iff.mp hl
    exact ⟨rfl, ts, [], E, rfl, by rw [T.erL]; rfl, rfl, trivial, by rw [T.footL]; exact E.nd, fun b hb => by rw [T.footL] at hb; exact hb, Rv.refl _ _⟩
  | n + 1, e, e1, kus, ps, τ, ts, E, hl, h => by
    obtain ⟨⟨u, e0⟩, h0, hh⟩ := Option.bind_eq_some_iff.mp h
    obtain ⟨⟨y, e3⟩, h3, hh⟩ := Option.bind_eq_some_iff.mp hh
    obtain ⟨k, h4, hh⟩ := Option.bind_eq_some_iff.mp hh
    obtain ⟨⟨us', e2⟩, h1, h2⟩ := Option.map_eq_some_iff.mp hh
    obtain ⟨rfl, rfl⟩ := Prod.mk.inj h2
    obtain ⟨ps', ⟨v1, v2⟩, rfl⟩ : ∃ ps' v, ps = ps' ++ [v] := ⟨ps.dropLast, ps.getLast (by intro z; rw [z] at hl; cases hl), (List.dropLast_concat_getLast _).symm⟩
    have ef0 : (flatP (ps' ++ [(v1, v2)])).reverse ++ τ = v2 :: v1 :: ((flatP ps').reverse ++ τ) := by simp [flatP]
    rw [ef0] at E
    obtain ⟨n1, ts1, c, E1, c1, c2, c3, c4, c5, c6⟩ := EnvAt.take1 E h0
    obtain ⟨n3, E3, rfl, _⟩ := E1.leaf h3
    obtain rfl := keyOf_is h4
    obtain ⟨n2, ts2, cs, E2, d1, d2, d0, d3, d4, d5, d6⟩ := EnvAt.takeP (n := n) E3 (by simpa using hl) h1
    have q1 := nodup_count.mp c4
    have q2 := nodup_count.mp d4
    have ef : T.footL (cs ++ [c]) = T.footL cs ++ c.foot := by
      rw [footL_map, List.map_append, List.flatten_append, ← footL_map]
      simp
    refine ⟨n2.trans (n3.trans n1), ts2, cs ++ [c], E2, by rw [List.map_append, List.map_append, d1, ← c1]; rfl, ?_, by rw [List.map_append, List.map_append, d0]; rfl, ?_, ?_, ?_, c6.trans (by rw [n3, n1] at d6; exact d6)⟩
    · rw [erL_map, List.map_append, ← erL_map, d2, List.map_append, ← c2]
      rfl
    · rw [holdsL_iff]
      intro t ht
      rcases List.mem_append.mp ht with ht | ht
      · exact (holdsL_iff cs).mp d3 t ht
      · rw [show t = c by simpa using ht]
        exact c3
    · rw [nodup_count, ef]
      intro a
      have h1 := q1 a
      have h2 := q2 a
      simp only [List.count_append] at h1 h2 ⊢
      by_cases ha : a ∈ c.foot
      · have h3 : (T.footL ts1).count a = 0 := by
          have := List.count_pos_iff.mpr ha
          omega
        have h4 : a ∉ T.footL ts1 := fun z => by
          have := List.count_pos_iff.mpr z
          omega
        have h5 : (T.footL cs).count a = 0 := List.count_eq_zero_of_not_mem fun z => h4 (d5 a (List.mem_append_left _ z))
        have h6 : (T.footL ts2).count a = 0 := List.count_eq_zero_of_not_mem fun z => h4 (d5 a (List.mem_append_right _ z))
        omega
      · have h3 : c.foot.count a = 0 := List.count_eq_zero_of_not_mem ha
        omega
    · intro b hb
      rw [ef] at hb
      rcases List.mem_append.mp hb with hb | hb
      · rcases List.mem_append.mp hb with hb | hb
        · exact c5 b (List.mem_append_right _ (d5 b (List.mem_append_left _ hb)))
        · exact c5 b (List.mem_append_left _ hb)
      · exact c5 b (List.mem_append_right _ (d5 b (List.mem_append_right _ hb)))
theorem merge_new : ∀ (kvs acc : List (Key × V)), ((acc ++ kvs).map (·.1)).Nodup → mergeK acc kvs = acc ++ kvs
  | [], acc, _ => by rw [List.append_nil]; rfl
  | kv :: r, acc, h => by
    have e0 : putK acc kv.1 kv.2 = acc ++ [kv] := by
      unfold putK
      rw [if_neg]
      intro z
      obtain ⟨p, hp, hk⟩ := List.any_eq_true.mp z
      rw [List.map_append, List.nodup_append] at h
      exact h.2.2 p.1 (List.mem_map.mpr ⟨p, hp, rfl⟩) kv.1 (by simp) (of_decide_eq_true hk)
    show mergeK (putK acc kv.1 kv.2) r = _
    rw [e0, merge_new r (acc ++ [kv]) (by simpa using h)]
    simp
def dDisp (n : Nat) (d : DX) : DX := fun e => (d (e.new (.node (.dic []) []))).bind fun e1 => (takeP n e1).bind fun p => match p.2.tp with
  | .ref j [] :: tp => match look1 p.2.st j [] with
    | some (.node (.dic []) us) => if (p.1.map (·.1)).Nodup then some { p.2 with st := setU p.2.st j [] (.node (.dic (p.1.map (·.1))) (p.1.map (·.2))), sl := p.2.sl, tp := .ref j [] :: tp } else none
    | _ => none
  | _ => none
theorem zip_fst_snd {α β : Type} : ∀ l : List (α × β), (l.map (·.1)).zip (l.map (·.2)) = l
  | [] => rfl
  | p :: r => by rw [List.map_cons, List.map_cons, List.zip_cons_cons, zip_fst_snd r]
theorem zip_keys {β : Type} : ∀ (kus : List (Key × β)) (vs : List V), (kus.map (fun z => kV z.1)).zip vs = ((kus.map (·.1)).zip vs).map fun kv => (kV kv.1, kv.2)
  | [], vs => rfl
  | p :: r, [] => rfl
  | p :: r, v :: vs => congrArg ((kV p.1, v) :: ·) (zip_keys r vs)
theorem ex_disp {n : Nat} {trs : List (TE × TE)} (h0 : PXs K n trs d) (hn : n ≤ 15 := by decide) : EX K (tDisp trs) (dDisp n d) := fun fs e σ τ H ts E e' h Q q => by
  obtain ⟨e1, h1, h⟩ := Option.bind_eq_some_iff.mp h
  obtain ⟨⟨kus, e2⟩, h2, h⟩ := Option.bind_eq_some_iff.mp h
  intro p np
  have g0 : Goes K fs e.np H ts (e.new (.node (.dic []) [])) σ (.ref p :: τ) (upd H p (.dK [])) := by
    have := EnvAt.mkNode (vs := []) (k := .dic []) (n := 0) (e' := e.new (.node (.dic []) [])) (p := p) (H' := upd H p (.dK [])) E rfl rfl np (same_new np) fun cs hc => ⟨⟨List.nodup_nil, by rw [hc]; rfl⟩, by rw [hc]; exact upd_same⟩
    exact this
  obtain ⟨m0, ts0, E0, f0, k0, r0⟩ := g0
  refine h0 fs _ σ _ _ ts0 E0 e1 h1 _ fun ps H2 hl g2 => ?_
  obtain ⟨n2, ts2, E2, f2, k2, r2⟩ := g2
  obtain ⟨n3, ts3, cs, E3, c1, c2, c0, c3, c4, c5, c6⟩ := EnvAt.takeP E2 hl h2
  obtain ⟨np', fz, st, sl, tp⟩ := e2
  dsimp only at h
  split at h
  · rename_i j tp'
    split at h
    · rename_i us hat
      split at h
      · rename_i hnd
        obtain rfl := Option.some.inj h
        have ED : EnvAt K fs ⟨np', fz, st, sl, .ref j [] :: .ref j [] :: tp'⟩ σ (.ref p :: .ref p :: τ) H2 ts3 := E3.push E3.pop.2
        obtain ⟨a, cs0, ea, e1, ⟨⟨nd, hl0⟩, ho⟩, kk⟩ := ED.modTop (k' := .dic (kus.map (·.1))) (xs := cs) (f := fun _ => true) hat rfl rfl c3 c4 (fun b hb hf => E2.fd b hf (c5 b (List.mem_append_left _ hb))) (fun cs0 => if cs0 = [] then cs else cs0) (fun cs0 x hx => by
          split at hx
          · exact .inr hx
          · exact .inl hx) (fun cs0 b => by
          split
          · omega
          · omega) (fun cs0 n x _ hx => by
          split
          · rename_i z
            rw [z] at hx
            cases hx
          · exact hx)
        cases ea
        have hcs0 : cs0 = [] := by
          have : ([] : List Key).length = (cs0.map T.val).length := hl0
          rw [List.length_map] at this
          exact List.length_eq_zero_iff.mp this.symm
        subst hcs0
        have hkvs : ps = ((kus.map (·.1)).zip (cs.map T.val)).map (fun kv => (kV kv.1, kv.2)) := by
          have e5 : (ps.map (·.1)).zip (ps.map (·.2)) = ps := zip_fst_snd ps
          rw [← e5, c0, ← c1]
          exact zip_keys kus (cs.map T.val)
        refine ⟨by have : H2 p = some (.dK (([] : List Key).zip (([] : List T).map T.val))) := ho; exact this, (kus.map (·.1)).zip (cs.map T.val), hkvs, ?_, ?_⟩
        · rw [List.length_zip, List.length_map, List.length_map]
          have : ps.length = kus.length := by have := congrArg List.length c0; simpa using this
          omega
        · have hlk : (kus.map (·.1)).length = (cs.map T.val).length := by
            have a1 := congrArg List.length c0
            have a2 := congrArg List.length c1
            simp only [List.length_map] at a1 a2 ⊢
            omega
          have em : mergeK [] ((kus.map (·.1)).zip (cs.map T.val)) = (kus.map (·.1)).zip (cs.map T.val) := by
            rw [merge_new]
            · rfl
            · rw [List.nil_append, List.map_fst_zip (Nat.le_of_eq hlk)]
              exact hnd
          rw [em]
          obtain ⟨ts4, E4, f4, k4, r4⟩ := kk (upd H2 p (.dK ((kus.map (·.1)).zip (cs.map T.val)))) (fun b o hb n => by rw [upd_ne n]; exact hb) ⟨⟨hnd, by rw [if_pos rfl]; exact hlk⟩, by rw [if_pos rfl]; exact upd_same⟩
          rw [map_kl_true, map_kl_true, if_pos rfl, c2] at E4
          refine q _ _ (Goes.to m0 f0 (fun b o hb _ => by rw [upd_ne (by intro z; rw [z, np] at hb; cases hb)]; exact hb) r0 (Goes.to n2 f2 k2 r2 ⟨n3, ts4, E4, fun b hb => .inl (c5 b (f4 b hb)), k4.weak fun b hb => c5 b (List.mem_append_right _ hb), c6.trans (by rw [← n3]; exact r4)⟩))
      · cases h
    · cases h
  · cases h
end
end FB
namespace FB
open PySem PySem.Spec PyProof.Rows L2
theorem sort_uniq {α : Type} {le : α → α → Prop} (anti : ∀ a b, le a b → le b a → a = b) : ∀ {R S : List α}, R.Pairwise le → S.Pairwise le → R.Perm S → R = S
  | [], S, _, _, p => p.nil_eq
  | a :: R, [], _, _, p => by cases p.eq_nil
  | a :: R, b :: S, h1, h2, p => by
    obtain ⟨a1, a2⟩ := List.pairwise_cons.mp h1
    obtain ⟨b1, b2⟩ := List.pairwise_cons.mp h2
    have e : a = b := by
      have ha : a ∈ b :: S := p.mem_iff.mp (List.mem_cons_self ..)
      have hb : b ∈ a :: R := p.mem_iff.mpr (List.mem_cons_self ..)
      rcases List.mem_cons.mp ha with h | h
      · exact h
      · rcases List.mem_cons.mp hb with h' | h'
        · exact h'.symm
        · exact anti a b (a1 b h') (b1 a h)
    subst e
    rw [sort_uniq anti a2 b2 ((List.perm_cons _).mp p)]
def sortK (l : List (List Key)) : List (List Key) := l.mergeSort fun a b => !llt b a
def sortS (l : List Str) : List Str := l.mergeSort fun a b => !ltS b a
theorem sle_trans (a b c : Str) (h1 : (!ltS b a) = true) (h2 : (!ltS c b) = true) : (!ltS c a) = true := by
  rw [Bool.not_eq_true'] at *
  cases h : ltS c a with
  | false => rfl
  | true =>
    by_cases e : a = b
    · rw [← e, h] at h2; cases h2
    · rw [ltS_trans h (ltS_tri h1 e)] at h2; cases h2
theorem sle_total (a b : Str) : (!ltS b a || !ltS a b) = true := by
  cases h : ltS b a with
  | false => rfl
  | true => rw [ltS_asymm h]; rfl
theorem sortS_perm (l : List Str) : (sortS l).Perm l := List.mergeSort_perm _ _
theorem sortS_srt (l : List Str) : (sortS l).Pairwise fun a b => ltS b a = false := (List.pairwise_mergeSort sle_trans sle_total l).imp fun h => by simpa using h
theorem ltS_anti (a b : Str) (h1 : ltS b a = false) (h2 : ltS a b = false) : a = b := Decidable.byContradiction fun n => by
  rw [ltS_tri h1 n] at h2
  cases h2
theorem sortS_uniq {l m : List Str} (h : m.Pairwise fun a b => ltS b a = false) (p : m.Perm l) : m = sortS l := sort_uniq ltS_anti h (sortS_srt l) (p.trans (sortS_perm l).symm)
section
variable {K : PySem.W.Frag} {H H' : Hp} {fs : List T} {ta tb te tc : TE} {d d1 d2 d3 : DX} {r : R2} {e : Env} {σ : L2.St} {τ : List V} {ts : List T}
def tupU (ks : List Key) : U := .node .tup (ks.map fun k => .leaf (kV k))
def leafK : U → Option Key
  | .leaf v => keyOf v
  | _ => none
def leafKs : List U → Option (List Key)
  | [] => some []
  | u :: r => (leafK u).bind fun k => (leafKs r).map (k :: ·)
def tupK : U → Option (List Key)
  | .node .tup us => leafKs us
  | _ => none
def tupKs : List U → Option (List (List Key))
  | [] => some []
  | u :: r => (tupK u).bind fun k => (tupKs r).map (k :: ·)
def alike : List (List Key) → Bool
  | [] => true
  | a :: r => !a.isEmpty && r.all fun b => shp b == shp a
def dSortT : DX := fun e => e.top.bind fun p => (p.2.1.seq okL).bind fun us => (tupKs us).bind fun l => if alike l = true then some (p.2.2.new (.node .lst ((sortK l).map tupU))) else none
theorem leafKs_is : ∀ {us : List U} {ks : List Key}, leafKs us = some ks → us = ks.map fun k => .leaf (kV k)
  | [], ks, h => by
    obtain rfl := Option.some.inj h
    rfl
  | u :: r, ks, h => by
    obtain ⟨k, h1, h⟩ := Option.bind_eq_some_iff.mp h
    obtain ⟨ks', h2, rfl⟩ := Option.map_eq_some_iff.mp h
    rw [leafKs_is h2]
    cases u with
    | node k us => cases h1
    | leaf v =>
      have h1 : keyOf v = some k := h1
      rw [keyOf_is h1]
      rfl
end
end FB
namespace FB
open PySem PySem.Spec PyProof.Rows L2
section
variable {K : PySem.W.Frag} {H H' : Hp} {fs : List T} {ta tb te tc : TE} {d d1 d2 d3 : DX} {r : R2} {e : Env} {σ : L2.St} {τ : List V} {ts : List T}
def leavesU : List U → Option (List V)
  | [] => some []
  | .leaf v :: r => (leavesU r).map (v :: ·)
  | .node _ _ :: _ => none
theorem leaves_val : ∀ {cs : List T} {vs : List V}, leavesU (T.erL cs) = some vs → cs.map T.val = vs
  | [], vs, h => by
    rw [T.erL] at h
    exact Option.some.inj h
  | .leaf v :: r, vs, h => by
    rw [T.erL, T.er, leavesU] at h
    obtain ⟨ws, h1, rfl⟩ := Option.map_eq_some_iff.mp h
    rw [List.map_cons, leaves_val h1]
    rfl
  | .node a k cs :: r, vs, h => by
    rw [T.erL, T.er, leavesU] at h
    cases h
def bools : List V → Option (List Bool)
  | [] => some []
  | .bl b :: r => (bools r).map (b :: ·)
  | _ => none
theorem bools_is : ∀ {vs : List V} {bs : List Bool}, bools vs = some bs → vs = bs.map V.bl
  | [], bs, h => by
    obtain rfl := Option.some.inj h
    rfl
  | .bl b :: r, bs, h => by
    rw [bools] at h
    obtain ⟨ws, h1, rfl⟩ := Option.map_eq_some_iff.mp h
    rw [List.map_cons, ← bools_is h1]
  | .int _ :: _, _, h => by cases h
  | .str _ :: _, _, h => by cases h
  | .non :: _, _, h => by cases h
  | .ty _ :: _, _, h => by cases h
  | .ref _ :: _, _, h => by cases h
  | .flt _ :: _, _, h => by cases h
  | .byt _ :: _, _, h => by cases h
def intsV : List V → Option (List Int)
  | [] => some []
  | v :: r => (asInt v).bind fun i => (intsV r).map (i :: ·)
def strsV : List V → Option (List Str)
  | [] => some []
  | .str b :: r => (strsV r).map (b :: ·)
  | _ => none
theorem strs_is : ∀ {vs : List V} {bs : List Str}, strsV vs = some bs → vs = bs.map V.str := by
  intro vs
  induction vs with
  | nil =>
    intro bs h
    obtain rfl := Option.some.inj h
    rfl
  | cons v r ih =>
    intro bs h
    cases v <;> first | (cases h; done) | skip
    rw [strsV] at h
    obtain ⟨ws, h1, rfl⟩ := Option.map_eq_some_iff.mp h
    rw [List.map_cons, ← ih h1]
def dLv {α : Type} (f : List V → Option α) (g : α → Option V) : DX := fun e => e.top.bind fun p => (p.2.1.seq okL).bind fun us => (leavesU us).bind fun vs => (f vs).bind fun x => (g x).map fun z => { p.2.2 with tp := .val (.leaf z) :: p.2.2.tp }
theorem rxn_lv {α : Type} {f : List V → Option α} {g : α → Option V} {r : List V → Hp → VK → Prop} (hr : ∀ a vs x z H Q, SqL K H a vs → f vs = some x → g x = some z → Q z H → r [.ref a] H Q) (hs : ∀ x z, g x = some z → scalV z = true) : RXn K 1 r (dLv f g) := rxn1 fun fs e σ τ x H ts E e' h Q q => by
  obtain ⟨⟨s, u, e1⟩, h1, h⟩ := Option.bind_eq_some_iff.mp h
  obtain ⟨us, h2, h⟩ := Option.bind_eq_some_iff.mp h
  obtain ⟨vs, h3, h⟩ := Option.bind_eq_some_iff.mp h
  obtain ⟨x, h4, h⟩ := Option.bind_eq_some_iff.mp h
  obtain ⟨z, h5, rfl⟩ := Option.map_eq_some_iff.mp h
  obtain ⟨n1, E1, s1, l1⟩ := E.top h1
  obtain ⟨a, k, cs, rfl, hk, rfl, g2, g3, _⟩ := E1.seq s1 l1 h2
  have g2 := obj_sql g2 hk
  rw [leaves_val h3] at g2
  exact hr a vs x z H Q g2 h4 h5 (q _ H ⟨n1, ts, E1.push (slat_leaf (hs _ _ h5)), fun _ h => .inl h, Kp.refl _ _, Rv.refl _ _⟩)
def dAll : DX := dLv bools fun bs => some (.bl (bs.all id))
def dAny : DX := dLv bools fun bs => some (.bl (bs.any id))
def dSum : DX := dLv intsV fun ns => some (.int ns.sum)
theorem rxn_all : RXn K 1 (rAll K) dAll := rxn_lv (fun a vs x z H Q hq hf hg q => by
  obtain rfl := Option.some.inj hg
  rw [bools_is hf] at hq
  exact ⟨a, x, rfl, hq, q⟩) fun x z h => by obtain rfl := Option.some.inj h; rfl
def keyUs (ks : List Key) : List U := ks.map fun k => .leaf (kV k)
def dListD : DX := fun e => e.top.bind fun p => p.2.1.dic.map fun c => p.2.2.new (.node .lst (keyUs c.1))
def dDictD : DX := fun e => e.top.bind fun p => p.2.1.dic.bind fun c => if U.immL c.2 = true then some (p.2.2.new (.node (.dic c.1) c.2)) else none
def U.dic0 : U → Option (List U)
  | .node (.dic _) us => some us
  | _ => none
def dLenD : DX := fun e => e.top.bind fun p => p.2.1.dic0.map fun us => { p.2.2 with tp := .val (.leaf (.int us.length)) :: p.2.2.tp }
def tyU : U → Option String
  | .node .lst _ => some "list"
  | .node .fls _ => some "list"
  | .node .tup _ => some "tuple"
  | .node (.dic _) _ => some "dict"
  | .leaf (.int _) => some "int"
  | .leaf (.str _) => some "str"
  | .leaf (.bl _) => some "bool"
  | .leaf .non => some "NoneType"
  | .node (.fdi _) _ => some "dict"
  | _ => none
def dIsi : DX := fun e => e.leaf.bind fun y => y.2.top.bind fun p => (tyU p.2.1).bind fun n => if y.1 = .ty n then some { p.2.2 with tp := .val (.leaf (.bl true)) :: p.2.2.tp } else none
def dSortS : DX := fun e => e.top.bind fun p => (p.2.1.seq okL).bind fun us => (leavesU us).bind fun vs => (strsV vs).bind fun l => if l.Nodup ∧ l.length < 64 then some (p.2.2.new (.node .lst ((sortS l).map fun z => .leaf (.str z)))) else none
def strTs (ks : List Str) : List T := ks.map fun k => .leaf (.str k)
theorem strTs_er (ks : List Str) : T.erL (strTs ks) = ks.map fun z => .leaf (.str z) := by
  unfold strTs
  rw [erL_map, List.map_map]
  exact List.map_congr_left fun k _ => by show T.er (.leaf (.str k)) = _; rw [T.er]
theorem strTs_val (ks : List Str) : (strTs ks).map T.val = ks.map V.str := by
  unfold strTs
  rw [List.map_map]
  exact List.map_congr_left fun k _ => rfl
theorem strTs_holds (ks : List Str) : HoldsL K H (strTs ks) := by
  rw [holdsL_iff]
  intro t ht
  obtain ⟨k, _, rfl⟩ := List.mem_map.mp ht
  rw [Holds]
  rfl
theorem strUs_imm (ks : List Str) : U.immL (ks.map fun z => .leaf (.str z)) = true := by
  induction ks with
  | nil => rw [List.map_nil, U.immL]
  | cons k r ih => rw [List.map_cons, U.immL, ih, U.imm]; rfl
theorem rxn_sortS : RXn K 1 (rSortedS K) dSortS := rxn1 fun fs e σ τ x H ts E e' h Q q => by
  obtain ⟨⟨s, u, e1⟩, h1, h⟩ := Option.bind_eq_some_iff.mp h
  obtain ⟨us, h2, h⟩ := Option.bind_eq_some_iff.mp h
  obtain ⟨vs, h3, h⟩ := Option.bind_eq_some_iff.mp h
  obtain ⟨l, h4, h9⟩ := Option.bind_eq_some_iff.mp h
  obtain ⟨n1, E1, s1, l1⟩ := E.top h1
  obtain ⟨a, k, cs, rfl, hk, rfl, g2, g3, _⟩ := E1.seq s1 l1 h2
  have g2 := obj_sql g2 hk
  rw [leaves_val h3, strs_is h4] at g2
  split at h9
  · rename_i hi
    obtain rfl := Option.some.inj h9
    refine ⟨a, l, rfl, g2, hi.2, fun ys p hp hs np => ?_⟩
    have es : ys = sortS l := sortS_uniq ((strict_of_sorted ys hs (hp.nodup_iff.mpr hi.1)).imp fun h => ltS_asymm h) hp
    subst es
    have := E1.copy (k := .lst) (cs := strTs (sortS l)) (by rw [strTs_er]; exact strUs_imm _) (strTs_holds _) np (same_new np) (H' := upd H p (.lst ((sortS l).map V.str))) (by rw [strTs_val]; exact upd_same)
    rw [strTs_er] at this
    refine q _ _ ?_
    rw [← n1]
    exact this
  · cases h9
end
end FB
namespace FB
open PySem PySem.Spec PyProof.Rows L2
section
variable {K : PySem.W.Frag} {H H' : Hp} {fs : List T} {ta tb te tc : TE} {d d1 d2 d3 : DX} {r : R2} {e : Env} {σ : L2.St} {τ : List V} {ts : List T}
def lockAt (e : Env) (j : Nat) (π : List Nat) : Option Env := match look1 e.st j π with
  | some (.node (.dic ks) us) => some { e with st := setU e.st j π (.node (.fdi ks) us) }
  | _ => none
def unlockAt (e : Env) (j : Nat) (π : List Nat) : Option Env := match look1 e.st j π with
  | some (.node (.fdi ks) us) => some { e with st := setU e.st j π (.node (.dic ks) us) }
  | _ => none
theorem foot_get : ∀ {π : List Nat} {t s : T}, t.get π = some s → ∀ b ∈ s.foot, b ∈ t.foot := fun {π t s} h b hb => by
  obtain ⟨L, R, e1, _⟩ := put_foot h
  rw [e1]
  simp [hb]
def itemsSl (ks : List Key) (us : List U) : List Sl := (ks.zip us).map fun p => .val (.node .tup [.leaf (kV p.1), p.2])
def dLcI (vs : List Nat) (a : DX) (b : DX) (t : DT) (x : DX) : DX := fun e => (a e).bind fun e1 => match e1.tp with
  | .ref j π :: _ => (lockAt e j π).bind fun e2 => (e2.freeze j).bind fun e3 => (a e3).bind fun e4 => e4.top.bind fun p => match p.1, p.2.1 with
    | .fref m π', .node (.fdi ks) us => if m = e2.fz.length ∧ π' = π ∧ U.immL us = true then (loopC vs b t x (itemsSl ks us) (p.2.2.newL vs)).bind fun e5 => ((e5.wipe vs).thaw j e2.fz.length).bind fun e6 => unlockAt e6 j π else none
    | _, _ => none
  | _ => none
end
end FB
namespace FB
open PySem PySem.Spec PyProof.Rows L2
section
variable {K : PySem.W.Frag} {H H' : Hp} {fs : List T} {ta tb te tc : TE} {d d1 d2 d3 : DX} {r : R2} {e : Env} {σ : L2.St} {τ : List V} {ts : List T}
def isTab (P : Addr) : U → Bool
  | .node (.tab Q) _ => decide (Q = P)
  | _ => false
theorem EnvAt.tab {P : Addr} (E : EnvAt K fs e σ τ H ts) (h : e.fz.any (isTab P) = true) : H P = some (TabX P) := by
  obtain ⟨u, hu, hp⟩ := List.any_eq_true.mp h
  rw [← E.fe, erL_map] at hu
  obtain ⟨t, ht, rfl⟩ := List.mem_map.mp hu
  have hh := (holdsL_iff fs).mp E.fh t ht
  cases t with
  | leaf v => rw [T.er] at hp; cases hp
  | node a k cs =>
    rw [T.er] at hp
    rw [Holds] at hh
    unfold isTab at hp
    split at hp
    · rename_i Q' _ hk
      obtain ⟨rfl, _⟩ := U.node.inj hk
      have : Q' = P := of_decide_eq_true hp
      rw [← this]
      exact hh.1
    · cases hp
def loopG (st : Bool) (vs : List Nat) (b : DX) (a : DX) : List Sl → DX
  | [], e => some { e with tp := .val (.leaf (.bl (!st))) :: e.tp }
  | s :: r, e => (b { e with tp := s :: e.tp }).bind fun e1 => (a e1).bind fun e2 => e2.leaf.bind fun y => match y.1 with
    | .bl v => if v = st then some { y.2.wipe vs with tp := .val (.leaf (.bl st)) :: y.2.tp } else loopG st vs b a r (y.2.wipe vs)
    | _ => none
theorem gen_turn {st : Bool} {vs : List Nat} {g : TG} {b : DX} (hg : GXW K vs g b) (he : EX K te d) {np : Nat} {ts0 : List T} {H0 : Hp} {its : List Sl} {eF : Env} {Q : VK} (q : ∀ v H', Goes K fs np H0 ts0 (eF.wipe vs) σ (v :: τ) H' → Q v H') {i : Nat} {s : Sl} {x : V} (hs : its[i]? = some s) {ei : Env} {H' : Hp} (G : Goes K fs np H0 ts0 ei (L2.wipe σ vs) τ H') (hx : ∀ ts1, EnvAt K fs ei (L2.wipe σ vs) τ H' ts1 → SlAt K fs H' ts1 s (some x)) (hl : loopG st vs b d (its.drop i) ei = some eF) :
    g x (L2.wipe σ vs) H' fun σ2 H2 => L2.wipe σ2 vs = L2.wipe σ vs ∧ te σ2 H2 fun v H3 => ∃ c : Bool, v = .bl c ∧ if c = st then Q (.bl st) H3 else (∃ e1, Goes K fs np H0 ts0 e1 (L2.wipe σ vs) τ H3 ∧ loopG st vs b d (its.drop (i + 1)) e1 = some eF) := by
  obtain ⟨n1, ts1, E1, f1, k1, r1⟩ := G
  have hd : its.drop i = s :: its.drop (i + 1) := by
    rw [List.drop_eq_getElem_cons (List.getElem?_eq_some_iff.mp hs).1, (List.getElem?_eq_some_iff.mp hs).2]
  rw [hd, loopG] at hl
  obtain ⟨e2, h1, hl⟩ := Option.bind_eq_some_iff.mp hl
  obtain ⟨e3, h2, hl⟩ := Option.bind_eq_some_iff.mp hl
  obtain ⟨⟨y, e4⟩, h3, hl⟩ := Option.bind_eq_some_iff.mp hl
  have ww : L2.wipe (L2.wipe σ vs) vs = L2.wipe σ vs := by
    have : ∀ (vs ws : List Nat), (∀ v ∈ vs, v ∈ ws) → L2.wipe (L2.wipe σ vs) ws = L2.wipe σ ws := by
      intro vs
      induction vs with
      | nil => intro ws _; rfl
      | cons v vs ih =>
        intro ws hw
        show L2.wipe ((L2.wipe σ vs).set v none) ws = _
        rw [wipe_set (hw v List.mem_cons_self)]
        exact ih ws fun z hz => hw z (List.mem_cons_of_mem _ hz)
    exact this vs vs fun _ h => h
  refine hg fs _ (L2.wipe σ vs) _ x H' ts1 (E1.push (hx ts1 E1)) e2 h1 _ fun σ2 H2 G2 w2 => ?_
  rw [ww] at w2
  obtain ⟨n2, ts2, E2, f2, k2, r2⟩ := G2
  refine ⟨w2, he fs e2 σ2 _ H2 ts2 E2 e3 h2 _ fun v H3 G3 => ?_⟩
  obtain ⟨n3, ts3, E3, f3, k3, r3⟩ := G3
  obtain ⟨n4, E4, rfl, _⟩ := E3.leaf h3
  have tr : ∀ {e9 : Env} {σ9 : L2.St} {τ9 : List V} {H9 : Hp}, Goes K fs e3.np H3 ts3 e9 σ9 τ9 H9 → Goes K fs np H0 ts0 e9 σ9 τ9 H9 := fun G => Goes.to n1 f1 k1 r1 (Goes.to n2 f2 k2 r2 (Goes.to n3 f3 k3 r3 G))
  have E5 := E4.wipe vs
  rw [w2] at E5
  dsimp only at hl
  cases v with
  | bl c =>
    refine ⟨c, rfl, ?_⟩
    dsimp only at hl
    split at hl
    · rename_i hc
      rw [if_pos hc]
      obtain rfl := Option.some.inj hl
      refine q _ H3 (tr ⟨n4, ts3, ?_, fun _ h => .inl h, Kp.refl _ _, Rv.refl _ _⟩)
      have E6 : EnvAt K fs { e4.wipe vs with tp := .val (.leaf (.bl st)) :: e4.tp } (L2.wipe σ vs) (.bl st :: τ) H3 ts3 := E5.push (slat_leaf rfl)
      exact E6.unwipe
    · rename_i hc
      rw [if_neg hc]
      exact ⟨e4.wipe vs, tr ⟨n4, ts3, E5, fun _ h => .inl h, Kp.refl _ _, Rv.refl _ _⟩, hl⟩
  | _ => cases hl
def dGen (ok : Kd → Bool) (st : Bool) (P : Addr) (vs : List Nat) (a : DX) (b : DX) (x : DX) : DX := fun e => (a e).bind fun e1 => e1.top.bind fun p => (p.2.1.seq ok).bind fun us => if p.2.2.fz.any (isTab P) = true then (match p.1 with
  | .ref j π => (p.2.2.freeze j).bind fun e3 => (loopG st vs b x (kids (.fref p.2.2.fz.length π) 0 us) (e3.wipe vs)).bind fun e => (e.wipe vs).thaw j p.2.2.fz.length
  | .val u => (loopG st vs b x (kids (.fref p.2.2.fz.length []) 0 us) ((p.2.2.pushF u).wipe vs)).bind fun e => (e.wipe vs).popF p.2.2.fz.length
  | .fref m π => (loopG st vs b x (kids (.fref m π) 0 us) (p.2.2.wipe vs)).map fun e => e.wipe vs
  | .no => none) else none
def WalksG (K : PySem.W.Frag) (a : Addr) (xs : List V) (k : Kd) (st : Bool) (vs : List Nat) (g : TG) (te : TE) (σ : L2.St) (H : Hp) (Q : VK) : Prop := ∃ Pv : Nat → Hp → Prop, Pv 0 H ∧ (∀ i H', Pv i H' → IsObj K H' a k xs) ∧ (∀ i y H', xs[i]? = some y → Pv i H' → g y (L2.wipe σ vs) H' fun σ2 H2 => L2.wipe σ2 vs = L2.wipe σ vs ∧ te σ2 H2 fun v H3 => ∃ c : Bool, v = .bl c ∧ if c = st then Q (.bl st) H3 else Pv (i + 1) H3) ∧ ∀ H', Pv xs.length H' → Q (.bl (!st)) H'
theorem genS_core {st : Bool} {vs : List Nat} {g : TG} {b : DX} (hg : GXW K vs g b) (he : EX K te d) {m : Nat} {π : List Nat} {tm : T} {a : Addr} {k : Kd} {cs : List T} (hm : fs[m]? = some tm) (hp : tm.get π = some (.node a k cs)) {e1 eF : Env} {H1 : Hp} {ts1 : List T} (E : EnvAt K fs e1 σ τ H1 ts1) (h : loopG st vs b d (kids (.fref m π) 0 (T.erL cs)) (e1.wipe vs) = some eF) {Q : VK} (q : ∀ v H', Goes K fs e1.np H1 ts1 (eF.wipe vs) σ (v :: τ) H' → Q v H') : WalksG K a (cs.map T.val) k st vs g te σ H1 Q := by
  have node0 : ∀ {e9 : Env} {σ9 : L2.St} {τ9 : List V} {H9 : Hp} {ts9 : List T}, EnvAt K fs e9 σ9 τ9 H9 ts9 → IsObj K H9 a k (cs.map T.val) ∧ HoldsL K H9 cs := fun E9 => by
    have := get_holds hp ((holdsL_iff fs).mp E9.fh tm (List.mem_of_getElem? hm))
    rw [Holds] at this
    exact this
  have hlen : (kids (.fref m π) 0 (T.erL cs)).length = (cs.map T.val).length := by rw [kids_len, erL_map, List.length_map, List.length_map]
  refine ⟨fun i H3 => ∃ e9, Goes K fs e1.np H1 ts1 e9 (L2.wipe σ vs) τ H3 ∧ loopG st vs b d ((kids (.fref m π) 0 (T.erL cs)).drop i) e9 = some eF, ⟨e1.wipe vs, ⟨rfl, ts1, E.wipe vs, fun _ h => .inl h, Kp.refl _ _, Rv.refl _ _⟩, h⟩, fun i H' hpv => ?_, fun i y H' hy hpv => ?_, fun H' hpv => ?_⟩
  · obtain ⟨e9, ⟨_, ts9, E9, _⟩, _⟩ := hpv
    exact (node0 E9).1
  · obtain ⟨e9, G9, h9⟩ := hpv
    rw [List.getElem?_map] at hy
    obtain ⟨c, hc, rfl⟩ := Option.map_eq_some_iff.mp hy
    refine gen_turn hg he q (s := kidS (.fref m π) i c.er) (by rw [kids_get, Nat.zero_add, erL_map, List.getElem?_map, hc]; rfl) G9 (fun ts9 E9 => ?_) h9
    have hh := (node0 E9).2
    unfold kidS
    split
    · rename_i hi
      exact ⟨c, rfl, rfl, (holdsL_iff cs).mp hh c (List.mem_of_getElem? hc), imm_foot c hi⟩
    · refine ⟨tm, c, hm, ?_, rfl⟩
      rw [tget_append, hp]
      show T.get [i] (.node a k cs) = _
      rw [get1]
      exact hc
  · obtain ⟨e9, ⟨m1, m2, m3, m4⟩, h9⟩ := hpv
    rw [List.drop_eq_nil_of_le (by rw [hlen]; exact Nat.le_refl _), loopG] at h9
    obtain rfl := Option.some.inj h9
    refine q _ H' ⟨m1, m2, ?_, m4⟩
    have E6 : EnvAt K fs { e9 with tp := .val (.leaf (.bl (!st))) :: e9.tp } (L2.wipe σ vs) (.bl (!st) :: τ) H' m2 := m3.push (slat_leaf rfl)
    exact E6.unwipe
theorem gen_items {st : Bool} {P : Addr} {ok : Kd → Bool} {vs : List Nat} {g : TG} {b : DX} {ti : TE} (ha : EX K ti d1) (hg : GXW K vs g b) (he : EX K te d) {fs : List T} {e : Env} {σ : L2.St} {τ : List V} {H : Hp} {ts : List T} (E : EnvAt K fs e σ τ H ts) {e' : Env} (h : dGen ok st P vs d1 b d e = some e') {Q : VK} (q : ∀ v H', Goes K fs e.np H ts e' σ (v :: τ) H' → Q v H') {R : V → Hp → Prop} (hW : ∀ a xs kd H1, ok kd = true → H1 P = some (TabX P) → WalksG K a xs kd st vs g te σ H1 Q → R (.ref a) H1) : ti σ H R := by
  obtain ⟨e1, h1, h⟩ := Option.bind_eq_some_iff.mp h
  obtain ⟨⟨s, u, e2⟩, h2, h⟩ := Option.bind_eq_some_iff.mp h
  obtain ⟨us, h3, h⟩ := Option.bind_eq_some_iff.mp h
  obtain ⟨htb, h⟩ := Option.ite_none_right_eq_some.mp h
  obtain ⟨kd, hkd, rfl⟩ := seq_node h3
  refine ha fs e σ τ H ts E e1 h1 _ fun x H1 g1 => ?_
  obtain ⟨n1, ts1, E1, f1, k1, r1⟩ := g1
  obtain ⟨n2, E2, s2, l2⟩ := E1.top h2
  have hfl : fs.length = e2.fz.length := by rw [← E2.fe, erL_map, List.length_map]
  have hn : e2.np = e.np := n2.trans n1
  have hTab := E2.tab htb
  have qq : ∀ v H', Goes K fs e2.np H1 ts1 e' σ (v :: τ) H' → Q v H' := fun v H' G => q v H' (Goes.to hn f1 k1 r1 G)
  cases s with
  | no => cases h
  | ref j π =>
    obtain ⟨e3, h4, h⟩ := Option.bind_eq_some_iff.mp h
    obtain ⟨eF, h5, h6⟩ := Option.bind_eq_some_iff.mp h
    obtain ⟨tj, hj, n3, E3⟩ := E2.freeze h4
    obtain ⟨t', s', g1, g2, g3⟩ := s2
    rw [hj] at g1
    obtain rfl := Option.some.inj g1
    have l2 : look1 e2.st j π = some (.node kd us) := l2
    rw [← E2.er] at l2
    obtain ⟨tj2, w, b1, b2, b3, b4⟩ := look1_get l2 E2.ho
    rw [hj] at b1
    obtain rfl := Option.some.inj b1
    rw [g2] at b2
    obtain rfl := Option.some.inj b2
    cases s' with
    | leaf v => rw [T.er] at b3; cases b3
    | node a kd' cs =>
      rw [T.er] at b3
      obtain ⟨rfl, rfl⟩ := U.node.inj b3
      have Wk := genS_core hg he (Q := Q) (m := e2.fz.length) (π := π) (tm := tj) (a := a) (k := kd') (cs := cs) (by rw [← hfl, List.getElem?_append_right (Nat.le_refl _)]; simp) g2 E3 h5 fun v H' G => qq v H' (by rw [n3] at G; exact EnvAt.thaw E2 hj hfl.symm G h6)
      rw [Option.some.inj g3]
      exact hW a _ kd' H1 hkd hTab Wk
  | val w =>
    obtain ⟨eF, h5, h6⟩ := Option.bind_eq_some_iff.mp h
    obtain ⟨t, g1, g2, g3, g4⟩ := s2
    obtain rfl : w = .node kd us := Option.some.inj l2
    cases t with
    | leaf v => rw [T.er] at g2; cases g2
    | node a kd' cs =>
      have hpe := E2.pushF g3 g4
      rw [g2] at hpe
      rw [T.er] at g2
      obtain ⟨rfl, rfl⟩ := U.node.inj g2
      have Wk := genS_core hg he (Q := Q) (m := e2.fz.length) (π := []) (tm := .node a kd' cs) (a := a) (k := kd') (cs := cs) (by rw [← hfl, List.getElem?_append_right (Nat.le_refl _)]; simp) rfl hpe h5 fun v H' G => qq v H' (Goes.popF hfl.symm G h6)
      rw [Option.some.inj g1]
      exact hW a _ kd' H1 hkd hTab Wk
  | fref m π =>
    obtain ⟨eF, h5, rfl⟩ := Option.map_eq_some_iff.mp h
    obtain ⟨t', s', g1, g2, g3⟩ := s2
    have l2 : look1 e2.fz m π = some (.node kd us) := l2
    rw [← E2.fe] at l2
    obtain ⟨tj2, w, b1, b2, b3, b4⟩ := look1_get l2 E2.fh
    rw [g1] at b1
    obtain rfl := Option.some.inj b1
    rw [g2] at b2
    obtain rfl := Option.some.inj b2
    cases s' with
    | leaf v => rw [T.er] at b3; cases b3
    | node a kd' cs =>
      rw [T.er] at b3
      obtain ⟨rfl, rfl⟩ := U.node.inj b3
      have Wk := genS_core hg he (Q := Q) g1 g2 E2 h5 qq
      rw [Option.some.inj g3]
      exact hW a _ kd' H1 hkd hTab Wk
theorem gstep_of {st : Bool} {J : It} {n : Nat} {G : Hp → Prop} {xs : List V} (w : Walk J n G (YAt xs)) (hn : n = xs.length) {vs : List Nat} {g : TG} {Q : VK} (Pv : Nat → Hp → Prop) {H1 : Hp} (h0 : Pv 0 H1) (hG : ∀ i H, Pv i H → G H) (hs : ∀ i y H', xs[i]? = some y → Pv i H' → g y (L2.wipe σ vs) H' fun σ2 H2 => L2.wipe σ2 vs = L2.wipe σ vs ∧ te σ2 H2 fun v H3 => ∃ c : Bool, v = .bl c ∧ if c = st then Q (.bl st) H3 else Pv (i + 1) H3) (hd : ∀ H', Pv xs.length H' → Q (.bl (!st)) H') : ∃ W : Nat → Nat → Hp → Prop, (∃ m, W 0 m H1) ∧ GStep st J g te σ vs Q W := by
  refine ⟨fun i m H => m = n - i ∧ i ≤ n ∧ Pv i H, ⟨n, by simp, Nat.zero_le _, h0⟩, ?_⟩
  rintro i m H ⟨rfl, hi, p⟩
  have q := hG i H p
  by_cases hlt : i < n
  · refine .inr ⟨w.goes i H hlt q, Pv (i + 1), fun H' p' => ⟨n - (i + 1), by omega, rfl, hlt, p'⟩, fun x H' y => ?_⟩
    obtain ⟨rfl, hx⟩ := w.yields i H x H' hlt q y
    exact hs i x _ hx p
  · have e : i = n := by omega
    subst e
    exact .inl ⟨w.stops H q, hd H (by rw [← hn]; exact p)⟩
theorem ex_genL {st : Bool} {P : Addr} {vs : List Nat} {ti : TE} {g : TG} {b : DX} (ha : EX K ti d1) (hg : GXW K vs g b) (he : EX K te d) : EX K (tGenB st P (iList K ti) g te vs) (dGen okL st P vs d1 b d) := fun fs e σ τ H ts E e' h Q q => gen_items ha hg he E h q fun a xs kd H1 hk ht hw => by
  obtain ⟨Pv, p0, p1, p2, p3⟩ := hw
  exact ⟨a, rfl, ⟨xs, obj_sql (p1 0 H1 p0) hk⟩, ht, gstep_of walk_list rfl Pv p0 (fun i H' hp => obj_sql (p1 i H' hp) hk) p2 p3⟩
end
end FB
namespace FB
open PySem PySem.Spec PyProof.Rows L2
section
variable {K : PySem.W.Frag} {H H' : Hp} {fs : List T} {ta tb te tc : TE} {d d1 d2 d3 : DX} {r : R2} {e : Env} {σ : L2.St} {τ : List V} {ts : List T}
def dSortTS : DX := fun e => e.top.bind fun p => (p.2.1.seq okT).bind fun us => (leavesU us).bind fun vs => (strsV vs).bind fun l => if l.Nodup ∧ l.length < 64 then some (p.2.2.new (.node .lst ((sortS l).map fun z => .leaf (.str z)))) else none
def fNeg : V → Option V
  | .int i => some (.int (-i))
  | _ => none
theorem rx_neg : RX1 K (rU fun i => .int (-i)) (dS1 fNeg) := rx_s1 (fun x H Q z h q => by
  cases x <;> cases h
  exact ⟨_, rfl, q⟩) (fun x z _ h => by
  cases x <;> cases h
  rfl)
def dInS (neg : Bool) : DX := fun e => e.top.bind fun p => p.2.2.leaf.bind fun y => (p.2.1.seq okS).bind fun us => (leavesU us).bind fun vs => if flatV y.1 = true ∧ vs.all flatV = true then some { y.2 with tp := .val (.leaf (.bl (if neg = true then !inV y.1 vs else inV y.1 vs))) :: y.2.tp } else none
theorem rx_inSN {neg : Bool} : RX2 K (rIn K neg) (dInS neg) := fun fs e σ τ x y H ts E e' h Q q => by
  obtain ⟨⟨s, u, e1⟩, h1, h⟩ := Option.bind_eq_some_iff.mp h
  obtain ⟨⟨x', e2⟩, h2, h⟩ := Option.bind_eq_some_iff.mp h
  obtain ⟨us, h3, h⟩ := Option.bind_eq_some_iff.mp h
  obtain ⟨vs, h4, h9⟩ := Option.bind_eq_some_iff.mp h
  obtain ⟨n1, E1, s1, l1⟩ := E.top h1
  obtain ⟨n2, E2, rfl, _⟩ := E1.leaf h2
  obtain ⟨a, k, cs, rfl, hk, rfl, g2, g3, _⟩ := E1.seq s1 l1 h3
  have g2 := obj_sq g2 hk
  rw [leaves_val h4] at g2
  split at h9
  · rename_i hf
    obtain rfl := Option.some.inj h9
    exact ⟨a, vs, rfl, g2, hf.1, hf.2, q _ H ⟨n2.trans n1, ts, E2.push (slat_leaf rfl), fun _ h => .inl h, Kp.refl _ _, Rv.refl _ _⟩⟩
  · cases h9
theorem rx_ninS : RX2 K (rIn K true) (dInS true) := rx_inSN
def ext (o : Option Int) (τ : List V) : List V := match o with
  | none => τ
  | some i => .int i :: τ
def OX (K : PySem.W.Frag) (b : Bool) (t : TO) (d : DX) : Prop := ∀ (fs : List T) (e : Env) (σ : L2.St) (τ : List V) (H : Hp) (ts : List T), EnvAt K fs e σ τ H ts → ∀ e', d e = some e' → ∀ Q : Option Int → Hp → Prop, (∀ o H', o.isSome = b → Goes K fs e.np H ts e' σ (ext o τ) H' → Q o H') → t σ H Q
def dInt : DX := fun e => match e.tp with
  | .val (.leaf (.int _)) :: _ => some e
  | _ => none
theorem ox_none : OX K false tNoPart some := fun fs e σ τ H ts E e' h Q q => by
  obtain rfl := Option.some.inj h
  exact q none H rfl (Goes.refl E)
theorem ox_some (h : EX K te d) : OX K true (tPart te) (dseq d dInt) := fun fs e σ τ H ts E e' h0 Q q => by
  obtain ⟨e1, h1, h2⟩ := dseq_some h0
  refine h fs e σ τ H ts E e1 h1 _ fun v H' g => ?_
  obtain ⟨n1, ts1, E1, f1, k1, r1⟩ := g
  obtain ⟨np, fz, st, sl, tp⟩ := e1
  unfold dInt at h2
  split at h2
  · rename_i i tp' htp
    obtain rfl : tp = _ := htp
    obtain rfl := Option.some.inj h2
    obtain ⟨rfl, _⟩ := leaf_slat E1.pop.2
    exact ⟨i, rfl, q (some i) H' rfl ⟨n1, ts1, E1, f1, k1, r1⟩⟩
  · cases h2
def popI (b : Bool) (e : Env) : Option (Option Int × Env) := match b with
  | false => some (none, e)
  | true => match e.tp with
    | .val (.leaf (.int i)) :: tp => some (some i, { e with tp := tp })
    | _ => none
def cutU {α : Type} (xs : List α) (lo hi : Option Int) : List α := (xs.drop (HT.sIx xs.length 0 lo)).take (HT.sIx xs.length xs.length hi - HT.sIx xs.length 0 lo)
theorem cutU_map {α β : Type} (f : α → β) (xs : List α) (lo hi : Option Int) : (cutU xs lo hi).map f = cutU (xs.map f) lo hi := by
  unfold cutU
  rw [List.map_take, List.map_drop, List.length_map]
def dSlL (bl bu : Bool) : DX := fun e => (popI bu e).bind fun u => (popI bl u.2).bind fun l => l.2.top.bind fun p => (p.2.1.seq okL).bind fun us => if U.immL us = true then some (p.2.2.new (.node .lst (cutU us l.1 u.1))) else none
def dSlT (bl bu : Bool) : DX := fun e => (popI bu e).bind fun u => (popI bl u.2).bind fun l => l.2.top.bind fun p => (p.2.1.seq okT).bind fun us => if U.immL us = true then some { p.2.2 with tp := .val (.node .tup (cutU us l.1 u.1)) :: p.2.2.tp } else none
theorem cut_imm {us : List U} (h : U.immL us = true) (lo hi : Option Int) : U.immL (cutU us lo hi) = true := by
  have key : ∀ {us ws : List U}, (∀ w ∈ ws, w ∈ us) → U.immL us = true → U.immL ws = true := by
    intro us ws hm h
    have h1 : ∀ u ∈ us, u.imm = true := by
      clear hm
      induction us with
      | nil => intro u hu; cases hu
      | cons v r ih =>
        rw [U.immL, Bool.and_eq_true] at h
        intro u hu
        rcases List.mem_cons.mp hu with rfl | hu
        · exact h.1
        · exact ih h.2 u hu
    induction ws with
    | nil => rw [U.immL]
    | cons w r ih =>
      rw [U.immL, h1 w (hm w (by simp)), ih fun x hx => hm x (by simp [hx])]
      rfl
  exact key (fun w hw => List.mem_of_mem_drop (List.mem_of_mem_take hw)) h
theorem popI_is {b : Bool} {o o' : Option Int} {e1 : Env} (hb : o.isSome = b) (E : EnvAt K fs e σ (ext o τ) H ts) (h : popI b e = some (o', e1)) : o' = o ∧ e1.np = e.np ∧ EnvAt K fs e1 σ τ H ts := by
  obtain ⟨np, fz, st, sl, tp⟩ := e
  cases o with
  | none =>
    obtain rfl : false = b := hb
    obtain ⟨rfl, rfl⟩ := Prod.mk.inj (Option.some.inj h)
    exact ⟨rfl, rfl, E⟩
  | some i =>
    obtain rfl : true = b := hb
    unfold popI at h
    dsimp only at h
    split at h
    · obtain ⟨rfl, rfl⟩ := Prod.mk.inj (Option.some.inj h)
      have E : EnvAt K fs _ σ (.int i :: τ) H ts := E
      obtain ⟨E1, s1⟩ := E.pop
      obtain ⟨h5, _⟩ := leaf_slat s1
      cases h5
      exact ⟨rfl, rfl, E1⟩
    · cases h
variable {bl bu : Bool} {tl tu : TO}
theorem cutV_U {cs : List T} {lo hi : Option Int} : (cutU cs lo hi).map T.val = cutV (cs.map T.val) lo hi ∧ T.erL (cutU cs lo hi) = cutU (T.erL cs) lo hi := by
  refine ⟨?_, ?_⟩
  · rw [cutU_map]
    rfl
  · rw [erL_map, erL_map, cutU_map]
theorem cut_holds {cs : List T} (h : HoldsL K H cs) (lo hi : Option Int) : HoldsL K H (cutU cs lo hi) := (holdsL_iff _).mpr fun t ht => (holdsL_iff cs).mp h t (List.mem_of_mem_drop (List.mem_of_mem_take ht))
theorem ex_slL (ha : EX K ta d1) (hl : OX K bl tl d2) (hu : OX K bu tu d3) : EX K (tSl (rSlL K) ta tl tu) (dseq d1 (dseq d2 (dseq d3 (dSlL bl bu)))) := fun fs e σ τ H ts E e' h Q q => by
  obtain ⟨e1, h1, h⟩ := dseq_some h
  obtain ⟨e2, h2, h⟩ := dseq_some h
  obtain ⟨e3, h3, h⟩ := dseq_some h
  refine ha fs e σ τ H ts E e1 h1 _ fun x H1 g1 => ?_
  obtain ⟨n1, ts1, E1, f1, k1, r1⟩ := g1
  refine hl fs e1 σ _ H1 ts1 E1 e2 h2 _ fun lo H2 b2 g2 => ?_
  obtain ⟨n2, ts2, E2, f2, k2, r2⟩ := g2
  refine hu fs e2 σ _ H2 ts2 E2 e3 h3 _ fun hi H3 b3 g3 => ?_
  obtain ⟨n3, ts3, E3, f3, k3, r3⟩ := g3
  obtain ⟨⟨hi', e4⟩, h4, h⟩ := Option.bind_eq_some_iff.mp h
  obtain ⟨⟨lo', e5⟩, h5, h⟩ := Option.bind_eq_some_iff.mp h
  obtain ⟨⟨s, u, e6⟩, h6, h⟩ := Option.bind_eq_some_iff.mp h
  obtain ⟨us, h7, h9⟩ := Option.bind_eq_some_iff.mp h
  obtain ⟨rfl, n4, E4⟩ := popI_is b3 E3 h4
  obtain ⟨rfl, n5, E5⟩ := popI_is b2 E4 h5
  obtain ⟨n6, E6, s6, l6⟩ := E5.top h6
  obtain ⟨a, k, cs, rfl, hk, rfl, g2, g3, _⟩ := E6.seq s6 l6 h7
  have tr : ∀ {e9 : Env} {σ9 : L2.St} {τ9 : List V} {H9 : Hp}, Goes K fs e3.np H3 ts3 e9 σ9 τ9 H9 → Goes K fs e.np H ts e9 σ9 τ9 H9 := fun G => Goes.to n1 f1 k1 r1 (Goes.to n2 f2 k2 r2 (Goes.to n3 f3 k3 r3 G))
  split at h9
  · rename_i hi
    obtain rfl := Option.some.inj h9
    refine ⟨a, _, rfl, obj_sql g2 hk, fun p np => q _ _ (tr ?_)⟩
    obtain ⟨c1, c2⟩ := cutV_U (cs := cs) (lo := lo') (hi := hi')
    have := E6.copy (k := .lst) (cs := cutU cs lo' hi') (by rw [c2]; exact cut_imm hi _ _) (cut_holds g3 _ _) np (same_new np) (H' := upd H3 p (.lst (cutV (cs.map T.val) lo' hi'))) (by rw [c1]; exact upd_same)
    rw [c2] at this
    rw [← n4, ← n5, ← n6]
    exact this
  · cases h9
end
end FB
namespace FB
open PySem PySem.Spec PyProof.Rows L2
section
variable {K : PySem.W.Frag} {H H' : Hp} {fs : List T} {ta tb te tc : TE} {d d1 d2 d3 : DX} {r : R2} {e : Env} {σ : L2.St} {τ : List V} {ts : List T}
def sForR2 (a : DX) (b : DX) (body : DS) : DS := fun e => (a e).bind fun e1 => e1.leaf.bind fun y => y.2.leaf.bind fun x => (asInt y.1).bind fun j => (asInt x.1).bind fun i => if -(2 ^ 62) ≤ i ∧ i < 2 ^ 62 ∧ -(2 ^ 62) ≤ j ∧ j < 2 ^ 62 then loopL b body (rngSl i (j - i).toNat) x.2 else none
def rngDn (lo : Int) (n : Nat) : List Sl := (List.range n).map fun (i : Nat) => .val (.leaf (.int (lo + (i : Int) * (-1))))
def sForR3 (a : DX) (b : DX) (body : DS) : DS := fun e => (a e).bind fun e1 => e1.leaf.bind fun z => z.2.leaf.bind fun y => y.2.leaf.bind fun x => (asInt z.1).bind fun c => (asInt y.1).bind fun j => (asInt x.1).bind fun i => if c = -1 ∧ -(2 ^ 62) ≤ i ∧ i < 2 ^ 62 ∧ -(2 ^ 62) ≤ j ∧ j < 2 ^ 62 then loopL b body (rngDn i (i - j).toNat) x.2 else none
def whileL (c : DT) (body : DS) : Nat → DS
  | 0, _ => none
  | n + 1, e => (c e).bind fun p => if p.1 = true then (body p.2).bind fun o => match o with
    | .nx e1 => whileL c body n e1
    | .ct e1 => whileL c body n e1
    | .bk e1 => some (.nx e1)
    | .rt e1 => some (.rt e1) else some (.nx p.2)
def sWhile (N : Nat) (c : DT) (body : DS) : DS := fun e => whileL c body N e
variable {c1 : TT} {b1 : DT}
end
end FB
namespace FB
open PySem PySem.Spec PyProof.Rows L2
section
variable {K : PySem.W.Frag} {H H' : Hp} {fs : List T} {ta tb te tc : TE} {d d1 d2 d3 : DX} {r : R2} {e : Env} {σ : L2.St} {τ : List V} {ts : List T}
def dPopAt : DX := fun e => e.leaf.bind fun y => (asInt y.1).bind fun i => match y.2.tp with
  | .ref j π :: tp => match look1 y.2.st j π with
    | some (.node .lst us) => if -(2 ^ 63) ≤ i ∧ i < 2 ^ 63 then (seqIndex? i us.length).bind fun k => (us[k]?).bind fun u => if u.imm = true then some { y.2 with st := setU y.2.st j π (.node .lst (us.eraseIdx k)), sl := y.2.sl.map (kl j π (okN fun n => decide (n < k))), tp := .val u :: tp.map (kl j π (okN fun n => decide (n < k))) } else none else none
    | _ => none
  | _ => none
end
end FB
namespace FB
open PySem PySem.Spec PyProof.Rows L2
section
variable {K : PySem.W.Frag} {H H' : Hp} {fs : List T} {ta tb te tc : TE} {d d1 d2 d3 : DX} {r : R2} {e : Env} {σ : L2.St} {τ : List V} {ts : List T}
def sMatch (a : DX) (m : DS) : DS := fun e => (a e).bind m
def mNil : DS := fun e => match e.tp with
  | _ :: tp => some (.nx { e with tp := tp })
  | [] => none
def mVal (c : Str) (b m : DS) : DS := fun e => match e.tp with
  | .val (.leaf (.str z)) :: tp => if z = c then b { e with tp := tp } else m e
  | _ => none
end
end FB
namespace FB
open PySem PySem.Spec PyProof.Rows L2
section
variable {K : PySem.W.Frag} {H H' : Hp} {fs : List T} {ta tb te tc : TE} {d d1 d2 d3 : DX} {r : R2} {e : Env} {σ : L2.St} {τ : List V} {ts : List T}
def dSetL : DX := fun e => e.rot.bind fun e0 => (takeTop e0).bind fun p => p.2.leaf.bind fun y => (asInt y.1).bind fun i => match y.2.tp with
  | .ref j π :: tp => match look1 y.2.st j π with
    | some (.node .lst us) => (ixN us.length i).bind fun n => some { y.2 with st := setU y.2.st j π (.node .lst (us.set n p.1)), sl := y.2.sl.map (kl j π (okN (· != n))), tp := tp.map (kl j π (okN (· != n))) }
    | _ => none
  | _ => none
theorem EnvAt.setL {v x y : V} {e' : Env} (E : EnvAt K fs e σ (y :: x :: v :: τ) H ts) (h : dSetL e = some e') : ∃ H4, (∀ Q : Hp → Prop, Q H4 → rSetL x y v H Q) ∧ Goes K fs e.np H ts e' σ τ H4 := by
  obtain ⟨e0, h0, h⟩ := Option.bind_eq_some_iff.mp h
  obtain ⟨⟨u, e1⟩, h1, h⟩ := Option.bind_eq_some_iff.mp h
  obtain ⟨⟨y', e2⟩, h2, h⟩ := Option.bind_eq_some_iff.mp h
  obtain ⟨i, h3, h⟩ := Option.bind_eq_some_iff.mp h
  obtain ⟨n0, E0⟩ := E.rot h0
  obtain ⟨n1, ts1, c, E1, c1, c2, c3, c4, c5, c6, c7⟩ := take_fs E0 h1
  obtain ⟨n2, E2, rfl, _⟩ := E1.leaf h2
  obtain rfl := asInt_is h3
  obtain ⟨np, fz, st, sl, tp⟩ := e2
  dsimp only at h
  have hn : np = e.np := n2.trans (n1.trans n0)
  split at h
  · rename_i j π tp'
    split at h
    · rename_i us hat
      obtain ⟨n, hix, h⟩ := Option.bind_eq_some_iff.mp h
      obtain rfl := Option.some.inj h
      obtain ⟨a, cs, rfl, e1, ho, kk⟩ := E2.modTop (k' := .lst) (xs := [c]) (f := (· != n)) hat rfl rfl c3 c4 c7 (fun cs => cs.set n c) (fun cs x hx => by rcases List.mem_or_eq_of_mem_set hx with h | h; exact .inl h; exact .inr (by rw [h]; exact List.mem_singleton.mpr rfl)) (fun cs b => footL_set b) (fun cs m x hm hx => by rw [List.getElem?_set_ne (by intro z; rw [z] at hm; simp at hm)]; exact hx)
      have hl2 : (cs.map T.val).length = us.length := by rw [List.length_map, ← e1, erL_map, List.length_map]
      obtain ⟨ts2, E3, f3, k3, r3⟩ := kk (upd H a (.lst ((cs.map T.val).set n v))) (fun b o hb n => by rw [upd_ne n]; exact hb) (by show upd H a _ a = some (.lst ((cs.set n c).map T.val)); rw [List.map_set, c1]; exact upd_same)
      rw [erL_set, e1, c2] at E3
      exact ⟨_, fun Q q => ⟨a, cs.map T.val, i, n, rfl, rfl, ho, by rw [hl2]; exact hix, q⟩, hn, ts2, E3, fun b hb => .inl (c5 b (f3 b hb)), k3.weak fun b hb => c5 b (List.mem_append_right _ hb), by rw [n0] at c6; exact c6.trans (by rw [← hn]; exact r3)⟩
    · cases h
  · cases h
theorem sx_setL (hv : EX K tc d1) (hd : EX K ta d2) (hk : EX K tb d3) : SX K (tAsg tc (gSub ta tb rSetL)) (sDo (dseq d1 (dseq d2 (dseq d3 dSetL)))) := fun fs e σ τ H ts E o h D k => by
  obtain ⟨e4, hh, rfl⟩ := Option.map_eq_some_iff.mp h
  obtain ⟨e1, h1, h⟩ := dseq_some hh
  obtain ⟨e2, h2, h⟩ := dseq_some h
  obtain ⟨e3, h3, h4⟩ := dseq_some h
  refine hv fs e σ τ H ts E e1 h1 _ fun v H1 g1 => ?_
  obtain ⟨n1, ts1, E1, f1, k1, r1⟩ := g1
  refine hd fs e1 σ _ H1 ts1 E1 e2 h2 _ fun x H2 g2 => ?_
  obtain ⟨n2, ts2, E2, f2, k2, r2⟩ := g2
  refine hk fs e2 σ _ H2 ts2 E2 e3 h3 _ fun y H3 g3 => ?_
  obtain ⟨n3, ts3, E3, f3, k3, r3⟩ := g3
  obtain ⟨H4, hp, g4⟩ := E3.setL h4
  exact hp _ (k σ H4 (Goes.to n1 f1 k1 r1 (Goes.to n2 f2 k2 r2 (Goes.to n3 f3 k3 r3 g4))))
end
end FB
namespace FB
open PySem PySem.Spec PyProof.Rows L2
section
variable {K : PySem.W.Frag} {H H' : Hp} {fs : List T} {ta tb te tc : TE} {d d1 d2 d3 : DX} {r : R2} {e : Env} {σ : L2.St} {τ : List V} {ts : List T}
def dZ (i : Nat) (d : DX) : DX := fun e => match e.sl[i]? with
  | some (.ref j _) => (e.freeze j).bind fun e1 => (d e1).bind fun e2 => e2.thaw j e.fz.length
  | _ => none
def sPar (i j : Nat) (a : DX) : DS := fun e => ((a e).bind fun e1 => (e1.put j).bind fun e2 => e2.put i).map .nx
def enumSl : Nat → List U → List Sl
  | _, [] => []
  | i, u :: us => .val (.node .tup [.leaf (.int (i : Int)), u]) :: enumSl (i + 1) us
def sForE (a : DX) (b : DX) (body : DS) : DS := fun e => (a e).bind fun e1 => e1.top.bind fun p => match p.1 with
  | .val (.node .tup us) => (loopL b body (enumSl 0 us) (p.2.2.pushF (.node .tup us))).bind (outMap fun e => e.popF p.2.2.fz.length)
  | _ => none
def grab (s : Sl) (e : Env) : Option (Rt × Env × (Env → Option Env)) := match s with
  | .ref j π => (e.freeze j).map fun e3 => ((e.fz.length, π), e3, fun e9 => e9.thaw j e.fz.length)
  | .val u => some ((e.fz.length, []), e.pushF u, fun e9 => e9.popF e.fz.length)
  | .fref m π => some ((m, π), e, some)
  | .no => none
theorem grab_is {s : Sl} {v : V} {kd : Kd} {us : List U} {q : Rt} {e3 : Env} {bk : Env → Option Env} (E : EnvAt K fs e σ τ H ts) (hs : SlAt K fs H ts s (some v)) (hl : e.look s = some (.node kd us)) (h : grab s e = some (q, e3, bk)) :
    ∃ (ad ts3 : List T) (tm : T) (a : Addr) (cs : List T), EnvAt K (fs ++ ad) e3 σ τ H ts3 ∧ e3.np = e.np ∧ (fs ++ ad)[q.1]? = some tm ∧ tm.get q.2 = some (.node a kd cs) ∧ T.erL cs = us ∧ v = .ref a ∧
      ∀ {e8 e9 : Env} {σ' : L2.St} {τ' : List V} {H' : Hp}, Goes K (fs ++ ad) e.np H ts3 e8 σ' τ' H' → bk e8 = some e9 → Goes K fs e.np H ts e9 σ' τ' H' := by
  have hfl : fs.length = e.fz.length := by rw [← E.fe, erL_map, List.length_map]
  cases s with
  | no => cases h
  | ref j π =>
    obtain ⟨e3', h4, h5⟩ := Option.map_eq_some_iff.mp h
    obtain ⟨rfl, h51⟩ := Prod.mk.inj h5
    obtain ⟨rfl, rfl⟩ := Prod.mk.inj h51
    obtain ⟨tj, hj, n3, E3⟩ := E.freeze h4
    obtain ⟨t', s', g1, g2, g3⟩ := hs
    rw [hj] at g1
    obtain rfl := Option.some.inj g1
    have l2 : look1 e.st j π = some (.node kd us) := hl
    rw [← E.er] at l2
    obtain ⟨tj2, w, b1, b2, b3, b4⟩ := look1_get l2 E.ho
    rw [hj] at b1
    obtain rfl := Option.some.inj b1
    rw [g2] at b2
    obtain rfl := Option.some.inj b2
    cases s' with
    | leaf v => rw [T.er] at b3; cases b3
    | node a kd' cs =>
      rw [T.er] at b3
      obtain ⟨rfl, rfl⟩ := U.node.inj b3
      exact ⟨[tj], _, tj, a, cs, E3, n3, by rw [← hfl, List.getElem?_append_right (Nat.le_refl _)]; simp, g2, rfl, Option.some.inj g3, fun G hth => EnvAt.thaw E hj hfl.symm G hth⟩
  | val w =>
    obtain ⟨rfl, h5⟩ := Prod.mk.inj (Option.some.inj h)
    obtain ⟨rfl, rfl⟩ := Prod.mk.inj h5
    obtain ⟨t, g1, g2, g3, g4⟩ := hs
    obtain rfl : w = .node kd us := Option.some.inj hl
    cases t with
    | leaf v => rw [T.er] at g2; cases g2
    | node a kd' cs =>
      have hpe := E.pushF g3 g4
      rw [g2] at hpe
      rw [T.er] at g2
      obtain ⟨rfl, rfl⟩ := U.node.inj g2
      exact ⟨[.node a kd' cs], ts, .node a kd' cs, a, cs, hpe, rfl, by rw [← hfl, List.getElem?_append_right (Nat.le_refl _)]; simp, rfl, rfl, Option.some.inj g1, fun G hth => Goes.popF hfl.symm G hth⟩
  | fref m π =>
    obtain ⟨rfl, h5⟩ := Prod.mk.inj (Option.some.inj h)
    obtain ⟨rfl, rfl⟩ := Prod.mk.inj h5
    obtain ⟨t', s', g1, g2, g3⟩ := hs
    have l2 : look1 e.fz m π = some (.node kd us) := hl
    rw [← E.fe] at l2
    obtain ⟨tj2, w, b1, b2, b3, b4⟩ := look1_get l2 E.fh
    rw [g1] at b1
    obtain rfl := Option.some.inj b1
    rw [g2] at b2
    obtain rfl := Option.some.inj b2
    cases s' with
    | leaf v => rw [T.er] at b3; cases b3
    | node a kd' cs =>
      rw [T.er] at b3
      obtain ⟨rfl, rfl⟩ := U.node.inj b3
      exact ⟨[], ts, t', a, cs, by rw [List.append_nil]; exact E, rfl, by rw [List.append_nil]; exact g1, g2, rfl, Option.some.inj g3, fun G hth => by
        obtain rfl := Option.some.inj hth
        rw [List.append_nil] at G
        exact G⟩
def zipSl (us ws : List U) : List Sl := (us.zip ws).map fun p => .val (.node .tup [p.1, p.2])
def zipOk (k k' : Kd) : Bool := (okL k && okL k') || (okT k && okT k')
def dLcZ (vs : List Nat) (a : DX) (b : DX) (t : DT) (x : DX) : DX := fun e => (a e).bind fun e1 => e1.top.bind fun p2 => (grab p2.1 p2.2.2).bind fun q2 => q2.2.1.top.bind fun p1 => (grab p1.1 p1.2.2).bind fun q1 => match p1.2.1, p2.2.1 with
  | .node k1 us1, .node k2 us2 => if zipOk k1 k2 = true ∧ U.immL us1 = true ∧ U.immL us2 = true then (loopC vs b t x (zipSl us1 us2) (q1.2.1.newL vs)).bind fun e5 => (q1.2.2 (e5.wipe vs)).bind q2.2.2 else none
  | _, _ => none
theorem immL_mem {l : List U} {u : U} (hl : U.immL l = true) (hu : u ∈ l) : u.imm = true := by
  induction l with
  | nil => cases hu
  | cons z r ih =>
    rw [U.immL, Bool.and_eq_true] at hl
    rcases List.mem_cons.mp hu with rfl | hu
    · exact hl.1
    · exact ih hl.2 hu
theorem walk_zipT {a b : Addr} {xs ys : List V} {n : Nat} (hn : n = min xs.length ys.length) : Walk (RZ.ItzT K a b) n (fun H => SqT K H a xs ∧ SqT K H b ys) (YPair (fun i => xs[i]?) (fun i => ys[i]?)) := by
  subst hn
  refine ⟨fun i _ hi q => ?_, fun _ q => ⟨xs, ys, q.1, q.2, by omega⟩, fun i H v H' _ q y => ?_⟩
  · have h1 : i < xs.length := by omega
    have h2 : i < ys.length := by omega
    exact ⟨xs, ys, xs[i], ys[i], q.1, q.2, by simp [h1], by simp [h2]⟩
  · obtain ⟨T, x, z, h1, h2, h3, h4, h5⟩ := y
    exact ⟨T, x, z, h1, h2, h3, h4 xs q.1, h5 ys q.2⟩
def tyV : V → Option String
  | .ty n => some n
  | _ => none
def dIsiG : DX := fun e => e.leaf.bind fun y => y.2.top.bind fun p => (tyU p.2.1).bind fun n => (tyV y.1).bind fun m => (kitB n m).map fun b => { p.2.2 with tp := .val (.leaf (.bl b)) :: p.2.2.tp }
def kitBs (n : String) : List V → Option Bool
  | [] => some false
  | v :: vs => (tyV v).bind fun m => (kitB n m).bind fun b => if b = true then some true else kitBs n vs
def allTy : List V → Bool
  | [] => true
  | v :: vs => (tyV v).isSome && allTy vs
def dIsiTq : DX := fun e => e.top.bind fun y => (y.2.1.seq okT).bind fun cs => (leavesU cs).bind fun vs => y.2.2.top.bind fun p => (tyU p.2.1).bind fun n => if allTy vs = true then (kitBs n vs).map fun b => { p.2.2 with tp := .val (.leaf (.bl b)) :: p.2.2.tp } else none
def dGeT : DX := fun e => e.top.bind fun y => y.2.2.top.bind fun x => match x.2.1, y.2.1 with
  | .node .tup [.leaf (.int a), .leaf (.int b)], .node .tup [.leaf (.int c), .leaf (.int d)] => some { x.2.2 with tp := .val (.leaf (.bl (if a = c then decide (d ≤ b) else decide (c ≤ a)))) :: x.2.2.tp }
  | _, _ => none
end
end FB
namespace FB
open PySem PySem.Spec PyProof.Rows L2
section
variable {K : PySem.W.Frag} {H H' : Hp} {fs : List T} {d : DX} {e : Env} {σ : L2.St} {τ : List V} {ts : List T}
def loopD (b : DX) (body : DS) : Nat → DS
  | 0, e => some (.nx e)
  | r + 1, e => match e.tp[r]? with
    | some s => ((b { e with tp := s :: e.tp }).bind body).bind fun o => match o with
      | .nx e1 => loopD b body r e1
      | .ct e1 => loopD b body r e1
      | .bk e1 => some (.nx e1)
      | .rt _ => none
    | none => none
def Env.dropT (n : Nat) (e : Env) : Env := { e with tp := e.tp.drop n }
def sForD (n : Nat) (a : DX) (b : DX) (body : DS) : DS := fun e => (a e).bind fun e1 => (loopD b body n e1).bind fun o => match o with
  | .nx e2 => some (.nx (e2.dropT n))
  | _ => none
theorem EnvAt.dropT {ws : List V} (E : EnvAt K fs e σ (ws ++ τ) H ts) : EnvAt K fs (e.dropT ws.length) σ τ H ts :=
  ⟨E.er, E.ho, E.nd, E.fe, E.fh, E.fd, E.lσ, by
    have := E.lτ
    rw [List.length_append] at this
    show τ.length = (e.tp.drop ws.length).length
    rw [List.length_drop]
    omega, E.sl, fun i s hs => by
    have hs : (e.tp.drop ws.length)[i]? = some s := hs
    rw [List.getElem?_drop] at hs
    obtain ⟨v, h1, h2⟩ := E.tp _ s hs
    rw [List.getElem?_append_right (by omega)] at h1
    exact ⟨v, by rw [← h1]; congr 1; omega, h2⟩⟩
end
end FB
namespace FB
open PySem PySem.Spec PyProof.Rows L2
section
variable {K : PySem.W.Frag} {H H' : Hp} {fs : List T} {d d1 d2 d3 : DX} {ta : TE} {e : Env} {σ : L2.St} {τ : List V} {ts : List T} {bl bu : Bool} {tl tu : TO}
def dSlC (bl bu : Bool) : DX := fun e => (popI bu e).bind fun u => (popI bl u.2).bind fun l => l.2.top.bind fun p => (p.2.1.seq okL).bind fun us => if U.immL (cutU us l.1 u.1) = true then some (p.2.2.new (.node .lst (cutU us l.1 u.1))) else none
def dSlM (bl bu : Bool) : DX := fun e => (popI bu e).bind fun u => (popI bl u.2).bind fun l => (takeTop l.2).bind fun p => (p.1.seq okL).bind fun us => some (p.2.new (.node .lst (cutU us l.1 u.1)))
/-- two new lists, put together -/
def dCatM : DX := fun e => (takeTop e).bind fun p => (takeTop p.2).bind fun q => (q.1.seq ok0).bind fun us => (p.1.seq ok0).bind fun ws => if us.length + ws.length < 100000 then some (q.2.new (.node .lst (us ++ ws))) else none
end
end FB
namespace FB
open PySem PySem.Spec PyProof.Rows L2
section
variable {K : PySem.W.Frag} {H H' : Hp} {fs : List T} {d d1 d2 d3 : DX} {te ta : TE} {e : Env} {σ : L2.St} {τ : List V} {ts : List T}
def dFrz : DX := fun e => (takeTop e).bind fun p => match p.1 with
  | .node .lst us => if U.immL us = true then some { p.2 with tp := .val (.node .fls us) :: p.2.tp } else none
  | _ => none
end
section
variable {K : PySem.W.Frag} {H H' : Hp} {fs : List T} {e : Env} {σ : L2.St} {τ : List V} {ts : List T}
def dCatL : DX := fun e => e.top.bind fun p => p.2.2.top.bind fun q => (q.2.1.seq okL).bind fun us => (p.2.1.seq okL).bind fun ws => if U.immL us = true ∧ U.immL ws = true ∧ us.length + ws.length < 100000 then some (q.2.2.new (.node .lst (us ++ ws))) else none
end
end FB
namespace FB
open PySem PySem.Spec PyProof.Rows L2
section
variable {K : PySem.W.Frag}
@[irreducible] def inDU (u v : U) : Option Bool := (u.dat).bind fun d => (v.dat).bind fun y => match y with
  | .list ds => if SeqAt.shaped d = true ∧ SeqAt.shaped (.list ds) = true then some (ds.any fun z => PyData.eqv z d) else none
  | _ => none
def dInD (neg : Bool) : DX := fun e => e.top.bind fun p => p.2.2.top.bind fun q => (inDU q.2.1 p.2.1).map fun b => { q.2.2 with tp := .val (.leaf (.bl (if neg = true then !b else b))) :: q.2.2.tp }
end
end FB
namespace FB
open PySem PySem.Spec PyProof.Rows L2
section
variable {K : PySem.W.Frag} {H H' : Hp} {fs : List T} {d d1 d2 : DX} {te ta : TE} {e : Env} {σ : L2.St} {τ : List V} {ts : List T}
def dSlS (a c : Nat) : DX := fun e => e.swap.bind fun e0 => (takeTop e0).bind fun p => match p.1, p.2.tp with
  | .node .lst ws, .ref j π :: tp => match look1 p.2.st j π with
    | some (.node .lst us) => if U.immL ws = true ∧ a ≤ c ∧ c ≤ us.length ∧ us.length + ws.length < 100000 then some { p.2 with st := setU p.2.st j π (.node .lst (us.take a ++ ws ++ us.drop c)), sl := p.2.sl.map (kl j π (okN fun _ => false)), tp := tp.map (kl j π (okN fun _ => false)) } else none
    | _ => none
  | _, _ => none
end
end FB
namespace FB
open PySem PySem.Spec PyProof.Rows L2
section
variable {K : PySem.W.Frag}
@[irreducible] def cntU (u v : U) : Option Int := (u.dat).bind fun d => (v.dat).bind fun y => match y with
  | .list ds => if SeqAt.shaped d = true ∧ SeqAt.shaped (.list ds) = true then some (ds.countP fun z => PyData.eqv z d : Nat) else none
  | _ => none
def dCntD : DX := fun e => e.top.bind fun p => p.2.2.top.bind fun q => (cntU p.2.1 q.2.1).map fun b => { q.2.2 with tp := .val (.leaf (.int b)) :: q.2.2.tp }
end
end FB
namespace FB
open PySem PySem.Spec PyProof.Rows L2
section
variable {K : PySem.W.Frag} {H H' : Hp} {fs : List T} {d d1 d2 d3 : DX} {te ta : TE} {e : Env} {σ : L2.St} {τ : List V} {ts : List T}
def dFrzP : DX := fun e => match e.tp with
  | .ref j [] :: tp => match e.st[j]? with
    | some (.node .lst us) => if U.immL us = true then some { e with st := e.st.set j (.node .fls us), tp := .val (.node .fls us) :: tp } else none
    | _ => none
  | _ => none
end
end FB
namespace FB
open PySem PySem.Spec PyProof.Rows L2
section
variable {K : PySem.W.Frag} {H H' : Hp} {fs : List T} {ta tb te tc : TE} {d d1 d2 d3 : DX} {e : Env} {σ : L2.St} {τ : List V} {ts : List T}
def dGet1 : DX := fun e => e.leaf.bind fun y => y.2.top.bind fun p => (keyOf y.1).bind fun k => p.2.1.dic.bind fun c => match ixOf k c.1 with
    | none => some { p.2.2 with tp := .val (.leaf .non) :: p.2.2.tp }
    | some n => (c.2[n]?).map fun u => { p.2.2 with tp := kidS p.1 n u :: p.2.2.tp }
def maxI : List Int → Option Int
  | [] => none
  | x :: r => some (r.foldl max x)
def dMaxL : DX := dLv intsV fun ns => (maxI ns).map V.int
def keysS : List Key → Option (List Str)
  | [] => some []
  | .inr z :: r => (keysS r).map (z :: ·)
  | .inl _ :: _ => none
def dSortD : DX := fun e => e.top.bind fun p => p.2.1.dic.bind fun c => (keysS c.1).bind fun l => if l.length < 64 then some (p.2.2.new (.node .lst ((sortS l).map fun z => .leaf (.str z)))) else none
def dExt : DX := fun e => e.top.bind fun p => match p.2.1 with
  | .node .lst ws => if U.immL ws = true then (match p.2.2.tp with
    | .ref j π :: tp => match look1 p.2.2.st j π with
      | some (.node .lst us) => if us.length + ws.length < 100000 then some { p.2.2 with st := setU p.2.2.st j π (.node .lst (us ++ ws)), tp := .val (.leaf .non) :: tp } else none
      | _ => none
    | _ => none) else none
  | _ => none
theorem rxm_ext : RXm K 1 rExtend dExt := fun fs e σ τ x vs H ts hl E e' h Q q => by
  obtain ⟨v, rfl⟩ : ∃ v, vs = [v] := List.length_eq_one_iff.mp hl
  have E : EnvAt K fs e σ (v :: x :: τ) H ts := E
  obtain ⟨⟨s, u, e1⟩, h1, h⟩ := Option.bind_eq_some_iff.mp h
  obtain ⟨n1, E1, s1, l1⟩ := E.top h1
  obtain ⟨np, fz, st, sl, tp⟩ := e1
  dsimp only at h
  split at h
  · rename_i ws
    split at h
    · rename_i hi
      split at h
      · rename_i j π tp'
        split at h
        · rename_i us hat
          split at h
          · rename_i hlen
            obtain rfl := Option.some.inj h
            obtain ⟨b, cs', rfl, rfl, g2, g3, _⟩ := E1.node s1 l1
            have g2 : H b = some (.lst (cs'.map T.val)) := g2
            have hf : T.footL cs' = [] := immL_foot cs' hi
            obtain ⟨a, cs, rfl, e1, ho, k⟩ := E1.modTop (k' := .lst) (xs := cs') (f := fun _ => true) hat rfl rfl g3 (by rw [hf]; exact E1.nd) (fun b hb => by rw [hf] at hb; cases hb) (fun cs => cs ++ cs') (fun cs x hx => List.mem_append.mp hx) (fun cs b => by rw [footL_append, List.count_append]; omega) (fun cs n x _ hx => by rw [List.getElem?_append_left (List.getElem?_eq_some_iff.mp hx).1]; exact hx)
            have hl2 : (cs.map T.val).length = us.length := by rw [List.length_map, ← e1, erL_map, List.length_map]
            have hl3 : (cs'.map T.val).length = (T.erL cs').length := by rw [List.length_map, erL_map, List.length_map]
            refine ⟨a, b, cs.map T.val, cs'.map T.val, rfl, rfl, ho, g2, by rw [hl2, hl3]; exact Nat.le_of_lt (big hlen), ?_⟩
            obtain ⟨ts2, E2, f2, k2, r2⟩ := k (upd H a (.lst (cs.map T.val ++ cs'.map T.val))) (fun b o hb n => by rw [upd_ne n]; exact hb) (by rw [List.map_append]; exact upd_same)
            rw [map_kl_true, map_kl_true, erL_append, e1] at E2
            refine q .non _ ⟨n1, ts2, E2.push (slat_leaf rfl), fun b hb => .inl ?_, k2.weak fun b hb => hb, by rw [← n1]; exact r2⟩
            have := f2 b hb
            rw [hf] at this
            exact this
          · cases h
        · cases h
      · cases h
    · cases h
  · cases h
def dStar (d1 d2 : DX) : DX := fun e => (d1 e).bind fun e1 => e1.top.bind fun p0 => (p0.2.1.seq okS).bind fun us => (d2 e1).bind fun e3 => e3.top.bind fun p => p.2.2.top.bind fun q => if U.immL us = true ∧ p.2.1.imm = true ∧ us.length < 100000 then some (q.2.2.new (.node .lst (us ++ [p.2.1]))) else none
def asS : V → Option Str
  | .str a => some a
  | _ => none
theorem asS_is {v : V} {a : Str} (h : asS v = some a) : v = .str a := by
  cases v <;> first | (cases h; done) | (obtain rfl := Option.some.inj h; rfl)
def dIsS : DX := fun e => e.leaf.bind fun y => (asS y.1).map fun _ => e
def dJoin : DX := fun e => e.top.bind fun p => (p.2.1.seq okL).bind fun us => (leavesU us).bind fun vs => (strsV vs).bind fun ys => p.2.2.leaf.bind fun y => (asS y.1).bind fun a => if (ys.map (·.length)).sum + ys.length * a.length ≤ 16777216 then some { y.2 with tp := .val (.leaf (.str (Txt.join a ys))) :: y.2.tp } else none
theorem ex_join {to : TE} (ho : EX K to d1) (he : EX K te d2) : EX K (tM1 (fun x xs H Q => ∃ a p, ∃ ys : List Str, x = .str a ∧ xs = [.ref p] ∧ (SqL K H p (ys.map V.str) ∨ SqT K H p (ys.map V.str)) ∧
      (ys.map (·.length)).sum + ys.length * a.length ≤ 16777216 ∧ Q (.str (Txt.join a ys)) H) to te) (dseq d1 (dseq dIsS (dseq d2 dJoin))) := fun fs e σ τ H ts E e' h Q q => by
  obtain ⟨e1, h1, h⟩ := Option.bind_eq_some_iff.mp h
  obtain ⟨e2, h2, h⟩ := Option.bind_eq_some_iff.mp h
  obtain ⟨e3, h3, h7⟩ := Option.bind_eq_some_iff.mp h
  refine ho fs e σ τ H ts E e1 h1 _ fun x H1 G1 => ?_
  obtain ⟨n1, ts1, E1, f1, k1, r1⟩ := G1
  obtain ⟨⟨y0, e0⟩, a1, a2⟩ := Option.bind_eq_some_iff.mp h2
  obtain ⟨z0, a3, rfl⟩ := Option.map_eq_some_iff.mp a2
  obtain ⟨_, _, rfl, _⟩ := E1.leaf a1
  refine ⟨⟨z0, asS_is a3⟩, he fs e1 σ _ H1 ts1 E1 e3 h3 _ fun v H2 G2 => ?_⟩
  obtain ⟨n2, ts2, E2, f2, k2, r2⟩ := G2
  unfold dJoin at h7
  obtain ⟨⟨s1, u1, e5⟩, b1, h7⟩ := Option.bind_eq_some_iff.mp h7
  obtain ⟨us, b2, h7⟩ := Option.bind_eq_some_iff.mp h7
  obtain ⟨vs, b3, h7⟩ := Option.bind_eq_some_iff.mp h7
  obtain ⟨ys, b4, h7⟩ := Option.bind_eq_some_iff.mp h7
  obtain ⟨⟨y, e6⟩, b5, h7⟩ := Option.bind_eq_some_iff.mp h7
  obtain ⟨a, b6, h9⟩ := Option.bind_eq_some_iff.mp h7
  obtain ⟨m1, E5, w1, l1⟩ := E2.top b1
  obtain ⟨m2, E6, rfl, _⟩ := E5.leaf b5
  obtain ⟨p, k, cs, rfl, hk, rfl, g2, g3, _⟩ := E5.seq w1 l1 b2
  have g2 := obj_sql g2 hk
  rw [leaves_val b3, strs_is b4] at g2
  split at h9
  · rename_i hi
    obtain rfl := Option.some.inj h9
    exact ⟨a, p, ys, asS_is b6, rfl, .inl g2, hi, q _ _ (Goes.to n1 f1 k1 r1 (Goes.to n2 f2 k2 r2 ⟨m2.trans m1, ts2, E6.push (slat_leaf rfl), fun _ h => .inl h, Kp.refl _ _, Rv.refl _ _⟩))⟩
  · cases h9
end
end FB
namespace FB
open PySem PySem.Spec PyProof.Rows L2
section
variable {K : PySem.W.Frag} {H H' : Hp} {fs : List T} {ta tb te tc : TE} {d d1 d2 d3 : DX} {e : Env} {σ : L2.St} {τ : List V} {ts : List T}
def dSetd : DX := fun e => (takeTop e).bind fun p => p.2.leaf.bind fun y => (keyOf y.1).bind fun k => match y.2.tp with
  | .ref j π :: tp => match look1 y.2.st j π with
    | some (.node (.dic ks) us) => if us.length < 100000 then (match ixOf k ks with
      | some n => (us[n]?).map fun w => { y.2 with tp := kidS (.ref j π) n w :: tp }
      | none => some { y.2 with st := setU y.2.st j π (.node (.dic (ks ++ [k])) (us ++ [p.1])), tp := kidS (.ref j π) us.length p.1 :: tp }) else none
    | _ => none
  | _ => none
def dPop2 : DX := fun e => match e.tp with
  | sz :: tp => (Env.leaf { e with tp := tp }).bind fun y => (keyOf y.1).bind fun k => match y.2.tp with
    | .ref j π :: tp => match look1 y.2.st j π with
      | some (.node (.dic ks) us) => match ixOf k ks with
        | none => some { y.2 with tp := sz :: tp }
        | some n => (us[n]?).bind fun w => if w.imm = true then some { y.2 with st := setU y.2.st j π (.node (.dic (ks.eraseIdx n)) (us.eraseIdx n)), sl := y.2.sl.map (kl j π (okN fun m => decide (m < n))), tp := .val w :: tp.map (kl j π (okN fun m => decide (m < n))) } else none
      | _ => none
    | _ => none
  | [] => none
end
end FB
namespace FB
open PySem PySem.Spec PyProof.Rows L2
section
variable {K : PySem.W.Frag} {H H' : Hp} {fs : List T} {te ta tb tc : TE} {d d1 d2 d3 : DX} {e : Env} {σ : L2.St} {τ : List V} {ts : List T}
/-- .. and the j-th tree stays as it is -/
def GoesJ (K : PySem.W.Frag) (fs : List T) (np : Nat) (H : Hp) (ts : List T) (e' : Env) (σ' : L2.St) (τ' : List V) (H' : Hp) (j : Nat) : Prop := e'.np = np ∧ ∃ ts', EnvAt K fs e' σ' τ' H' ts' ∧ (∀ b ∈ T.footL ts', b ∈ T.footL ts ∨ H b = none) ∧ Kp (fun b => b ∈ T.footL ts) H H' ∧ Rv np ts ts' ∧ ts'[j]? = ts[j]? ∧ ∀ tj, ts[j]? = some tj → ∀ b ∈ tj.foot, ∀ o, H b = some o → H' b = some o
theorem GoesJ.goes {np j : Nat} {e' : Env} {σ' : L2.St} {τ' : List V} (G : GoesJ K fs np H ts e' σ' τ' H' j) : Goes K fs np H ts e' σ' τ' H' := by
  obtain ⟨n, ts', E, f, k, r, _⟩ := G
  exact ⟨n, ts', E, f, k, r⟩
def dLkL (j : Nat) (X : DX) : List (List Nat) → DX
  | [] => fun e => (e.freeze j).bind fun e3 => (X e3).bind fun e5 => e5.thaw j e.fz.length
  | π :: r => fun e => (lockAt e j π).bind fun e2 => (dLkL j X r e2).bind fun e3 => unlockAt e3 j π
def sLkL (j : Nat) (X : DS) : List (List Nat) → DS
  | [] => fun e => (e.freeze j).bind fun e3 => (X e3).bind (outMap fun e5 => e5.thaw j e.fz.length)
  | π :: r => fun e => (lockAt e j π).bind fun e2 => (sLkL j X r e2).bind (outMap fun e3 => unlockAt e3 j π)
/-- the dicts in a dict -/
def dicKids (π : List Nat) : Nat → List U → List (List Nat)
  | _, [] => []
  | i, .node (.dic _) _ :: r => (π ++ [i]) :: dicKids π (i + 1) r
  | i, _ :: r => dicKids π (i + 1) r
def lkPaths (π : List Nat) (us : List U) : List (List Nat) := dicKids π 0 us ++ [π]
def dLk (a X : DX) : DX := fun e => (a e).bind fun e1 => match e1.tp with
  | .ref j π :: _ => match look1 e.st j π with
    | some (.node (.dic _) us) => dLkL j X (lkPaths π us) e
    | _ => none
  | _ => none
def sLk (a : DX) (X : DS) : DS := fun e => (a e).bind fun e1 => match e1.tp with
  | .ref j π :: _ => match look1 e.st j π with
    | some (.node (.dic _) us) => sLkL j X (lkPaths π us) e
    | _ => none
  | _ => none
end
end FB
namespace FB
open PySem PySem.Spec PyProof.Rows L2
section
variable {K : PySem.W.Frag} {H H' : Hp} {fs : List T} {te ta tb tc : TE} {d d1 d2 d3 : DX} {e : Env} {σ : L2.St} {τ : List V} {ts : List T}
theorem EnvAt.fdi {m : Nat} {π : List Nat} {x : V} {ks : List Key} {us : List U} (E : EnvAt K fs e σ τ H ts) (hs : SlAt K fs H ts (.fref m π) (some x)) (hl : e.look (.fref m π) = some (.node (.fdi ks) us)) : ∃ tm a cs od, fs[m]? = some tm ∧ tm.get π = some (.node a (.fdi ks) cs) ∧ T.erL cs = us ∧ x = .ref a ∧ ks.length = (cs.map T.val).length ∧ H a = some (.frz od (.dK (ks.zip (cs.map T.val)))) ∧ a ∈ T.footL fs := by
  obtain ⟨t', s', g1, g2, g3⟩ := hs
  have l2 : look1 e.fz m π = some (.node (.fdi ks) us) := hl
  rw [← E.fe] at l2
  obtain ⟨tj2, w, b1, b2, b3, b4⟩ := look1_get l2 E.fh
  rw [g1] at b1
  obtain rfl := Option.some.inj b1
  rw [g2] at b2
  obtain rfl := Option.some.inj b2
  cases s' with
  | leaf v => rw [T.er] at b3; cases b3
  | node a kd' cs =>
    rw [T.er] at b3
    obtain ⟨rfl, rfl⟩ := U.node.inj b3
    rw [Holds] at b4
    obtain ⟨⟨⟨_, hl⟩, od, hH⟩, _⟩ := b4
    refine ⟨t', a, cs, od, g1, g2, rfl, Option.some.inj g3, hl, hH, ?_⟩
    obtain ⟨L, R, z1, _⟩ := footL_split g1
    rw [z1]
    simp only [List.mem_append]
    exact .inl (.inr (foot_get g2 a (by rw [T.foot, if_pos (by rfl)]; exact List.mem_cons_self)))
def keySl (ks : List Key) : List Sl := ks.map fun k => .val (.leaf (kV k))
/-- for k in d -/
def sForK (a b : DX) (body : DS) : DS := fun e => (a e).bind fun e1 => e1.top.bind fun p => match p.1, p.2.1 with
  | .fref _ _, .node (.fdi ks) _ => loopL b body (keySl ks) p.2.2
  | _, _ => none
/-- [.. for k in d if ..] -/
def dLcK (vs : List Nat) (a : DX) (b : DX) (t : DT) (x : DX) : DX := fun e => (a e).bind fun e1 => e1.top.bind fun p => match p.1, p.2.1 with
  | .fref _ _, .node (.fdi ks) _ => (loopC vs b t x (keySl ks) (p.2.2.newL vs)).map fun e => e.wipe vs
  | _, _ => none
/-- any, all (.. for k in d) -/
def dGenK (st : Bool) (P : Addr) (vs : List Nat) (a : DX) (b : DX) (x : DX) : DX := fun e => (a e).bind fun e1 => e1.top.bind fun p => if p.2.2.fz.any (isTab P) = true then (match p.1, p.2.1 with
  | .fref _ _, .node (.fdi ks) _ => (loopG st vs b x (keySl ks) (p.2.2.wipe vs)).map fun e => e.wipe vs
  | _, _ => none) else none
/-- [.. for k, v in d.items() if ..], values that cannot change, the dict held fast already -/
def dLcJ (vs : List Nat) (a : DX) (b : DX) (t : DT) (x : DX) : DX := fun e => (a e).bind fun e1 => e1.top.bind fun p => match p.1, p.2.1 with
  | .fref _ _, .node (.fdi ks) us => if U.immL us = true then (loopC vs b t x (itemsSl ks us) (p.2.2.newL vs)).map fun e => e.wipe vs else none
  | _, _ => none
def loopP (b : DX) (body : DS) : List (List Sl) → DS
  | [], e => some (.nx e)
  | s :: r, e => ((b { e with tp := s ++ e.tp }).bind body).bind fun o => match o with
    | .nx e1 => loopP b body r e1
    | .ct e1 => loopP b body r e1
    | .bk e1 => some (.nx e1)
    | .rt e1 => some (.rt e1)
def pairSl (m : Nat) (π : List Nat) : Nat → List Key → List U → List (List Sl)
  | i, k :: ks, u :: us => [.val (.leaf (kV k)), kidS (.fref m π) i u] :: pairSl m π (i + 1) ks us
  | _, _, _ => []
def sForP (a b : DX) (body : DS) : DS := fun e => (a e).bind fun e1 => e1.top.bind fun p => match p.1, p.2.1 with
  | .fref m π, .node (.fdi ks) us => loopP b body (pairSl m π 0 ks us) p.2.2
  | _, _ => none
end
end FB
namespace FB
open PySem PySem.Spec PyProof.Rows L2
section
variable {K : PySem.W.Frag} {H H' : Hp} {fs : List T} {te ta tb tc tk tv : TE} {d d1 d2 d3 : DX} {e : Env} {σ : L2.St} {τ : List V} {ts : List T}
def dLcKn (vs : List Nat) (a : DX) (b : DX) (t : DT) (x : DX) : DX := fun e => (a e).bind fun e1 => (takeTop e1).bind fun p => match p.1 with
  | .node (.dic ks) us => if U.immL us = true then (loopC vs b t x (keySl ks) (p.2.newL vs)).map fun e => e.wipe vs else none
  | _ => none
def setAllSl : List Sl → List Nat → List U → List Sl
  | sl, i :: is, u :: us => setAllSl (sl.set i (.val u)) is us
  | sl, _, _ => sl
def mCase (k : Str) (is : List Nat) (b m : DS) : DS := fun e => match e.tp with
  | .val (.node .tup (.leaf (.str z) :: us)) :: tp => if us.length = is.length ∧ z = k then b { e with sl := setAllSl e.sl is us, tp := tp } else m e
  | _ => none
def dAddK : DX := fun e => (takeTop e).bind fun p => p.2.leaf.bind fun y => (keyOf y.1).bind fun k => match y.2.tp with
  | .ref j π :: tp => match look1 y.2.st j π with
    | some (.node (.dic ks) us) => if us.length < 100000 ∧ ixOf k ks = none then some { y.2 with st := setU y.2.st j π (.node (.dic (ks ++ [k])) (us ++ [p.1])) } else none
    | _ => none
  | _ => none
def loopDC (vs : List Nat) (b : DX) (t : DT) (xk xv : DX) : List Sl → DX
  | [], e => some e
  | s :: r, e => (b { e with tp := s :: e.tp }).bind fun e1 => (t e1).bind fun p => if p.1 = true then (xk p.2).bind fun e2 => (xv e2).bind fun e3 => (dAddK e3).bind fun e4 => loopDC vs b t xk xv r (e4.wipe vs) else loopDC vs b t xk xv r (p.2.wipe vs)
def Env.newD (e : Env) (vs : List Nat) : Env := ({ e with sl := wipeSl e.sl vs } : Env).new (.node (.dic []) [])
theorem EnvAt.newD {D : Addr} (E : EnvAt K fs e σ τ H ts) (vs : List Nat) (nD : H D = none) : Goes K fs e.np H ts (e.newD vs) (L2.wipe σ vs) (.ref D :: τ) (upd H D (.dK [])) := by
  obtain ⟨E1, f1, r1⟩ := (E.wipe vs).newF (k := .dic []) (cs := []) nD (same_new nD) ⟨⟨List.nodup_nil, rfl⟩, upd_same⟩ trivial (by rw [T.footL]; exact E.nd) (fun b hb => by rw [T.footL] at hb; cases hb)
  refine ⟨rfl, _, E1, fun b hb => ?_, fun b o hb _ => same_new nD b o hb, r1⟩
  rcases f1 b hb with h | h
  · rw [T.footL] at h
    exact .inl h
  · exact .inr h
def dDcJ (vs : List Nat) (a : DX) (b : DX) (t : DT) (xk xv : DX) : DX := fun e => (a e).bind fun e1 => e1.top.bind fun p => match p.1, p.2.1 with
  | .fref _ _, .node (.fdi ks) us => if U.immL us = true then (loopDC vs b t xk xv (itemsSl ks us) (p.2.2.newD vs)).map fun e => e.wipe vs else none
  | _, _ => none
end
end FB
namespace FB
open PySem PySem.Spec PyProof.Rows L2
section
variable {K : PySem.W.Frag} {H H' : Hp} {fs : List T} {e : Env} {σ : L2.St} {τ : List V} {ts : List T}
def keysI : List Key → Option (List Int)
  | [] => some []
  | .inl z :: r => (keysI r).map (z :: ·)
  | .inr _ :: _ => none
def U.dic1 : U → Option (List Key × List U)
  | .node (.dic ks) us => some (ks, us)
  | _ => none
def dMaxD : DX := fun e => e.top.bind fun p => p.2.1.dic1.bind fun c => (keysI c.1).bind fun ns => (leavesU c.2).bind fun vs => (intsV vs).bind fun _ => (maxI ns).map fun m => { p.2.2 with tp := .val (.leaf (.int m)) :: p.2.2.tp }
end
end FB
namespace FB
open PySem PySem.Spec PyProof.Rows L2
section
variable {K : PySem.W.Frag}
@[irreducible] def remIx (u v : U) : Option Nat := (u.dat).bind fun d => (v.dat).bind fun y => match y with
  | .list ds => if SeqAt.shaped d = true ∧ SeqAt.shaped (.list ds) = true then ds.findIdx? (fun y => PyData.eqv y d) else none
  | _ => none
def dRem : DX := fun e => e.top.bind fun p => match p.2.2.tp with
  | .ref j π :: tp => match look1 p.2.2.st j π with
    | some (.node .lst us) => (remIx p.2.1 (.node .lst us)).map fun i => { p.2.2 with st := setU p.2.2.st j π (.node .lst (us.eraseIdx i)), sl := p.2.2.sl.map (kl j π (okN fun m => decide (m < i))), tp := .val (.leaf .non) :: tp.map (kl j π (okN fun m => decide (m < i))) }
    | _ => none
  | _ => none
end
end FB
namespace FB
open PySem PySem.Spec PyProof.Rows L2
section
variable {K : PySem.W.Frag} {H H' : Hp} {fs : List T} {te : TE} {d : DX} {e : Env} {σ : L2.St} {τ : List V} {ts : List T}
def dS3 (f : V → V → V → Option V) : DX := fun e => match e.tp with
  | .val (.leaf z) :: .val (.leaf y) :: .val (.leaf x) :: tp => (f x y z).map fun w => { e with tp := .val (.leaf w) :: tp }
  | _ => none
def fMaxS3 : V → V → V → Option V
  | .str i, .str j, .str k => some (.str (maxS (maxS i j) k))
  | _, _, _ => none
theorem rxn_maxS3 : RXn K 3 (fun xs H Q => ∃ i j k, xs = [.str i, .str j, .str k] ∧ Q (.str (maxS (maxS i j) k)) H) (dS3 fMaxS3) := fun fs e σ τ vs H ts hl E e' h Q q => by
  obtain ⟨x, y, z, rfl⟩ : ∃ x y z, vs = [x, y, z] := by
    match vs, hl with
    | [x, y, z], _ => exact ⟨x, y, z, rfl⟩
  have E : EnvAt K fs e σ (z :: y :: x :: τ) H ts := E
  obtain ⟨np, fz, st, sl, tp⟩ := e
  unfold dS3 at h
  split at h
  · rename_i z' y' x' tp' htp
    obtain rfl : tp = _ := htp
    obtain ⟨w, hw, rfl⟩ := Option.map_eq_some_iff.mp h
    obtain ⟨E1, s1⟩ := E.pop
    obtain ⟨E2, s2⟩ := E1.pop
    obtain ⟨E3, s3⟩ := E2.pop
    obtain ⟨rfl, _⟩ := leaf_slat s1
    obtain ⟨rfl, _⟩ := leaf_slat s2
    obtain ⟨rfl, _⟩ := leaf_slat s3
    unfold fMaxS3 at hw
    split at hw
    · obtain rfl := Option.some.inj hw
      exact ⟨_, _, _, rfl, q _ H ⟨rfl, ts, E3.push (slat_leaf rfl), fun _ h => .inl h, Kp.refl _ _, Rv.refl _ _⟩⟩
    · cases hw
  · cases h
def truN : U → Option Bool
  | .node .lst us => some (!us.isEmpty)
  | .node .fls us => some (!us.isEmpty)
  | .node .tup us => some (!us.isEmpty)
  | .node (.dic ks) _ => some (!ks.isEmpty)
  | _ => none
def tTru (a : DX) : DT := fun e => (a e).bind fun e1 => e1.top.bind fun p => (truN p.2.1).map fun b => (b, p.2.2)
theorem tx_tru (ha : EX K te d) : TX K (fun σ H Q => te σ H fun x H' => ∃ k, TruV K x H' k ∧ Q k H') (tTru d) := fun fs e σ τ H ts E b e' h Q q => by
  obtain ⟨e1, h1, h⟩ := Option.bind_eq_some_iff.mp h
  obtain ⟨⟨s, u, e2⟩, h2, h⟩ := Option.bind_eq_some_iff.mp h
  obtain ⟨b', h3, h4⟩ := Option.map_eq_some_iff.mp h
  obtain ⟨rfl, rfl⟩ := Prod.mk.inj h4
  refine ha fs e σ τ H ts E e1 h1 _ fun x H1 g1 => ?_
  obtain ⟨n1, ts1, E1, f1, k1, r1⟩ := g1
  obtain ⟨n2, E2, s2, l2⟩ := E1.top h2
  refine ⟨b', ?_, q H1 (Goes.to n1 f1 k1 r1 ⟨n2, ts1, E2, fun _ h => .inl h, Kp.refl _ _, Rv.refl _ _⟩)⟩
  obtain ⟨t, rfl, rfl, g1⟩ := E2.tree s2 l2
  cases t with
  | leaf v => rw [T.er] at h3; cases h3
  | node a k cs =>
    rw [T.er] at h3
    rw [Holds] at g1
    have he : (T.erL cs).isEmpty = (cs.map T.val).isEmpty := by
      rw [erL_map]
      cases cs <;> rfl
    cases k with
    | lst =>
      obtain rfl := Option.some.inj h3
      exact .inl ⟨_, obj_sql g1.1 (by decide), by rw [he]⟩
    | fls =>
      obtain rfl := Option.some.inj h3
      exact .inl ⟨_, obj_sql g1.1 (by decide), by rw [he]⟩
    | tup =>
      obtain rfl := Option.some.inj h3
      exact .inr (.inl ⟨_, g1.1, by rw [he]⟩)
    | dic ks =>
      obtain rfl := Option.some.inj h3
      obtain ⟨⟨⟨_, hl⟩, ho⟩, _⟩ := g1
      refine .inr (.inr ⟨_, ho, ?_⟩)
      cases ks with
      | nil => rfl
      | cons x r =>
        cases hv : cs.map T.val with
        | nil => rw [hv] at hl; cases hl
        | cons y z => rfl
    | fdi ks => cases h3
    | dit ks => cases h3
    | tul => cases h3
    | fdt ks => cases h3
    | ins C gs => cases h3
    | tab P => cases h3
end
end FB
namespace FB
open PySem PySem.Spec PyProof.Rows L2
section
variable {K : PySem.W.Frag} {te : TE} {d : DX}
/-- an expression, and what nobody asks for any more is dropped -/
def dGc (d : DX) : DX := fun e => (d e).map fun e1 => e1.clean []
end
end FB
namespace FB
open PySem PySem.Spec PyProof.Rows L2
section
variable {K : PySem.W.Frag} {H H' : Hp} {fs : List T} {te ta tb tc : TE} {d d1 d2 d3 : DX} {e : Env} {σ : L2.St} {τ : List V} {ts : List T}
def keyT : U → Option (List Key)
  | .node .tul us => leafKs us
  | _ => none
def keyU (k : List Key) : U := .node .tul (k.map fun q => .leaf (kV q))
theorem leaf_vals : ∀ {cs : List T} {k : List Key}, T.erL cs = k.map (fun q => U.leaf (kV q)) → cs.map T.val = k.map kV
  | [], [], _ => rfl
  | [], _ :: _, h => by rw [T.erL] at h; cases h
  | _ :: _, [], h => by rw [T.erL] at h; cases h
  | c :: cs, q :: k, h => by
    rw [T.erL, List.map_cons] at h
    obtain ⟨h1, h2⟩ := List.cons.inj h
    rw [List.map_cons, List.map_cons, leaf_vals h2]
    cases c with
    | leaf v => rw [T.er] at h1; rw [U.leaf.inj h1]; rfl
    | node a kd us => rw [T.er] at h1; cases h1
theorem EnvAt.key {s : Sl} {v : V} {u : U} {k : List Key} (E : EnvAt K fs e σ τ H ts) (hs : SlAt K fs H ts s (some v)) (hl : e.look s = some u) (hk : keyT u = some k) : ∃ b, v = .ref b ∧ H b = some (.tup (k.map kV)) := by
  unfold keyT at hk
  split at hk
  · rename_i us
    obtain ⟨a, cs, rfl, he, ho, _⟩ := E.node hs hl
    rw [leafKs_is hk] at he
    refine ⟨a, rfl, ?_⟩
    rw [← leaf_vals he]
    exact ho
  · cases hk
def dDicT : DX := dNode (.dit []) 0
def U.dicT : U → Option (List (List Key) × List U)
  | .node (.dit ks) us => some (ks, us)
  | .node (.fdt ks) us => some (ks, us)
  | _ => none
theorem EnvAt.dicT {s : Sl} {v : V} {u : U} {ks : List (List Key)} {us : List U} (E : EnvAt K fs e σ τ H ts) (hs : SlAt K fs H ts s (some v)) (hl : e.look s = some u) (h : u.dicT = some (ks, us)) : ∃ a cs, v = .ref a ∧ T.erL cs = us ∧ Rd H a (.dT (ks.zip (cs.map T.val))) ∧ ks.Nodup ∧ ks.length = (cs.map T.val).length ∧ HoldsL K H cs ∧ ∀ (n : Nat) (c : T), cs[n]? = some c → SlAt K fs H ts (kidS s n c.er) (some c.val) := by
  unfold U.dicT at h
  split at h
  · obtain ⟨rfl, rfl⟩ := Prod.mk.inj (Option.some.inj h)
    obtain ⟨a, cs, g1, g2, ⟨g3, g4⟩, g5, g6⟩ := E.node hs hl
    exact ⟨a, cs, g1, g2, .inl g4, g3.1, g3.2, g5, g6⟩
  · obtain ⟨rfl, rfl⟩ := Prod.mk.inj (Option.some.inj h)
    obtain ⟨a, cs, g1, g2, ⟨g3, od, g4⟩, g5, g6⟩ := E.node hs hl
    exact ⟨a, cs, g1, g2, .inr ⟨od, g4⟩, g3.1, g3.2, g5, g6⟩
  · cases h
def dDGetT : DX := fun e => e.top.bind fun y => (keyT y.2.1).bind fun k => y.2.2.top.bind fun p => p.2.1.dicT.bind fun c => (ixOf k c.1).bind fun n => (c.2[n]?).map fun u => { p.2.2 with tp := kidS p.1 n u :: p.2.2.tp }
/-- the value first, then the dict, then the key are at hand -/
def dPutT : DX := fun e => e.rot.bind fun e0 => (takeTop e0).bind fun p => p.2.top.bind fun y => (keyT y.2.1).bind fun k => match y.2.2.tp with
  | .ref j π :: tp => match look1 y.2.2.st j π with
    | some (.node (.dit ks) us) => if us.length < 100000 then (match ixOf k ks with
      | some n => some { y.2.2 with st := setU y.2.2.st j π (.node (.dit ks) (us.set n p.1)), sl := y.2.2.sl.map (kl j π (okN (· != n))), tp := tp.map (kl j π (okN (· != n))) }
      | none => some { y.2.2 with st := setU y.2.2.st j π (.node (.dit (ks ++ [k])) (us ++ [p.1])), tp := tp }) else none
    | _ => none
  | _ => none
def dChkT : DX := fun e => e.top.bind fun p => match p.2.1 with
  | .node (.dit _) _ => some e
  | _ => none
def dSetdT : DX := fun e => e.leaf.bind fun z => z.2.top.bind fun y => (keyT y.2.1).bind fun k => match y.2.2.tp with
  | .ref j π :: tp => match look1 y.2.2.st j π with
    | some (.node (.dit ks) us) => if us.length < 100000 then (match ixOf k ks with
      | some n => (us[n]?).map fun w => { y.2.2 with tp := kidS (.ref j π) n w :: tp }
      | none => some { y.2.2 with st := setU y.2.2.st j π (.node (.dit (ks ++ [k])) (us ++ [.leaf z.1])), tp := .val (.leaf z.1) :: tp }) else none
    | _ => none
  | _ => none
end
end FB
namespace FB
open PySem PySem.Spec PyProof.Rows L2
section
variable {K : PySem.W.Frag} {H H' : Hp} {fs : List T} {te ta tb tc : TE} {d d1 d2 d3 : DX} {e : Env} {σ : L2.St} {τ : List V} {ts : List T}
def lockAtT (e : Env) (j : Nat) (π : List Nat) : Option Env := match look1 e.st j π with
  | some (.node (.dit ks) us) => some { e with st := setU e.st j π (.node (.fdt ks) us) }
  | _ => none
def unlockAtT (e : Env) (j : Nat) (π : List Nat) : Option Env := match look1 e.st j π with
  | some (.node (.fdt ks) us) => some { e with st := setU e.st j π (.node (.dit ks) us) }
  | _ => none
def dLkT (a X : DX) : DX := fun e => (a e).bind fun e1 => match e1.tp with
  | .ref j π :: _ => (lockAtT e j π).bind fun e2 => (e2.freeze j).bind fun e3 => (X e3).bind fun e5 => (e5.thaw j e2.fz.length).bind fun e6 => unlockAtT e6 j π
  | _ => none
def keySlT (ks : List (List Key)) : List Sl := ks.map fun k => .val (keyU k)
theorem EnvAt.fdt {m : Nat} {π : List Nat} {x : V} {ks : List (List Key)} {us : List U} (E : EnvAt K fs e σ τ H ts) (hs : SlAt K fs H ts (.fref m π) (some x)) (hl : e.look (.fref m π) = some (.node (.fdt ks) us)) : ∃ tm a cs od, fs[m]? = some tm ∧ tm.get π = some (.node a (.fdt ks) cs) ∧ T.erL cs = us ∧ x = .ref a ∧ ks.length = (cs.map T.val).length ∧ H a = some (.frz od (.dT (ks.zip (cs.map T.val)))) ∧ a ∈ T.footL fs := by
  obtain ⟨t', s', g1, g2, g3⟩ := hs
  have l2 : look1 e.fz m π = some (.node (.fdt ks) us) := hl
  rw [← E.fe] at l2
  obtain ⟨tj2, w, b1, b2, b3, b4⟩ := look1_get l2 E.fh
  rw [g1] at b1
  obtain rfl := Option.some.inj b1
  rw [g2] at b2
  obtain rfl := Option.some.inj b2
  cases s' with
  | leaf v => rw [T.er] at b3; cases b3
  | node a kd' cs =>
    rw [T.er] at b3
    obtain ⟨rfl, rfl⟩ := U.node.inj b3
    rw [Holds] at b4
    obtain ⟨⟨⟨_, hl⟩, od, hH⟩, _⟩ := b4
    refine ⟨t', a, cs, od, g1, g2, rfl, Option.some.inj g3, hl, hH, ?_⟩
    obtain ⟨L, R, z1, _⟩ := footL_split g1
    rw [z1]
    simp only [List.mem_append]
    exact .inl (.inr (foot_get g2 a (by rw [T.foot, if_pos (by rfl)]; exact List.mem_cons_self)))
/-- [.. for k in d if ..] -/
def dLcKT (vs : List Nat) (a : DX) (b : DX) (t : DT) (x : DX) : DX := fun e => (a e).bind fun e1 => e1.top.bind fun p => match p.1, p.2.1 with
  | .fref _ _, .node (.fdt ks) _ => (loopC vs b t x (keySlT ks) (p.2.2.newL vs)).map fun e => e.wipe vs
  | _, _ => none
end
end FB
namespace FB
open PySem PySem.Spec PyProof.Rows L2
section
variable {K : PySem.W.Frag} {H H' : Hp} {fs : List T} {ta tb te tc : TE} {d d1 d2 d3 : DX} {e : Env} {σ : L2.St} {τ : List V} {ts : List T}
def pairKs (ks vs : List Key) : List (List Key) := (ks.zip vs).map fun q => [q.1, q.2]
def dSortI : DX := fun e => e.top.bind fun p => p.2.1.dic.bind fun c => (leafKs c.2).bind fun vs => if alike (pairKs c.1 vs) = true then some (p.2.2.new (.node .lst ((sortK (pairKs c.1 vs)).map tupU))) else none
end
end FB
namespace FB
open PySem PySem.Spec PyProof.Rows L2
section
variable {K : PySem.W.Frag} {H H' : Hp} {fs : List T} {ta tb te tc : TE} {d d1 d2 d3 : DX} {e : Env} {σ : L2.St} {τ : List V} {ts : List T}
def sortKs (l : List Key) : List Key := l.mergeSort fun a b => !klt b a
def sameKind : List Key → Bool
  | [] => true
  | k :: ks => ks.all fun q => isI q == isI k
def leafU (k : Key) : U := .leaf (kV k)
def dSortA : DX := fun e => e.top.bind fun p => (p.2.1.seq okL).bind fun us => (leafKs us).bind fun l => if sameKind l = true then some (p.2.2.new (.node .lst ((sortKs l).map leafU))) else none
def dSortDA : DX := fun e => e.top.bind fun p => p.2.1.dic.bind fun c => if sameKind c.1 = true then some (p.2.2.new (.node .lst ((sortKs c.1).map leafU))) else none
end
end FB
namespace FB
open PySem PySem.Spec PyProof.Rows L2
section
variable {K : PySem.W.Frag} {H H' : Hp} {fs : List T} {te ta tb tc : TE} {d d1 d2 d3 : DX} {e : Env} {σ : L2.St} {τ : List V} {ts : List T}
def lockLs (e : Env) (j : Nat) (π : List Nat) : Option Env := match look1 e.st j π with
  | some (.node .lst us) => if U.immL us = true then some { e with st := setU e.st j π (.node .fls us) } else none
  | _ => none
def frzN : Nat → Env → Option Env
  | 0, e => some e
  | n + 1, e => (e.freeze n).bind (frzN n)
/-- the list at a place below what a slot refers to -/
def lockLD (e : Env) (j : Nat) (π : List Nat) : Option Env := match look1 e.st j π with
  | some (.node (.dic _) _) => lockAt e j π
  | _ => lockLs e j π
def lockSl (e : Env) (i : Nat) (π : List Nat) : Option Env := match e.sl[i]? with
  | some (.ref j κ) => lockLD e j (κ ++ π)
  | _ => none
def regL : List (Nat × List Nat) → Env → Option Env
  | [], e => frzN e.st.length e
  | q :: r, e => (lockSl e q.1 q.2).bind (regL r)
/-- a reading that tells a value, in such a region -/
def scalOut (e : Env) : Option V := match e.tp with
  | .val (.leaf v) :: _ => some v
  | _ => none
def dReg (l : List (Nat × List Nat)) (X : DX) : DX := fun e => (regL l e).bind fun e1 => (X e1).bind fun e2 => (scalOut e2).map fun v => { e with tp := .val (.leaf v) :: e.tp }
def rtOut : Out → Option V
  | .rt e => scalOut e
  | _ => none
/-- the rest of a def, which tells a value, in such a region -/
def sReg (l : List (Nat × List Nat)) (X : DS) : DS := fun e => (regL l e).bind fun e1 => (X e1).bind fun o => (rtOut o).map fun v => .rt { e with tp := .val (.leaf v) :: e.tp }
/-- what cannot change is taken for a value -/
def dVal : DX := fun e => match e.top with
  | some (_, u, e1) => if u.imm = true then some { e1 with tp := .val u :: e1.tp } else none
  | none => none
end
end FB
namespace FB
open PySem PySem.Spec PyProof.Rows L2
section
variable {K : PySem.W.Frag} {H H' : Hp} {fs : List T} {te ta tb tc : TE} {d d1 d2 d3 : DX} {e : Env} {σ : L2.St} {τ : List V} {ts : List T}
def dEqNil (neg : Bool) : DX := fun e => e.top.bind fun p => (p.2.1.seq okL).bind fun vs => p.2.2.top.bind fun q => (q.2.1.seq okL).bind fun us => if vs.isEmpty = true then some { q.2.2 with tp := .val (.leaf (.bl (us.isEmpty != neg))) :: q.2.2.tp } else none
end
end FB
namespace FB
open PySem PySem.Spec PyProof.Rows L2
section
variable {K : PySem.W.Frag} {H H' : Hp} {fs : List T} {d : DX} {te : TE} {e : Env} {σ : L2.St} {τ : List V} {ts : List T}
def refsN (m : Nat) : Nat → List Sl
  | 0 => []
  | n + 1 => .ref (m + n) [] :: refsN m n
def unpk (n : Nat) : DX := fun e => (takeTop e).bind fun p => match p.1 with
  | .node .lst us => if us.length = n then some { p.2 with st := p.2.st ++ us, tp := refsN p.2.st.length n ++ p.2.tp } else none
  | _ => none
def sForU (n : Nat) (a : DX) (b : DX) (body : DS) : DS := fun e => (a e).bind fun e0 => (unpk n e0).bind fun e1 => (loopD b body n e1).bind fun o => match o with
  | .nx e2 => some (.nx (e2.dropT n))
  | _ => none
end
end FB
namespace FB
open PySem PySem.Spec PyProof.Rows L2
def mput {α : Type} (p : List Key × List α) (q : Key × α) : List Key × List α := match ixOf q.1 p.1 with
  | some n => (p.1, p.2.set n q.2)
  | none => (p.1 ++ [q.1], p.2 ++ [q.2])
def mergeL {α : Type} (p : List Key × List α) (l : List (Key × α)) : List Key × List α := l.foldl mput p
section
variable {K : PySem.W.Frag} {H H' : Hp} {fs : List T} {te ta tb tc : TE} {tu : TS} {d d1 d2 d3 : DX} {X : DS} {e : Env} {σ : L2.St} {τ : List V} {ts : List T}
def dChkM : DX := fun e => e.top.bind fun p => match p.2.1 with
  | .node (.dic _) _ => some e
  | _ => none
def dUpd : DX := fun e => (takeTop e).bind fun p => match p.1 with
  | .node (.dic ks2) us2 => match p.2.tp with
    | .ref j π :: tp => match look1 p.2.st j π with
      | some (.node (.dic ks) us) => if us.length + us2.length < 100000 then some { p.2 with st := setU p.2.st j π (.node (.dic (mergeL (ks, us) (ks2.zip us2)).1) (mergeL (ks, us) (ks2.zip us2)).2), sl := p.2.sl.map (kl j π (okN fun _ => false)), tp := .val (.leaf .non) :: tp.map (kl j π (okN fun _ => false)) } else none
      | _ => none
    | _ => none
  | _ => none
def sLkG (a : DX) (X : DS) : DS := fun e => (a e).bind fun e1 => match e1.tp with
  | .fref _ _ :: _ => X e
  | _ => sLk a X e
end
end FB
namespace FB
open PySem PySem.Spec PyProof.Rows L2
section
variable {K : PySem.W.Frag} {H H' : Hp} {fs : List T} {te ta tb tc : TE} {tu : TS} {d d1 d2 d3 : DX} {e : Env} {σ : L2.St} {τ : List V} {ts : List T}
def sForZ (a : DX) (b : DX) (body : DS) : DS := fun e => (a e).bind fun e1 => e1.top.bind fun p2 => (grab p2.1 p2.2.2).bind fun q2 => q2.2.1.top.bind fun p1 => (grab p1.1 p1.2.2).bind fun q1 => match p1.2.1, p2.2.1 with
  | .node k1 us1, .node k2 us2 => if zipOk k1 k2 = true ∧ U.immL us1 = true ∧ U.immL us2 = true then (loopL b body (zipSl us1 us2) q1.2.1).bind (outMap fun e => (q1.2.2 e).bind q2.2.2) else none
  | _, _ => none
theorem sx_forZ {tv : TA} {g : TG} {b : DX} {body : DS} (ha : AX K 2 tv d) (hg : GX K g b) (hb : SX K tu body) : SX K (tFor (RZ.iZipA K tv) g tu) (sForZ d b body) := fun fs e σ τ H ts E o h D k => by
  obtain ⟨e1, h1, h⟩ := Option.bind_eq_some_iff.mp h
  obtain ⟨⟨s2, u2, e2⟩, h2, h⟩ := Option.bind_eq_some_iff.mp h
  obtain ⟨⟨r2, e3, bk2⟩, h3, h⟩ := Option.bind_eq_some_iff.mp h
  obtain ⟨⟨s1, u1, e4⟩, h4, h⟩ := Option.bind_eq_some_iff.mp h
  obtain ⟨⟨r1, e5, bk1⟩, h5, h⟩ := Option.bind_eq_some_iff.mp h
  refine ha fs e σ τ H ts E e1 h1 _ fun ws H1 hl g1 => ?_
  obtain ⟨n1, ts1, E1, f1, k1, rv1⟩ := g1
  obtain ⟨x, y, rfl⟩ : ∃ x y, ws = [x, y] := by
    match ws, hl with
    | [x, y], _ => exact ⟨x, y, rfl⟩
  have E1 : EnvAt K fs e1 σ (y :: x :: τ) H1 ts1 := E1
  obtain ⟨n2, E2, z2, l2⟩ := E1.top h2
  have kk := k.from f1 k1 rv1
  dsimp only at h h3 h4 h5
  split at h
  · rename_i k1' us1 k2' us2 _ _ _
    split at h
    · rename_i hc
      obtain ⟨hz, i1, i2⟩ := hc
      obtain ⟨o1, h6, h7⟩ := Option.bind_eq_some_iff.mp h
      obtain ⟨ad2, ts2, tm2, b2, cs2, E3, n3, a1, a2, a3, a4, back2⟩ := grab_is E2 z2 l2 h3
      obtain ⟨n4, E4, z1, l1⟩ := E3.top h4
      obtain ⟨ad1, ts3, tm1, b1, cs1, E5, n5, c1, c2, c3, c4, back1⟩ := grab_is E4 z1 l1 h5
      subst a4 c4 a3 c3
      have np5 : e5.np = e.np := by rw [n5, n4, n3, n2, n1]
      have e42 : e4.np = e.np := by rw [n4, n3, n2, n1]
      have e22 : e2.np = e.np := by rw [n2, n1]
      rw [e42] at back1
      rw [e22] at back2
      have P1 := outMap_post (fs' := (fs ++ ad2) ++ ad1) (ts0 := ts3) h7 kk fun {e8 e9 σ' τ' H'} G hth => by
        obtain ⟨e6, q1, q2⟩ := Option.bind_eq_some_iff.mp hth
        exact back2 (back1 G q1) q2
      have hold : ∀ {e9 : Env} {σ9 : L2.St} {τ9 : List V} {H9 : Hp} {ts9 : List T}, EnvAt K ((fs ++ ad2) ++ ad1) e9 σ9 τ9 H9 ts9 → (IsObj K H9 b1 k1' (cs1.map T.val) ∧ HoldsL K H9 cs1) ∧ IsObj K H9 b2 k2' (cs2.map T.val) ∧ HoldsL K H9 cs2 := fun E9 => by
        have w1 := get_holds c2 ((holdsL_iff _).mp E9.fh tm1 (List.mem_of_getElem? c1))
        have w2 := get_holds a2 ((holdsL_iff _).mp E9.fh tm2 (List.mem_append_left _ (List.mem_of_getElem? a1)))
        rw [Holds] at w1 w2
        exact ⟨w1, w2⟩
      have hlen : (zipSl (T.erL cs1) (T.erL cs2)).length = min (cs1.map T.val).length (cs2.map T.val).length := by
        unfold zipSl
        rw [List.length_map, List.length_zip, erL_map, erL_map, List.length_map, List.length_map, List.length_map, List.length_map]
      have G0 : Goes K ((fs ++ ad2) ++ ad1) e.np H1 ts3 e5 σ τ H1 := by
        have := Goes.refl E5
        rw [np5] at this
        exact this
      have Pv0 : ∃ e9, Goes K ((fs ++ ad2) ++ ad1) e.np H1 ts3 e9 σ τ H1 ∧ loopL b body ((zipSl (T.erL cs1) (T.erL cs2)).drop 0) e9 = some o1 := ⟨_, G0, h6⟩
      have turn : ∀ (i : Nat) (x : V) (σ' : L2.St) (H3 H4 : Hp), (∃ e9, Goes K ((fs ++ ad2) ++ ad1) e.np H1 ts3 e9 σ' τ H3 ∧ loopL b body ((zipSl (T.erL cs1) (T.erL cs2)).drop i) e9 = some o1) → YPair (fun i => (cs1.map T.val)[i]?) (fun i => (cs2.map T.val)[i]?) i H3 x H4 →
          g x σ' H4 fun σ2 H2 => tu { D with nx := fun σ3 H3 => ∃ e9, Goes K ((fs ++ ad2) ++ ad1) e.np H1 ts3 e9 σ3 τ H3 ∧ loopL b body ((zipSl (T.erL cs1) (T.erL cs2)).drop (i + 1)) e9 = some o1, ct := fun σ3 H3 => ∃ e9, Goes K ((fs ++ ad2) ++ ad1) e.np H1 ts3 e9 σ3 τ H3 ∧ loopL b body ((zipSl (T.erL cs1) (T.erL cs2)).drop (i + 1)) e9 = some o1, bk := D.nx } σ2 H2 := by
        intro i x σ' H3 H4 hp hy
        obtain ⟨e9, ⟨n9, ts9, E9, f9, k9, r9⟩, h9⟩ := hp
        obtain ⟨Tp, x1, y1, rfl, nT, rfl, hx1, hy1⟩ := hy
        have hx1 : (cs1.map T.val)[i]? = some x1 := hx1
        have hy1 : (cs2.map T.val)[i]? = some y1 := hy1
        rw [List.getElem?_map] at hx1 hy1
        obtain ⟨p1, hp1, rfl⟩ := Option.map_eq_some_iff.mp hx1
        obtain ⟨p2, hp2, rfl⟩ := Option.map_eq_some_iff.mp hy1
        have hu1 : (T.erL cs1)[i]? = some p1.er := by rw [erL_map, List.getElem?_map, hp1]; rfl
        have hu2 : (T.erL cs2)[i]? = some p2.er := by rw [erL_map, List.getElem?_map, hp2]; rfl
        refine loop_turn hg hb P1 (s := .val (.node .tup [p1.er, p2.er])) ?_ ⟨n9, ts9, E9.same (same_new nT), f9, fun b o hb hn => same_new nT b o (k9 b o hb hn), r9⟩ (fun ts1 E1 => ?_) h9
        · unfold zipSl
          rw [List.getElem?_map, List.getElem?_zip_eq_some.mpr (⟨hu1, hu2⟩ : (T.erL cs1)[i]? = some (p1.er, p2.er).1 ∧ (T.erL cs2)[i]? = some (p1.er, p2.er).2)]
          rfl
        · obtain ⟨⟨_, q1⟩, _, q2⟩ := hold E1
          have hh1 := (holdsL_iff cs1).mp q1 p1 (List.mem_of_getElem? hp1)
          have hh2 := (holdsL_iff cs2).mp q2 p2 (List.mem_of_getElem? hp2)
          refine ⟨.node Tp .tup [p1, p2], rfl, ?_, ?_, ?_⟩
          · rw [T.er, T.erL, T.erL, T.erL]
          · rw [Holds, HoldsL, HoldsL, HoldsL]
            exact ⟨.inl (.inl upd_same), hh1, hh2, trivial⟩
          · rw [T.foot, if_neg (by decide), T.footL, T.footL, T.footL, imm_foot p1 (immL_mem i1 (List.mem_of_getElem? hu1)), imm_foot p2 (immL_mem i2 (List.mem_of_getElem? hu2))]
            rfl
      have fin : ∀ (σ' : L2.St) (H3 : Hp), (∃ e9, Goes K ((fs ++ ad2) ++ ad1) e.np H1 ts3 e9 σ' τ H3 ∧ loopL b body ((zipSl (T.erL cs1) (T.erL cs2)).drop (min (cs1.map T.val).length (cs2.map T.val).length)) e9 = some o1) → D.nx σ' H3 := by
        rintro σ' H3 ⟨e9, G9, h9⟩
        rw [List.drop_eq_nil_of_le (by rw [hlen]; exact Nat.le_refl _), loopL] at h9
        obtain rfl := Option.some.inj h9
        exact P1 σ' H3 G9
      have hG : ∀ (i : Nat) (σ' : L2.St) (H3 : Hp), (∃ e9, Goes K ((fs ++ ad2) ++ ad1) e.np H1 ts3 e9 σ' τ H3 ∧ loopL b body ((zipSl (T.erL cs1) (T.erL cs2)).drop i) e9 = some o1) → IsObj K H3 b1 k1' (cs1.map T.val) ∧ IsObj K H3 b2 k2' (cs2.map T.val) := by
        rintro i σ' H3 ⟨e9, ⟨_, ts9, E9, _⟩, _⟩
        exact ⟨(hold E9).1.1, (hold E9).2.1⟩
      unfold zipOk at hz
      rw [Bool.or_eq_true, Bool.and_eq_true, Bool.and_eq_true] at hz
      rcases hz with ⟨y1, y2⟩ | ⟨y1, y2⟩
      · exact ⟨b1, b2, cs1.map T.val, cs2.map T.val, rfl, .inl ⟨obj_sql (hold E5).1.1 y1, obj_sql (hold E5).2.1 y2, for_it (walk_zip rfl) (fun i σ' H3 => ∃ e9, Goes K ((fs ++ ad2) ++ ad1) e.np H1 ts3 e9 σ' τ H3 ∧ loopL b body ((zipSl (T.erL cs1) (T.erL cs2)).drop i) e9 = some o1) Pv0 (fun i σ' H3 _ hp => ⟨obj_sql (hG i σ' H3 hp).1 y1, obj_sql (hG i σ' H3 hp).2 y2⟩) (fun i x σ' H3 H4 _ hp hy => turn i x σ' H3 H4 hp hy) fin⟩⟩
      · exact ⟨b1, b2, cs1.map T.val, cs2.map T.val, rfl, .inr ⟨obj_sqt (hold E5).1.1 y1, obj_sqt (hold E5).2.1 y2, for_it (walk_zipT rfl) (fun i σ' H3 => ∃ e9, Goes K ((fs ++ ad2) ++ ad1) e.np H1 ts3 e9 σ' τ H3 ∧ loopL b body ((zipSl (T.erL cs1) (T.erL cs2)).drop i) e9 = some o1) Pv0 (fun i σ' H3 _ hp => ⟨obj_sqt (hG i σ' H3 hp).1 y1, obj_sqt (hG i σ' H3 hp).2 y2⟩) (fun i x σ' H3 H4 _ hp hy => turn i x σ' H3 H4 hp hy) fin⟩⟩
    · cases h
  · cases h
def sForV (a : DX) (b : DX) (body : DS) : DS := fun e => (a e).bind fun e1 => e1.top.bind fun p => (grab p.1 p.2.2).bind fun q => match p.2.1 with
  | .node k us => if okL k = true ∧ U.immL us = true then (loopL b body (us.reverse.map .val) q.2.1).bind (outMap fun e => q.2.2 e) else none
  | _ => none
theorem sx_forV {g : TG} {b : DX} {body : DS} (ha : EX K te d) (hg : GX K g b) (hb : SX K tu body) : SX K (tFor (RT.iRevA K te) g tu) (sForV d b body) := fun fs e σ τ H ts E o h D k => by
  obtain ⟨e1, h1, h⟩ := Option.bind_eq_some_iff.mp h
  obtain ⟨⟨s2, u2, e2⟩, h2, h⟩ := Option.bind_eq_some_iff.mp h
  obtain ⟨⟨r2, e3, bk2⟩, h3, h⟩ := Option.bind_eq_some_iff.mp h
  refine ha fs e σ τ H ts E e1 h1 _ fun x H1 g1 => ?_
  obtain ⟨n1, ts1, E1, f1, k1, rv1⟩ := g1
  obtain ⟨n2, E2, z2, l2⟩ := E1.top h2
  have kk := k.from f1 k1 rv1
  dsimp only at h h3
  split at h
  · rename_i k2' us2 _
    split at h
    · rename_i hc
      obtain ⟨hz, i2⟩ := hc
      obtain ⟨o1, h6, h7⟩ := Option.bind_eq_some_iff.mp h
      obtain ⟨ad2, ts2, tm2, b2, cs2, E3, n3, a1, a2, a3, a4, back2⟩ := grab_is E2 z2 l2 h3
      subst a4 a3
      have e22 : e2.np = e.np := by rw [n2, n1]
      have np3 : e3.np = e.np := by rw [n3, e22]
      rw [e22] at back2
      have P1 := outMap_post (fs' := fs ++ ad2) (ts0 := ts2) h7 kk fun {e8 e9 σ' τ' H'} G hth => back2 G hth
      have hold : ∀ {e9 : Env} {σ9 : L2.St} {τ9 : List V} {H9 : Hp} {ts9 : List T}, EnvAt K (fs ++ ad2) e9 σ9 τ9 H9 ts9 → IsObj K H9 b2 k2' (cs2.map T.val) ∧ HoldsL K H9 cs2 := fun E9 => by
        have w2 := get_holds a2 ((holdsL_iff _).mp E9.fh tm2 (List.mem_of_getElem? a1))
        rw [Holds] at w2
        exact w2
      have hlen : ((T.erL cs2).reverse.map Sl.val).length = (cs2.map T.val).length := by
        rw [List.length_map, List.length_reverse, erL_map, List.length_map, List.length_map]
      have G0 : Goes K (fs ++ ad2) e.np H1 ts2 e3 σ τ H1 := by
        have := Goes.refl E3
        rw [np3] at this
        exact this
      refine ⟨b2, cs2.map T.val, rfl, .inl ⟨obj_sql (hold E3).1 hz, RT.for_Itv (fun i σ' H3 => ∃ e9, Goes K (fs ++ ad2) e.np H1 ts2 e9 σ' τ H3 ∧ loopL b body (((T.erL cs2).reverse.map Sl.val).drop i) e9 = some o1) ⟨_, G0, h6⟩ (fun i σ' H3 hp => ?_) (fun i x σ' H3 hi hx hp => ?_) (fun σ' H3 hp => ?_)⟩⟩
      · obtain ⟨e9, ⟨_, ts9, E9, _⟩, _⟩ := hp
        exact obj_sql (hold E9).1 hz
      · obtain ⟨e9, G9, h9⟩ := hp
        rw [List.getElem?_map] at hx
        obtain ⟨p2, hp2, rfl⟩ := Option.map_eq_some_iff.mp hx
        rw [List.length_map] at hp2 hi
        have hu2 : (T.erL cs2)[cs2.length - 1 - i]? = some p2.er := by rw [erL_map, List.getElem?_map, hp2]; rfl
        refine loop_turn hg hb P1 (s := .val p2.er) ?_ G9 (fun ts1 E1 => ?_) h9
        · rw [List.getElem?_map, List.getElem?_reverse (by rw [erL_map, List.length_map]; exact hi), erL_map, List.length_map, ← erL_map, hu2]
          rfl
        · obtain ⟨_, q2⟩ := hold E1
          exact ⟨p2, rfl, rfl, (holdsL_iff cs2).mp q2 p2 (List.mem_of_getElem? hp2), imm_foot p2 (immL_mem i2 (List.mem_of_getElem? hu2))⟩
      · obtain ⟨e9, G9, h9⟩ := hp
        rw [List.drop_eq_nil_of_le (by rw [hlen]; exact Nat.le_refl _), loopL] at h9
        obtain rfl := Option.some.inj h9
        exact P1 σ' H3 G9
    · cases h
  · cases h
end
end FB
namespace FB
open PySem PySem.Spec PyProof.Rows L2
section
variable {α β : Type}
def nth : List α → Nat → Option α
  | [], _ => none
  | x :: _, 0 => some x
  | _ :: l, n + 1 => nth l n
theorem nth_eq : ∀ (l : List α) (n : Nat), nth l n = l[n]?
  | [], n => by rw [nth]; simp
  | x :: l, 0 => rfl
  | x :: l, n + 1 => by rw [nth, nth_eq l n]; simp
def setK : List α → Nat → α → (List α → Prop) → Prop
  | [], _, _, K => K []
  | _ :: l, 0, a, K => K (a :: l)
  | x :: l, n + 1, a, K => setK l n a fun l' => K (x :: l')
theorem setK_iff : ∀ (l : List α) (n : Nat) (a : α) (K : List α → Prop), setK l n a K ↔ K (l.set n a)
  | [], n, a, K => by rw [setK]; simp
  | x :: l, 0, a, K => by rw [setK]; simp
  | x :: l, n + 1, a, K => by rw [setK, setK_iff]; simp
def eraseK : List α → Nat → (List α → Prop) → Prop
  | [], _, K => K []
  | _ :: l, 0, K => K l
  | x :: l, n + 1, K => eraseK l n fun l' => K (x :: l')
theorem eraseK_iff : ∀ (l : List α) (n : Nat) (K : List α → Prop), eraseK l n K ↔ K (l.eraseIdx n)
  | [], n, K => by rw [eraseK]; simp
  | x :: l, 0, K => by rw [eraseK]; simp
  | x :: l, n + 1, K => by rw [eraseK, eraseK_iff]; simp
def natK (n : Nat) (K : Nat → Prop) : Prop := match n with
  | 0 => K 0 | 1 => K 1 | 2 => K 2 | 3 => K 3 | 4 => K 4 | 5 => K 5 | 6 => K 6 | 7 => K 7 | n + 8 => K (n + 8)
theorem natK_iff (n : Nat) (K : Nat → Prop) : natK n K ↔ K n := by
  unfold natK
  split <;> exact Iff.rfl
def snocK : List α → α → (List α → Prop) → Prop
  | [], a, K => K [a]
  | x :: l, a, K => snocK l a fun l' => K (x :: l')
theorem snocK_iff : ∀ (l : List α) (a : α) (K : List α → Prop), snocK l a K ↔ K (l ++ [a])
  | [], a, K => by rw [snocK]; rfl
  | x :: l, a, K => by rw [snocK, snocK_iff]; rfl
def appK : List α → List α → (List α → Prop) → Prop
  | [], m, K => K m
  | x :: l, m, K => appK l m fun l' => K (x :: l')
theorem appK_iff : ∀ (l m : List α) (K : List α → Prop), appK l m K ↔ K (l ++ m)
  | [], m, K => by rw [appK]; rfl
  | x :: l, m, K => by rw [appK, appK_iff]; rfl
def optE (o : Option α) (K : α → Prop) : Prop := match o with
  | some x => K x
  | none => False
theorem optE_is {o : Option α} {K : α → Prop} (h : optE o K) : ∃ x, o = some x ∧ K x := by
  cases o with
  | none => exact h.elim
  | some x => exact ⟨x, rfl, h⟩
end
/-- where the way parts -/
structure bif' (t : Bool) (A B : Prop) : Prop where
  h : if t = true then A else B
theorem bif_true {A B : Prop} (h : A) : bif' true A B := ⟨by rw [if_pos rfl]; exact h⟩
theorem bif_false {A B : Prop} (h : B) : bif' false A B := ⟨by rw [if_neg (by decide)]; exact h⟩
theorem bif_case {t : Bool} {A B : Prop} (ha : t = true → A) (hb : t = false → B) : bif' t A B := by
  cases t
  · exact bif_false (hb rfl)
  · exact bif_true (ha rfl)
theorem bif_t {t : Bool} {A B : Prop} (h : t = true) (ha : A) : bif' t A B := by subst h; exact bif_true ha
theorem bif_f {t : Bool} {A B : Prop} (h : t = false) (ha : B) : bif' t A B := by subst h; exact bif_false ha
theorem bif_is {t : Bool} {A B : Prop} (h : bif' t A B) : (t = true ∧ A) ∨ (t = false ∧ B) := by
  have h := h.h
  cases t
  · rw [if_neg (by decide)] at h; exact .inr ⟨rfl, h⟩
  · rw [if_pos rfl] at h; exact .inl ⟨rfl, h⟩
/-- what must be so -/
structure need (c A : Prop) : Prop where
  h : c ∧ A
theorem need_mk {c A : Prop} (h : c) (k : A) : need c A := ⟨by exact ⟨h, k⟩⟩
theorem need_is {c A : Prop} (h : need c A) : c ∧ A := h.h
/-- what must be there -/
structure optW {α : Type} (o : Option α) (K : α → Prop) : Prop where
  h : ∃ x, o = some x ∧ K x
theorem optW_mk {α : Type} {o : Option α} {x : α} {K : α → Prop} (h : o = some x) (k : K x) : optW o K := ⟨by exact ⟨x, h, k⟩⟩
theorem optW_some {α : Type} {x : α} {K : α → Prop} (k : K x) : optW (some x) K := optW_mk rfl k
theorem optW_is {α : Type} {o : Option α} {K : α → Prop} (h : optW o K) : ∃ x, o = some x ∧ K x := h.h
/-- a call -/
structure callW (F : Fn) (fz st : List U) (args : List Sl) (K : Sl → List U → Prop) : Prop where
  h : ∃ r st', F fz st args = some (r, st') ∧ K r st'
theorem callW_mk {F : Fn} {fz st : List U} {args : List Sl} {K : Sl → List U → Prop} {r : Sl} {st' : List U} (h : F fz st args = some (r, st')) (k : K r st') : callW F fz st args K := ⟨by exact ⟨r, st', h, k⟩⟩
theorem callW_is {F : Fn} {fz st : List U} {args : List Sl} {K : Sl → List U → Prop} (h : callW F fz st args K) : ∃ r st', F fz st args = some (r, st') ∧ K r st' := h.h
/-- a loop -/
structure loopW (b : DX) (body : DS) (its : List Sl) (e : Env) (K : Out → Prop) : Prop where
  h : ∃ o, loopL b body its e = some o ∧ K o
theorem loopW_mk {b : DX} {body : DS} {its : List Sl} {e : Env} {K : Out → Prop} {o : Out} (h : loopL b body its e = some o) (k : K o) : loopW b body its e K := ⟨by exact ⟨o, h, k⟩⟩
theorem loopW_is {b : DX} {body : DS} {its : List Sl} {e : Env} {K : Out → Prop} (h : loopW b body its e K) : ∃ o, loopL b body its e = some o ∧ K o := h.h
structure lcW (vs : List Nat) (b : DX) (t : DT) (x : DX) (its : List Sl) (e : Env) (K : Env → Prop) : Prop where
  h : ∃ e', loopC vs b t x its e = some e' ∧ K e'
theorem lcW_mk {vs : List Nat} {b : DX} {t : DT} {x : DX} {its : List Sl} {e e' : Env} {K : Env → Prop} (h : loopC vs b t x its e = some e') (k : K e') : lcW vs b t x its e K := ⟨by exact ⟨e', h, k⟩⟩
theorem lcW_is {vs : List Nat} {b : DX} {t : DT} {x : DX} {its : List Sl} {e : Env} {K : Env → Prop} (h : lcW vs b t x its e K) : ∃ e', loopC vs b t x its e = some e' ∧ K e' := h.h
structure genW (s : Bool) (vs : List Nat) (b : DX) (x : DX) (its : List Sl) (e : Env) (K : Env → Prop) : Prop where
  h : ∃ e', loopG s vs b x its e = some e' ∧ K e'
theorem genW_mk {s : Bool} {vs : List Nat} {b : DX} {x : DX} {its : List Sl} {e e' : Env} {K : Env → Prop} (h : loopG s vs b x its e = some e') (k : K e') : genW s vs b x its e K := ⟨by exact ⟨e', h, k⟩⟩
theorem genW_is {s : Bool} {vs : List Nat} {b : DX} {x : DX} {its : List Sl} {e : Env} {K : Env → Prop} (h : genW s vs b x its e K) : ∃ e', loopG s vs b x its e = some e' ∧ K e' := h.h
class Imm (u : U) : Prop where
  h : u.imm = true
class ImmL (us : List U) : Prop where
  h : U.immL us = true
instance (v : V) : Imm (.leaf v) := ⟨by rw [U.imm]⟩
instance : ImmL [] := ⟨by rw [U.immL]⟩
instance (u : U) (us : List U) [a : Imm u] [b : ImmL us] : ImmL (u :: us) := ⟨by rw [U.immL, a.h, b.h]; rfl⟩
instance (us : List U) [a : ImmL us] : Imm (.node .tup us) := ⟨by rw [U.imm, a.h]; rfl⟩
theorem bif_imm {u : U} {A B : Prop} [i : Imm u] (h : A) : bif' u.imm A B := bif_t i.h h
theorem bif_immL {us : List U} {A B : Prop} [i : ImmL us] (h : A) : bif' (U.immL us) A B := bif_t i.h h
def pathK : List Nat → (List Nat → Prop) → Prop
  | [], K => K []
  | n :: π, K => pathK π fun π' => K (n :: π')
theorem pathK_iff : ∀ (π : List Nat) (K : List Nat → Prop), pathK π K ↔ K π
  | [], K => by rw [pathK]
  | n :: π, K => by rw [pathK, pathK_iff]
def slK (s : Sl) (K : Sl → Prop) : Prop := match s with
  | .no => K .no
  | .val u => K (.val u)
  | .ref j π => natK j fun j' => pathK π fun π' => K (.ref j' π')
  | .fref j π => pathK π fun π' => K (.fref j π')
theorem slK_iff (s : Sl) (K : Sl → Prop) : slK s K ↔ K s := by
  cases s with
  | no => exact Iff.rfl
  | val u => exact Iff.rfl
  | ref j π => unfold slK; simp only [natK_iff, pathK_iff]
  | fref j π => unfold slK; simp only [pathK_iff]
def slsK (f : Sl → Sl) : List Sl → (List Sl → Prop) → Prop
  | [], K => K []
  | s :: l, K => slK (f s) fun s' => slsK f l fun l' => K (s' :: l')
theorem slsK_iff (f : Sl → Sl) : ∀ (l : List Sl) (K : List Sl → Prop), slsK f l K ↔ K (l.map f)
  | [], K => by rw [slsK]; rfl
  | s :: l, K => by rw [slsK, slK_iff, slsK_iff]; rfl
/-- below the second place lists may be unknown: there one stops -/
structure setW (us : List U) (n : Nat) (u : U) (K : List U → Prop) : Prop where
  h : K (us.set n u)
def getK2 : List Nat → U → (U → Prop) → Prop
  | [], u, K => K u
  | n :: π, .node _ us, K => optW (nth us n) fun u => getK2 π u K
  | _ :: _, .leaf _, _ => False
theorem getK2_is : ∀ {π : List Nat} {u : U} {K : U → Prop}, getK2 π u K → ∃ w, u.get π = some w ∧ K w
  | [], u, K, h => ⟨u, by rw [U.get], by rw [getK2] at h; exact h⟩
  | n :: π, .node k us, K, h => by
    rw [getK2] at h
    obtain ⟨w, h1, h2⟩ := optW_is h
    obtain ⟨x, h3, h4⟩ := getK2_is h2
    rw [nth_eq] at h1
    exact ⟨x, by rw [U.get, U.kid, h1]; exact h3, h4⟩
  | _ :: _, .leaf _, _, h => by rw [getK2] at h; exact h.elim
def putK2 : List Nat → U → U → (U → Prop) → Prop
  | [], _, w, K => K w
  | n :: π, .node k us, w, K => optW (nth us n) fun u => putK2 π u w fun u' => setW us n u' fun us' => K (.node k us')
  | _ :: _, .leaf _, _, _ => False
theorem putK2_is : ∀ {π : List Nat} {u w : U} {K : U → Prop}, putK2 π u w K → K (u.put π w)
  | [], u, w, K, h => by rw [putK2] at h; rw [U.put]; exact h
  | n :: π, .node k us, w, K, h => by
    rw [putK2] at h
    obtain ⟨x, h1, h2⟩ := optW_is h
    have h3 := putK2_is h2
    have h3 := h3.h
    rw [nth_eq] at h1
    rw [U.put, h1]
    exact h3
  | _ :: _, .leaf _, _, _, h => by rw [putK2] at h; exact h.elim
def getK : List Nat → U → (U → Prop) → Prop
  | [], u, K => K u
  | n :: π, .node _ us, K => optE (nth us n) fun w => getK2 π w K
  | _ :: _, .leaf _, _ => False
theorem getK_is : ∀ {π : List Nat} {u : U} {K : U → Prop}, getK π u K → ∃ w, u.get π = some w ∧ K w
  | [], u, K, h => ⟨u, by rw [U.get], by rw [getK] at h; exact h⟩
  | n :: π, .node k us, K, h => by
    rw [getK] at h
    obtain ⟨w, h1, h2⟩ := optE_is h
    obtain ⟨x, h3, h4⟩ := getK2_is h2
    rw [nth_eq] at h1
    exact ⟨x, by rw [U.get, U.kid, h1]; exact h3, h4⟩
  | _ :: _, .leaf _, _, h => by rw [getK] at h; exact h.elim
def putK : List Nat → U → U → (U → Prop) → Prop
  | [], _, w, K => K w
  | n :: π, .node k us, w, K => optE (nth us n) fun u => putK2 π u w fun u' => setK us n u' fun us' => K (.node k us')
  | _ :: _, .leaf _, _, _ => False
theorem putK_is : ∀ {π : List Nat} {u w : U} {K : U → Prop}, putK π u w K → K (u.put π w)
  | [], u, w, K, h => by rw [putK] at h; rw [U.put]; exact h
  | n :: π, .node k us, w, K, h => by
    rw [putK] at h
    obtain ⟨x, h1, h2⟩ := optE_is h
    have h3 := putK2_is h2
    rw [setK_iff] at h3
    rw [nth_eq] at h1
    rw [U.put, h1]
    exact h3
  | _ :: _, .leaf _, _, _, h => by rw [putK] at h; exact h.elim
def setUK (st : List U) (j : Nat) (π : List Nat) (w : U) (K : List U → Prop) : Prop := optE (nth st j) fun u => putK π u w fun u' => setK st j u' K
theorem setUK_is {st : List U} {j : Nat} {π : List Nat} {w : U} {K : List U → Prop} (h : setUK st j π w K) : K (setU st j π w) := by
  unfold setUK at h
  obtain ⟨u, h1, h2⟩ := optE_is h
  have h3 := putK_is h2
  rw [setK_iff] at h3
  rw [nth_eq] at h1
  unfold setU
  rw [h1]
  exact h3
def look1K (st : List U) (j : Nat) (π : List Nat) (K : U → Prop) : Prop := optE (nth st j) fun u => getK π u K
theorem look1K_is {st : List U} {j : Nat} {π : List Nat} {K : U → Prop} (h : look1K st j π K) : ∃ u, look1 st j π = some u ∧ K u := by
  unfold look1K at h
  obtain ⟨u, h1, h2⟩ := optE_is h
  obtain ⟨w, h3, h4⟩ := getK_is h2
  rw [nth_eq] at h1
  exact ⟨w, by unfold look1; rw [h1]; exact h3, h4⟩
def lookK (fz st : List U) : Sl → (U → Prop) → Prop
  | .val u, K => K u
  | .ref j π, K => look1K st j π K
  | .fref j π, K => optW (look1 fz j π) K
  | .no, _ => False
theorem lookK_is {e : Env} {s : Sl} {K : U → Prop} (h : lookK e.fz e.st s K) : ∃ u, e.look s = some u ∧ K u := by
  cases s with
  | no => exact h.elim
  | val u => exact ⟨u, rfl, h⟩
  | ref j π => exact look1K_is h
  | fref j π => exact optW_is h
def topK : Env → (Sl → U → Env → Prop) → Prop
  | ⟨np, fz, st, sl, s :: tp⟩, K => lookK fz st s fun u => K s u ⟨np, fz, st, sl, tp⟩
  | ⟨_, _, _, _, []⟩, _ => False
theorem topK_is : ∀ {e : Env} {K : Sl → U → Env → Prop}, topK e K → ∃ s u e1, e.top = some (s, u, e1) ∧ K s u e1
  | ⟨np, fz, st, sl, s :: tp⟩, K, h => by
    unfold topK at h
    obtain ⟨u, h1, h2⟩ := lookK_is (e := ⟨np, fz, st, sl, s :: tp⟩) h
    exact ⟨s, u, _, by unfold Env.top; dsimp only; rw [h1]; rfl, h2⟩
  | ⟨_, _, _, _, []⟩, _, h => h.elim
def leafK' : Env → (V → Env → Prop) → Prop
  | ⟨np, fz, st, sl, .val (.leaf x) :: tp⟩, K => K x ⟨np, fz, st, sl, tp⟩
  | _, _ => False
theorem leafK_is {e : Env} {K : V → Env → Prop} (h : leafK' e K) : ∃ x e1, e.leaf = some (x, e1) ∧ K x e1 := by
  unfold leafK' at h
  split at h
  · exact ⟨_, _, rfl, h⟩
  · exact h.elim
def takeK : Env → (U → Env → Prop) → Prop
  | ⟨np, fz, st, sl, .val u :: tp⟩, K => K u ⟨np, fz, st, sl, tp⟩
  | ⟨np, fz, st, sl, .ref j [] :: tp⟩, K => match Nat.ble np j with
    | true => optE (nth st j) fun u => setK st j (.leaf (.bl false)) fun st' => slsK (gone j) sl fun sl' => slsK (gone j) tp fun tp' => K u ⟨np, fz, st', sl', tp'⟩
    | false => False
  | _, _ => False
theorem takeK_is {e : Env} {K : U → Env → Prop} (h : takeK e K) : ∃ u e1, takeTop e = some (u, e1) ∧ K u e1 := by
  unfold takeK at h
  split at h
  · exact ⟨_, _, rfl, h⟩
  · rename_i np fz st sl j tp
    split at h
    · rename_i hb
      obtain ⟨u, h1, h2⟩ := optE_is h
      rw [setK_iff, slsK_iff, slsK_iff] at h2
      rw [nth_eq] at h1
      refine ⟨u, _, ?_, h2⟩
      unfold takeTop
      dsimp only
      rw [if_pos (Nat.le_of_ble_eq_true hb), h1]
    · exact h.elim
  · exact h.elim
def takeNK : Nat → Env → (List U → Env → Prop) → Prop
  | 0, e, K => K [] e
  | n + 1, e, K => takeK e fun u e1 => takeNK n e1 fun us e2 => snocK us u fun us' => K us' e2
theorem takeNK_is : ∀ {n : Nat} {e : Env} {K : List U → Env → Prop}, takeNK n e K → ∃ us e1, takeN n e = some (us, e1) ∧ K us e1
  | 0, e, K, h => ⟨[], e, rfl, by rw [takeNK] at h; exact h⟩
  | n + 1, e, K, h => by
    rw [takeNK] at h
    obtain ⟨u, e1, h1, h2⟩ := takeK_is h
    obtain ⟨us, e2, h3, h4⟩ := takeNK_is h2
    rw [snocK_iff] at h4
    exact ⟨_, e2, by rw [takeN, h1]; show ((takeN n e1).map _) = _; rw [h3]; rfl, h4⟩
def newK : Env → U → (Env → Prop) → Prop
  | ⟨np, fz, st, sl, tp⟩, u, K => natK st.length fun n => snocK st u fun st' => K ⟨np, fz, st', sl, .ref n [] :: tp⟩
theorem newK_is {e : Env} {u : U} {K : Env → Prop} (h : newK e u K) : K (e.new u) := by
  obtain ⟨np, fz, st, sl, tp⟩ := e
  unfold newK at h
  dsimp only at h
  rw [natK_iff, snocK_iff] at h
  exact h
abbrev PX := Env → (Env → Prop) → Prop
class HX (d : DX) where
  w : PX
  ok : ∀ e K, w e K → ∃ e', d e = some e' ∧ K e'
class HT (d : DT) where
  w : Env → (Bool → Env → Prop) → Prop
  ok : ∀ e K, w e K → ∃ b e', d e = some (b, e') ∧ K b e'
class HS (d : DS) where
  w : Env → (Out → Prop) → Prop
  ok : ∀ e K, w e K → ∃ o, d e = some o ∧ K o
instance hx_some : HX some := ⟨fun e K => K e, fun e K h => ⟨e, rfl, h⟩⟩
instance hx_seq (a b : DX) [A : HX a] [B : HX b] : HX (dseq a b) := ⟨fun e K => A.w e fun e1 => B.w e1 K, fun e K h => by
  obtain ⟨e1, h1, h2⟩ := A.ok _ _ h
  obtain ⟨e2, h3, h4⟩ := B.ok _ _ h2
  exact ⟨e2, by unfold dseq; rw [h1]; exact h3, h4⟩⟩
def wVar (i : Nat) : PX
  | ⟨np, fz, st, sl, tp⟩, K => match nth sl i with
    | some (.val u) => K ⟨np, fz, st, sl, .val u :: tp⟩
    | some (.ref j π) => K ⟨np, fz, st, sl, .ref j π :: tp⟩
    | some (.fref j π) => K ⟨np, fz, st, sl, .fref j π :: tp⟩
    | _ => False
instance hx_var (i : Nat) : HX (dVar i) := ⟨wVar i, fun ⟨np, fz, st, sl, tp⟩ K h => by
  unfold wVar at h
  dsimp only at h
  rw [nth_eq] at h
  split at h
  · rename_i u hu
    exact ⟨_, by unfold dVar; dsimp only; rw [hu], h⟩
  · rename_i j π hu
    exact ⟨_, by unfold dVar; dsimp only; rw [hu], h⟩
  · rename_i j π hu
    exact ⟨_, by unfold dVar; dsimp only; rw [hu], h⟩
  · exact h.elim⟩
def wLeaf (v : V) : PX
  | ⟨np, fz, st, sl, tp⟩, K => K ⟨np, fz, st, sl, .val (.leaf v) :: tp⟩
instance hx_leaf (v : V) : HX (dLeaf v) := ⟨wLeaf v, fun e K h => ⟨_, rfl, h⟩⟩
class HV2 (f : V → V → Option V) where
  w : V → V → (V → Prop) → Prop
  ok : ∀ x y K, w x y K → ∃ z, f x y = some z ∧ K z
class HV1 (f : V → Option V) where
  w : V → (V → Prop) → Prop
  ok : ∀ x K, w x K → ∃ z, f x = some z ∧ K z
def wS2 (g : V → V → (V → Prop) → Prop) : PX
  | ⟨np, fz, st, sl, .val (.leaf y) :: .val (.leaf x) :: tp⟩, K => g x y fun z => K ⟨np, fz, st, sl, .val (.leaf z) :: tp⟩
  | _, _ => False
instance hx_s2 (f : V → V → Option V) [A : HV2 f] : HX (dS2 f) := ⟨wS2 A.w, fun e K h => by
  unfold wS2 at h
  split at h
  · obtain ⟨z, h1, h2⟩ := A.ok _ _ _ h
    exact ⟨_, by unfold dS2; dsimp only; rw [h1]; rfl, h2⟩
  · exact h.elim⟩
def wS1 (g : V → (V → Prop) → Prop) : PX
  | ⟨np, fz, st, sl, .val (.leaf x) :: tp⟩, K => g x fun z => K ⟨np, fz, st, sl, .val (.leaf z) :: tp⟩
  | _, _ => False
instance hx_s1 (f : V → Option V) [A : HV1 f] : HX (dS1 f) := ⟨wS1 A.w, fun e K h => by
  unfold wS1 at h
  split at h
  · obtain ⟨z, h1, h2⟩ := A.ok _ _ h
    exact ⟨_, by unfold dS1; dsimp only; rw [h1]; rfl, h2⟩
  · exact h.elim⟩
def wAnd (a b : PX) : PX := fun e K => a e fun
  | ⟨np, fz, st, sl, .val (.leaf (.bl t)) :: tp⟩ => bif' t (b ⟨np, fz, st, sl, tp⟩ K) (K ⟨np, fz, st, sl, .val (.leaf (.bl false)) :: tp⟩)
  | _ => False
def wOr (a b : PX) : PX := fun e K => a e fun
  | ⟨np, fz, st, sl, .val (.leaf (.bl t)) :: tp⟩ => bif' t (K ⟨np, fz, st, sl, .val (.leaf (.bl true)) :: tp⟩) (b ⟨np, fz, st, sl, tp⟩ K)
  | _ => False
instance hx_and (a b : DX) [A : HX a] [B : HX b] : HX (dAnd a b) := ⟨wAnd A.w B.w, fun e K h => by
  unfold wAnd at h
  obtain ⟨e1, h1, h2⟩ := A.ok _ _ h
  split at h2
  · rcases bif_is h2 with ⟨rfl, h3⟩ | ⟨rfl, h3⟩
    · obtain ⟨e2, h4, h5⟩ := B.ok _ _ h3
      exact ⟨e2, by unfold dAnd; rw [h1]; exact h4, h5⟩
    · exact ⟨_, by unfold dAnd; rw [h1]; rfl, h3⟩
  · exact h2.elim⟩
instance hx_or (a b : DX) [A : HX a] [B : HX b] : HX (dOr a b) := ⟨wOr A.w B.w, fun e K h => by
  unfold wOr at h
  obtain ⟨e1, h1, h2⟩ := A.ok _ _ h
  split at h2
  · rcases bif_is h2 with ⟨rfl, h3⟩ | ⟨rfl, h3⟩
    · exact ⟨_, by unfold dOr; rw [h1]; rfl, h3⟩
    · obtain ⟨e2, h4, h5⟩ := B.ok _ _ h3
      exact ⟨e2, by unfold dOr; rw [h1]; exact h4, h5⟩
  · exact h2.elim⟩
def wTop (K : Bool → Env → Prop) : Env → Prop
  | ⟨np, fz, st, sl, .val (.leaf (.bl t)) :: tp⟩ => K t ⟨np, fz, st, sl, tp⟩
  | _ => False
end FB
namespace FB
open PySem PySem.Spec PyProof.Rows L2
def wNot (a : PX) : PX := fun e K => a e fun
  | ⟨np, fz, st, sl, .val (.leaf (.bl t)) :: tp⟩ => K ⟨np, fz, st, sl, .val (.leaf (.bl (!t))) :: tp⟩
  | _ => False
instance hx_not (a : DX) [A : HX a] : HX (dNot a) := ⟨wNot A.w, fun e K h => by
  unfold wNot at h
  obtain ⟨e1, h1, h2⟩ := A.ok _ _ h
  split at h2
  · exact ⟨_, by unfold dNot; rw [h1]; rfl, h2⟩
  · exact h2.elim⟩
instance ht_of (a : DX) [A : HX a] : HT (tOf a) := ⟨fun e K => A.w e (wTop K), fun e K h => by
  obtain ⟨e1, h1, h2⟩ := A.ok _ _ h
  unfold wTop at h2
  split at h2
  · exact ⟨_, _, by unfold tOf; rw [h1]; rfl, h2⟩
  · exact h2.elim⟩
instance ht_nt (a : DT) [A : HT a] : HT (tNt a) := ⟨fun e K => A.w e fun t e1 => K (!t) e1, fun e K h => by
  obtain ⟨t, e1, h1, h2⟩ := A.ok _ _ h
  exact ⟨_, _, by unfold tNt; rw [h1]; rfl, h2⟩⟩
instance ht_an (a b : DT) [A : HT a] [B : HT b] : HT (tAn a b) := ⟨fun e K => A.w e fun t e1 => bif' t (B.w e1 K) (K false e1), fun e K h => by
  obtain ⟨t, e1, h1, h2⟩ := A.ok _ _ h
  rcases bif_is h2 with ⟨rfl, h3⟩ | ⟨rfl, h3⟩
  · obtain ⟨t2, e2, h4, h5⟩ := B.ok _ _ h3
    exact ⟨t2, e2, by unfold tAn; rw [h1]; exact h4, h5⟩
  · exact ⟨_, _, by unfold tAn; rw [h1]; rfl, h3⟩⟩
instance ht_oo (a b : DT) [A : HT a] [B : HT b] : HT (tOo a b) := ⟨fun e K => A.w e fun t e1 => bif' t (K true e1) (B.w e1 K), fun e K h => by
  obtain ⟨t, e1, h1, h2⟩ := A.ok _ _ h
  rcases bif_is h2 with ⟨rfl, h3⟩ | ⟨rfl, h3⟩
  · exact ⟨_, _, by unfold tOo; rw [h1]; rfl, h3⟩
  · obtain ⟨t2, e2, h4, h5⟩ := B.ok _ _ h3
    exact ⟨t2, e2, by unfold tOo; rw [h1]; exact h4, h5⟩⟩
instance ht_yes : HT (fun e => some (true, e)) := ⟨fun e K => K true e, fun e K h => ⟨_, _, rfl, h⟩⟩
instance hx_if (t : DT) (a b : DX) [T : HT t] [A : HX a] [B : HX b] : HX (dIf t a b) := ⟨fun e K => T.w e fun c e1 => bif' c (A.w e1 K) (B.w e1 K), fun e K h => by
  obtain ⟨t, e1, h1, h2⟩ := T.ok _ _ h
  rcases bif_is h2 with ⟨rfl, h3⟩ | ⟨rfl, h3⟩
  · obtain ⟨e2, h4, h5⟩ := A.ok _ _ h3
    exact ⟨e2, by unfold dIf; rw [h1]; exact h4, h5⟩
  · obtain ⟨e2, h4, h5⟩ := B.ok _ _ h3
    exact ⟨e2, by unfold dIf; rw [h1]; exact h4, h5⟩⟩
instance hs_next : HS (fun e => some (.nx e)) := ⟨fun e K => K (.nx e), fun e K h => ⟨_, rfl, h⟩⟩
instance hs_seq (a b : DS) [A : HS a] [B : HS b] : HS (sSeq a b) := ⟨fun e K => A.w e fun
  | .nx e1 => B.w e1 K
  | .rt e1 => K (.rt e1)
  | .bk e1 => K (.bk e1)
  | .ct e1 => K (.ct e1), fun e K h => by
  obtain ⟨o, h1, h2⟩ := A.ok _ _ h
  cases o with
  | nx e1 =>
    obtain ⟨o2, h3, h4⟩ := B.ok _ _ h2
    exact ⟨o2, by unfold sSeq; rw [h1]; exact h3, h4⟩
  | rt e1 => exact ⟨_, by unfold sSeq; rw [h1], h2⟩
  | bk e1 => exact ⟨_, by unfold sSeq; rw [h1], h2⟩
  | ct e1 => exact ⟨_, by unfold sSeq; rw [h1], h2⟩⟩
def wPut (i : Nat) : PX
  | ⟨np, fz, st, sl, s :: tp⟩, K => match nth sl i with
    | some _ => setK sl i s fun sl' => K ⟨np, fz, st, sl', tp⟩
    | none => False
  | _, _ => False
instance hx_put (i : Nat) : HX (fun e => Env.put e i) := ⟨wPut i, fun e K h => by
  unfold wPut at h
  split at h
  · rename_i np fz st sl s tp K
    split at h
    · rename_i x hx
      rw [setK_iff] at h
      rw [nth_eq] at hx
      refine ⟨_, ?_, h⟩
      unfold Env.put
      dsimp only
      rw [if_pos (List.getElem?_eq_some_iff.mp hx).1]
    · exact h.elim
  · exact h.elim⟩
instance hs_set (i : Nat) (a : DX) [A : HX a] : HS (sSet i a) := ⟨fun e K => A.w e fun e1 => wPut i e1 fun e2 => K (.nx e2), fun e K h => by
  obtain ⟨e1, h1, h2⟩ := A.ok _ _ h
  obtain ⟨e2, h3, h4⟩ := (hx_put i).ok _ _ h2
  have h3 : e1.put i = some e2 := h3
  exact ⟨_, by unfold sSet; rw [h1]; show (e1.put i).map Out.nx = _; rw [h3]; rfl, h4⟩⟩
def wPop (e : Env) (K : Env → Prop) : Prop := match e with
  | ⟨np, fz, st, sl, _ :: tp⟩ => K ⟨np, fz, st, sl, tp⟩
  | _ => False
instance hs_drop (a : DX) [A : HX a] : HS (sDrop a) := ⟨fun e K => A.w e fun e1 => wPop e1 fun e2 => K (.nx e2), fun e K h => by
  obtain ⟨e1, h1, h2⟩ := A.ok _ _ h
  unfold wPop at h2
  split at h2
  · exact ⟨_, by unfold sDrop; rw [h1]; rfl, h2⟩
  · exact h2.elim⟩
instance hs_do (a : DX) [A : HX a] : HS (sDo a) := ⟨fun e K => A.w e fun e1 => K (.nx e1), fun e K h => by
  obtain ⟨e1, h1, h2⟩ := A.ok _ _ h
  exact ⟨_, by unfold sDo; rw [h1]; rfl, h2⟩⟩
instance hs_ret (a : DX) [A : HX a] : HS (sRet a) := ⟨fun e K => A.w e fun e1 => K (.rt e1), fun e K h => by
  obtain ⟨e1, h1, h2⟩ := A.ok _ _ h
  exact ⟨_, by unfold sRet; rw [h1]; rfl, h2⟩⟩
def wRetN : Env → (Out → Prop) → Prop
  | ⟨np, fz, st, sl, tp⟩, K => K (.rt ⟨np, fz, st, sl, .val (.leaf .non) :: tp⟩)
instance hs_retN : HS sRetN := ⟨wRetN, fun _ _ h => ⟨_, rfl, h⟩⟩
instance hs_if (t : DT) (a b : DS) [T : HT t] [A : HS a] [B : HS b] : HS (sIf t a b) := ⟨fun e K => T.w e fun c e1 => bif' c (A.w e1 K) (B.w e1 K), fun e K h => by
  obtain ⟨t, e1, h1, h2⟩ := T.ok _ _ h
  rcases bif_is h2 with ⟨rfl, h3⟩ | ⟨rfl, h3⟩
  · obtain ⟨e2, h4, h5⟩ := A.ok _ _ h3
    exact ⟨e2, by unfold sIf; rw [h1]; exact h4, h5⟩
  · obtain ⟨e2, h4, h5⟩ := B.ok _ _ h3
    exact ⟨e2, by unfold sIf; rw [h1]; exact h4, h5⟩⟩
def wipeK (sl : List Sl) : List Nat → (List Sl → Prop) → Prop
  | [], K => K sl
  | v :: vs, K => wipeK sl vs fun sl' => setK sl' v .no K
theorem wipeK_iff (sl : List Sl) : ∀ (vs : List Nat) (K : List Sl → Prop), wipeK sl vs K ↔ K (wipeSl sl vs)
  | [], K => by rw [wipeK, wipeSl]
  | v :: vs, K => by rw [wipeK, wipeK_iff, setK_iff, wipeSl]
def gcAtK : Env → Nat → (Env → Prop) → Prop
  | ⟨np, fz, st, sl, tp⟩, j, K => match sl.any (refs j) || tp.any (refs j) with
    | true => K ⟨np, fz, st, sl, tp⟩
    | false => eraseK st j fun st' => slsK (down j) sl fun sl' => slsK (down j) tp fun tp' => K ⟨np, fz, st', sl', tp'⟩
theorem gcAtK_is {e : Env} {j : Nat} {K : Env → Prop} (h : gcAtK e j K) : K (e.gcAt j) := by
  obtain ⟨np, fz, st, sl, tp⟩ := e
  unfold gcAtK at h
  unfold Env.gcAt
  dsimp only at h ⊢
  split at h
  · rename_i hb
    rw [if_pos hb]
    exact h
  · rename_i hb
    rw [if_neg (by rw [hb]; decide)]
    rw [eraseK_iff, slsK_iff, slsK_iff] at h
    exact h
def gcNK : Nat → Env → (Env → Prop) → Prop
  | 0, e, K => K e
  | k + 1, ⟨np, fz, st, sl, tp⟩, K => natK (np + k) fun j => match nth st j with
    | some u => match isNon u with
      | true => K ⟨np, fz, st, sl, tp⟩
      | false => gcAtK ⟨np, fz, st, sl, tp⟩ j fun e1 => gcNK k e1 K
    | none => gcNK k ⟨np, fz, st, sl, tp⟩ K
theorem gcNK_is : ∀ {k : Nat} {e : Env} {K : Env → Prop}, gcNK k e K → K (e.gcN k)
  | 0, e, K, h => by rw [gcNK] at h; rw [Env.gcN]; exact h
  | k + 1, ⟨np, fz, st, sl, tp⟩, K, h => by
    rw [gcNK, natK_iff, nth_eq] at h
    rw [Env.gcN]
    dsimp only
    split at h
    · rename_i u hu
      (try rw [hu])
      (try dsimp only)
      split at h
      · rename_i hn
        rw [if_pos hn]
        exact h
      · rename_i hn
        rw [if_neg (by rw [hn]; decide)]
        exact gcNK_is (gcAtK_is h)
    · rename_i hu
      (try rw [hu])
      exact gcNK_is h
def cleanK (vs : List Nat) : Env → (Env → Prop) → Prop
  | ⟨np, fz, st, sl, tp⟩, K => wipeK sl vs fun sl' => gcNK (st.length - np) ⟨np, fz, st, sl', tp⟩ K
theorem cleanK_is {vs : List Nat} {e : Env} {K : Env → Prop} (h : cleanK vs e K) : K (e.clean vs) := by
  obtain ⟨np, fz, st, sl, tp⟩ := e
  unfold cleanK at h
  dsimp only at h
  rw [wipeK_iff] at h
  exact gcNK_is h
instance hs_clean (vs : List Nat) (a : DS) [A : HS a] : HS (sClean vs a) := ⟨fun e K => A.w e fun
  | .nx e1 => cleanK vs e1 fun e2 => K (.nx e2)
  | .ct e1 => cleanK vs e1 fun e2 => K (.ct e2)
  | .bk e1 => cleanK vs e1 fun e2 => K (.bk e2)
  | .rt e1 => K (.rt e1), fun e K h => by
  obtain ⟨o, h1, h2⟩ := A.ok _ _ h
  refine ⟨Out.clean vs o, by unfold sClean; rw [h1]; rfl, ?_⟩
  cases o with
  | nx e1 => exact cleanK_is h2
  | ct e1 => exact cleanK_is h2
  | bk e1 => exact cleanK_is h2
  | rt e1 => exact h2⟩
def noK : Nat → (List Sl → Prop) → Prop
  | 0, K => K []
  | n + 1, K => noK n fun l => K (.no :: l)
theorem noK_iff : ∀ (n : Nat) (K : List Sl → Prop), noK n K ↔ K (List.replicate n .no)
  | 0, K => by rw [noK]; rfl
  | n + 1, K => by rw [noK, noK_iff]; rfl
def padK : List Sl → Nat → (List Sl → Prop) → Prop
  | [], n, K => noK n K
  | s :: l, n, K => padK l n fun l' => K (s :: l')
theorem padK_iff : ∀ (l : List Sl) (n : Nat) (K : List Sl → Prop), padK l n K ↔ K (l ++ List.replicate n .no)
  | [], n, K => by rw [padK, noK_iff]; rfl
  | s :: l, n, K => by rw [padK, padK_iff]; rfl
def endK (K : Sl → List U → Prop) : Out → Prop
  | .rt ⟨_, _, st, _, [r]⟩ => K r st
  | .nx ⟨_, _, st, _, _⟩ => K (.val (.leaf .non)) st
  | _ => False
theorem of_w {m n : Nat} {d : DS} [D : HS d] {fz st : List U} {args : List Sl} {K : Sl → List U → Prop} (hm : args.length = m) (h : natK st.length fun np => padK args (n - m) fun sl => D.w ⟨np, fz, st, sl, []⟩ (endK K)) : ∃ r st', runF m n d fz st args = some (r, st') ∧ K r st' := by
  rw [natK_iff, padK_iff] at h
  obtain ⟨o, h1, h2⟩ := D.ok _ _ h
  unfold endK at h2
  unfold runF
  rw [if_pos hm, h1]
  split at h2
  · exact ⟨_, _, rfl, h2⟩
  · exact ⟨_, _, rfl, h2⟩
  · exact h2.elim
def wNode (k : Kd) (n : Nat) : PX := fun e K => takeNK n e fun us e1 => match k.mut with
  | true => newK e1 (.node k us) K
  | false => bif' (U.immL us) (match e1 with
    | ⟨np, fz, st, sl, tp⟩ => K ⟨np, fz, st, sl, .val (.node k us) :: tp⟩) (newK e1 (.node k us) K)
instance hx_node (k : Kd) (n : Nat) : HX (dNode k n) := ⟨wNode k n, fun e K h => by
  unfold wNode at h
  obtain ⟨us, e1, h1, h2⟩ := takeNK_is h
  unfold dNode
  rw [h1]
  cases hk : k.mut with
  | true =>
    rw [hk] at h2
    exact ⟨_, rfl, newK_is h2⟩
  | false =>
    rw [hk] at h2
    dsimp only at h2
    rcases bif_is h2 with ⟨hi, h3⟩ | ⟨hi, h3⟩
    · refine ⟨_, rfl, ?_⟩
      dsimp only
      rw [hi]
      exact h3
    · refine ⟨_, rfl, ?_⟩
      dsimp only
      rw [hi]
      exact newK_is h3⟩
instance hx_dic : HX dDic := hx_node (.dic []) 0
def dix {κ : Type} [DecidableEq κ] (k : κ) : List κ → List U → Nat → Option (Nat × U)
  | x :: ks, u :: us, i => if x = k then some (i, u) else dix k ks us (i + 1)
  | _, _, _ => none
theorem dix_is {κ : Type} [DecidableEq κ] {k : κ} : ∀ {ks : List κ} {us : List U} {i n : Nat} {u : U}, dix k ks us i = some (n, u) → ∃ j, n = j + i ∧ ixOf k ks = some j ∧ us[j]? = some u
  | x :: ks, w :: us, i, n, u, h => by
    rw [dix] at h
    rw [ixOf]
    split at h
    · rename_i hx
      obtain ⟨rfl, rfl⟩ := Prod.mk.inj (Option.some.inj h)
      exact ⟨0, by omega, by rw [if_pos hx], rfl⟩
    · rename_i hx
      obtain ⟨j, h1, h2, h3⟩ := dix_is h
      exact ⟨j + 1, by omega, by rw [if_neg hx, h2]; rfl, by simpa using h3⟩
  | [], us, _, _, _, h => by rw [dix] at h; cases h; intros; contradiction
  | _ :: _, [], _, _, _, h => by rw [dix] at h; cases h; intros; contradiction
theorem dix0 {κ : Type} [DecidableEq κ] {k : κ} {ks : List κ} {us : List U} {n : Nat} {u : U} (h : dix k ks us 0 = some (n, u)) : ixOf k ks = some n ∧ us[n]? = some u := by
  obtain ⟨j, rfl, h2, h3⟩ := dix_is h
  exact ⟨h2, h3⟩
def kidK (s : Sl) (n : Nat) (u : U) (K : Sl → Prop) : Prop := bif' u.imm (K (.val u)) (match s with
  | .ref j [] => natK n fun n' => K (.ref j [n'])
  | .ref j (a :: π) => snocK (a :: π) n fun π' => K (.ref j π')
  | .fref j [] => natK n fun n' => K (.fref j [n'])
  | .fref j (a :: π) => snocK (a :: π) n fun π' => K (.fref j π')
  | _ => K .no)
theorem kidK_is {s : Sl} {n : Nat} {u : U} {K : Sl → Prop} (h : kidK s n u K) : K (kidS s n u) := by
  unfold kidK at h
  unfold kidS
  rcases bif_is h with ⟨hi, h⟩ | ⟨hi, h⟩
  · rw [if_pos hi]
    exact h
  · rw [if_neg (by rw [hi]; decide)]
    cases s with
    | no => exact h
    | val w => exact h
    | ref j π =>
      cases π with
      | nil =>
        dsimp only at h
        rw [natK_iff] at h
        exact h
      | cons a π =>
        dsimp only at h
        rw [snocK_iff] at h
        exact h
    | fref j π =>
      cases π with
      | nil =>
        dsimp only at h
        rw [natK_iff] at h
        exact h
      | cons a π =>
        dsimp only at h
        rw [snocK_iff] at h
        exact h
def pushK (e : Env) (s : Sl) (K : Env → Prop) : Prop := match e with
  | ⟨np, fz, st, sl, tp⟩ => K ⟨np, fz, st, sl, s :: tp⟩
def wFld (C : Addr) (f : Str) : PX := fun e K => topK e fun s u e1 => match u with
  | .node (.ins C' fs) us => need (C' = C) (optW (dix f fs us 0) fun p => kidK s p.1 p.2 fun s' => pushK e1 s' K)
  | _ => False
instance hx_fld (C : Addr) (f : Str) : HX (dFld C f) := ⟨wFld C f, fun e K h => by
  unfold wFld at h
  obtain ⟨s, u, e1, h1, h2⟩ := topK_is h
  unfold dFld
  rw [h1]
  dsimp only at h2 ⊢
  split at h2
  · obtain ⟨rfl, h3⟩ := need_is h2
    obtain ⟨⟨n, w⟩, h4, h5⟩ := optW_is h3
    obtain ⟨h6, h7⟩ := dix0 h4
    refine ⟨{ e1 with tp := kidS s n w :: e1.tp }, ?_, kidK_is h5⟩
    simp only [Option.bind_some, if_pos]
    rw [h6]
    simp only [Option.bind_some]
    rw [h7]
    rfl
  · exact h2.elim⟩
def wDGet : PX := fun e K => leafK' e fun y e0 => topK e0 fun s u e1 => optE (keyOf y) fun k => optE u.dic fun c => optW (dix k c.1 c.2 0) fun p => kidK s p.1 p.2 fun s' => pushK e1 s' K
instance hx_dget : HX dDGet := ⟨wDGet, fun e K h => by
  unfold wDGet at h
  obtain ⟨y, e0, h1, h⟩ := leafK_is h
  obtain ⟨s, u, e1, h2, h⟩ := topK_is h
  obtain ⟨k, h3, h⟩ := optE_is h
  obtain ⟨c, h4, h⟩ := optE_is h
  obtain ⟨⟨n, w⟩, h5, h⟩ := optW_is h
  obtain ⟨h6, h7⟩ := dix0 h5
  refine ⟨{ e1 with tp := kidS s n w :: e1.tp }, ?_, kidK_is h⟩
  unfold dDGet
  simp only [h1, h2, h3, h4, h6, h7, Option.bind_some, Option.map_some]⟩
/-- a place in a list -/
def ixU (us : List U) (i : Int) : Option (Nat × U) := (ixN us.length i).bind fun n => (us[n]?).map fun u => (n, u)
def wIx (ok : Kd → Bool) : PX := fun e K => leafK' e fun y e0 => topK e0 fun s u e1 => optE (asInt y) fun i => optE (u.seq ok) fun us => optW (ixU us i) fun p => kidK s p.1 p.2 fun s' => pushK e1 s' K
instance hx_ix (ok : Kd → Bool) : HX (dIx ok) := ⟨wIx ok, fun e K h => by
  unfold wIx at h
  obtain ⟨y, e0, h1, h⟩ := leafK_is h
  obtain ⟨s, u, e1, h2, h⟩ := topK_is h
  obtain ⟨i, h3, h⟩ := optE_is h
  obtain ⟨us, h4, h⟩ := optE_is h
  obtain ⟨⟨n, w⟩, h5, h⟩ := optW_is h
  obtain ⟨n', h6, h7⟩ := Option.bind_eq_some_iff.mp h5
  obtain ⟨u', h8, h9⟩ := Option.map_eq_some_iff.mp h7
  obtain ⟨rfl, rfl⟩ := Prod.mk.inj h9
  refine ⟨{ e1 with tp := kidS s n' u' :: e1.tp }, ?_, kidK_is h⟩
  unfold dIx
  simp only [h1, h2, h3, h4, h6, h8, Option.bind_some, Option.map_some]⟩
def wIn (neg : Bool) : PX := fun e K => topK e fun s u e1 => leafK' e1 fun y e2 => optE (keyOf y) fun k => optE u.dic fun c => match neg with
  | true => pushK e2 (.val (.leaf (.bl (!(ixOf k c.1).isSome)))) K
  | false => pushK e2 (.val (.leaf (.bl (ixOf k c.1).isSome))) K
instance hx_in (neg : Bool) : HX (dIn neg) := ⟨wIn neg, fun e K h => by
  unfold wIn at h
  obtain ⟨s, u, e1, h1, h⟩ := topK_is h
  obtain ⟨y, e2, h2, h⟩ := leafK_is h
  obtain ⟨k, h3, h⟩ := optE_is h
  obtain ⟨c, h4, h⟩ := optE_is h
  unfold dIn
  simp only [h1, h2, h3, h4, Option.bind_some, Option.map_some]
  cases neg
  · exact ⟨_, rfl, h⟩
  · exact ⟨_, rfl, h⟩⟩
def quiet (j : Nat) (π : List Nat) (s : Sl) : Bool := match s with
  | .ref j' π' => !(Nat.beq j' j) || (match strip π π' with
    | some (_ :: _) => false
    | _ => true)
  | _ => true
theorem quiet_kl {j n : Nat} {π : List Nat} {s : Sl} (h : quiet j π s = true) : kl j π (okN (· != n)) s = s := by
  cases s with
  | no => rfl
  | val u => rfl
  | fref j' π' => rfl
  | ref j' π' =>
    unfold kl
    dsimp only
    split
    · rename_i hj
      subst hj
      unfold quiet at h
      simp only [Nat.beq_refl, Bool.not_true, Bool.false_or] at h
      split at h
      · cases h
      · rename_i hs
        cases hp : strip π π' with
        | none => rfl
        | some κ =>
          cases κ with
          | nil => rfl
          | cons a b => exact absurd hp (hs a b)
    · rfl
theorem quiet_kls {j n : Nat} {π : List Nat} : ∀ {l : List Sl}, l.all (quiet j π) = true → l.map (kl j π (okN (· != n))) = l
  | [], _ => rfl
  | s :: l, h => by
    rw [List.all_cons, Bool.and_eq_true] at h
    rw [List.map_cons, quiet_kl h.1, quiet_kls h.2]
/-- the node behind d[k] = u -/
def dput (ks : List Key) (us : List U) (k : Key) (u : U) : U := match ixOf k ks with
  | some n => .node (.dic ks) (us.set n u)
  | none => .node (.dic (ks ++ [k])) (us ++ [u])
structure putW (ks : List Key) (us : List U) (k : Key) (u : U) (K : U → Prop) : Prop where
  h : K (dput ks us k u)
theorem putW_mk {ks : List Key} {us : List U} {k : Key} {u : U} {K : U → Prop} (h : K (dput ks us k u)) : putW ks us k u K := ⟨by exact h⟩
theorem putW_some {ks : List Key} {us : List U} {k : Key} {u : U} {n : Nat} {K : U → Prop} (h : ixOf k ks = some n) (q : setK us n u fun us' => K (.node (.dic ks) us')) : putW ks us k u K := by
  refine putW_mk ?_
  unfold dput
  rw [h]
  rw [setK_iff] at q
  exact q
theorem putW_none {ks : List Key} {us : List U} {k : Key} {u : U} {K : U → Prop} (h : ixOf k ks = none) (q : appK ks [k] fun ks' => appK us [u] fun us' => K (.node (.dic ks') us')) : putW ks us k u K := by
  refine putW_mk ?_
  unfold dput
  rw [h]
  rw [appK_iff, appK_iff] at q
  exact q
theorem putW_is {ks : List Key} {us : List U} {k : Key} {u : U} {K : U → Prop} (h : putW ks us k u K) : K (dput ks us k u) := h.h
def wPutD : PX
  | ⟨np, fz, st, sl, sk :: sd :: sv :: tp⟩, K => takeK ⟨np, fz, st, sl, sv :: sk :: sd :: tp⟩ fun u e1 => match e1 with
    | ⟨np, fz, st, sl, .val (.leaf y) :: .ref j π :: tp⟩ => optE (keyOf y) fun k => look1K st j π fun d => match d with
      | .node (.dic ks) us => need (us.length < 100000) (match sl.all (quiet j π) && tp.all (quiet j π) with
        | true => putW ks us k u fun d' => setUK st j π d' fun st' => K ⟨np, fz, st', sl, tp⟩
        | false => optW (ixOf k ks) fun n => setK us n u fun us' => setUK st j π (.node (.dic ks) us') fun st' => slsK (kl j π (okN (· != n))) sl fun sl' => slsK (kl j π (okN (· != n))) tp fun tp' => K ⟨np, fz, st', sl', tp'⟩)
      | _ => False
    | _ => False
  | _, _ => False
instance hx_dput : HX dPut := ⟨wPutD, fun e K h => by
  unfold wPutD at h
  split at h
  · rename_i np fz st sl sk sd sv tp K
    obtain ⟨u, e1, h1, h⟩ := takeK_is h
    split at h
    · rename_i u0 u1 np fz st sl y j π tp
      obtain ⟨k, h2, h⟩ := optE_is h
      obtain ⟨d, h3, h⟩ := look1K_is h
      split at h
      · rename_i d0 ks us
        obtain ⟨hl, h⟩ := need_is h
        split at h
        · rename_i hq
          rw [Bool.and_eq_true] at hq
          have h := setUK_is (putW_is h)
          unfold dput at h
          unfold dPut Env.rot
          simp only [h1, h2, Option.bind_some, Env.leaf]
          cases hx : ixOf k ks with
          | none =>
            rw [hx] at h
            refine ⟨_, ?_, h⟩
            simp only [h3, hl, if_true]
            rw [hx]
          | some n =>
            rw [hx] at h
            refine ⟨_, ?_, h⟩
            simp only [h3, hl, if_true]
            rw [hx]
            simp only [quiet_kls hq.1, quiet_kls hq.2]
        · obtain ⟨n, hx, h⟩ := optW_is h
          rw [setK_iff] at h
          have h := setUK_is h
          rw [slsK_iff, slsK_iff] at h
          unfold dPut Env.rot
          simp only [h1, h2, Option.bind_some, Env.leaf]
          refine ⟨_, ?_, h⟩
          simp only [h3, hl, if_true]
          rw [hx]
      · exact h.elim
    · exact h.elim
  · exact h.elim⟩
end FB
namespace FB
open PySem PySem.Spec PyProof.Rows L2
def wI (g : Int → Int → V) (x y : V) (K : V → Prop) : Prop := match x, y with
  | .int i, .int j => K (g i j)
  | _, _ => False
theorem wI_is {g : Int → Int → V} {x y : V} {K : V → Prop} (h : wI g x y K) : ∃ z, fInt g x y = some z ∧ K z := by
  unfold wI at h
  split at h
  · exact ⟨_, rfl, h⟩
  · exact h.elim
def wT (g : Str → Str → V) (x y : V) (K : V → Prop) : Prop := match x, y with
  | .str i, .str j => K (g i j)
  | _, _ => False
theorem wT_is {g : Str → Str → V} {x y : V} {K : V → Prop} (h : wT g x y K) : ∃ z, fStr g x y = some z ∧ K z := by
  unfold wT at h
  split at h
  · exact ⟨_, rfl, h⟩
  · exact h.elim
def wIC (c : Int → Int → Bool) (g : Int → Int → V) (x y : V) (K : V → Prop) : Prop := match x, y with
  | .int i, .int j => need (c i j = true) (K (g i j))
  | _, _ => False
theorem wIC_is {c : Int → Int → Bool} {g : Int → Int → V} {x y : V} {K : V → Prop} (h : wIC c g x y K) : ∃ z, fIntC c g x y = some z ∧ K z := by
  unfold wIC at h
  split at h
  · obtain ⟨h1, h2⟩ := need_is h
    exact ⟨_, by unfold fIntC; dsimp only; rw [if_pos h1], h2⟩
  · exact h.elim
def wAdd (x y : V) (K : V → Prop) : Prop := match x, y with
  | .int i, .int j => K (.int (i + j))
  | _, _ => False
instance : HV2 fAdd := ⟨wAdd, fun _ _ _ h => wI_is h⟩
def wSub (x y : V) (K : V → Prop) : Prop := match x, y with
  | .int i, .int j => K (.int (i - j))
  | _, _ => False
instance : HV2 fSub := ⟨wSub, fun _ _ _ h => wI_is h⟩
def wLt (x y : V) (K : V → Prop) : Prop := match x, y with
  | .int i, .int j => K (.bl (decide (i < j)))
  | _, _ => False
instance : HV2 fLt := ⟨wLt, fun _ _ _ h => wI_is h⟩
def wLe (x y : V) (K : V → Prop) : Prop := match x, y with
  | .int i, .int j => K (.bl (decide (i ≤ j)))
  | _, _ => False
instance : HV2 fLe := ⟨wLe, fun _ _ _ h => wI_is h⟩
def wGt (x y : V) (K : V → Prop) : Prop := match x, y with
  | .int i, .int j => K (.bl (decide (j < i)))
  | _, _ => False
instance : HV2 fGt := ⟨wGt, fun _ _ _ h => wI_is h⟩
def wGe (x y : V) (K : V → Prop) : Prop := match x, y with
  | .int i, .int j => K (.bl (decide (j ≤ i)))
  | _, _ => False
instance : HV2 fGe := ⟨wGe, fun _ _ _ h => wI_is h⟩
def wMul (x y : V) (K : V → Prop) : Prop := match x, y with
  | .int i, .int j => need ((small64 i || small64 j) = true) (K (.int (i * j)))
  | _, _ => False
instance : HV2 fMul := ⟨wMul, fun _ _ _ h => wIC_is h⟩
def wMod (x y : V) (K : V → Prop) : Prop := match x, y with
  | .int i, .int j => need (decide (0 < j) = true) (K (.int (i % j)))
  | _, _ => False
instance : HV2 fMod := ⟨wMod, fun _ _ _ h => wIC_is h⟩
def wDiv (x y : V) (K : V → Prop) : Prop := match x, y with
  | .int i, .int j => need (decide (0 < j ∧ j < 2 ^ 60) = true) (K (.int (i / j)))
  | _, _ => False
instance : HV2 fDiv := ⟨wDiv, fun _ _ _ h => wIC_is h⟩
def wPow (x y : V) (K : V → Prop) : Prop := match x, y with
  | .int i, .int j => need (decide (0 ≤ j ∧ j ≤ 1000000 ∧ i.natAbs < 2 ^ 64) = true) (K (.int (i ^ j.toNat)))
  | _, _ => False
instance : HV2 fPow := ⟨wPow, fun _ _ _ h => wIC_is h⟩
def wLtS (x y : V) (K : V → Prop) : Prop := match x, y with
  | .str i, .str j => K (.bl (ltS i j))
  | _, _ => False
instance : HV2 fLtS := ⟨wLtS, fun _ _ _ h => wT_is h⟩
def wLeS (x y : V) (K : V → Prop) : Prop := match x, y with
  | .str i, .str j => K (.bl (!ltS j i))
  | _, _ => False
instance : HV2 fLeS := ⟨wLeS, fun _ _ _ h => wT_is h⟩
def wGtS (x y : V) (K : V → Prop) : Prop := match x, y with
  | .str i, .str j => K (.bl (ltS j i))
  | _, _ => False
instance : HV2 fGtS := ⟨wGtS, fun _ _ _ h => wT_is h⟩
def wGeS (x y : V) (K : V → Prop) : Prop := match x, y with
  | .str i, .str j => K (.bl (!ltS i j))
  | _, _ => False
instance : HV2 fGeS := ⟨wGeS, fun _ _ _ h => wT_is h⟩
def wMax2 (x y : V) (K : V → Prop) : Prop := match x, y with
  | .int i, .int j => K (.int (if j > i then j else i))
  | _, _ => False
instance : HV2 fMax2 := ⟨wMax2, fun _ _ _ h => wI_is h⟩
def wMin2 (x y : V) (K : V → Prop) : Prop := match x, y with
  | .int i, .int j => K (.int (if j < i then j else i))
  | _, _ => False
instance : HV2 fMin2 := ⟨wMin2, fun _ _ _ h => wI_is h⟩
def wMaxS2 (x y : V) (K : V → Prop) : Prop := match x, y with
  | .str i, .str j => K (.str (maxS i j))
  | _, _ => False
instance : HV2 fMaxS2 := ⟨wMaxS2, fun _ _ _ h => wT_is h⟩
def eqB (x y : V) (K : Bool → Prop) : Prop := match x, y with
  | .int i, .int j => K (decide (i = j))
  | .str i, .str j => K (decide (i = j))
  | .bl i, .bl j => K (decide (i = j))
  | .non, .non => K true
  | .str _, .non => K false
  | .int _, .non => K false
  | .non, .str _ => K false
  | .non, .int _ => K false
  | .int _, .str _ => K false
  | .str _, .int _ => K false
  | _, _ => False
theorem eqB_is {x y : V} {K : Bool → Prop} (h : eqB x y K) : scal x y = true ∧ K (decide (x = y)) := by
  unfold eqB at h
  split at h
  · refine ⟨rfl, ?_⟩
    rename_i i j
    rw [show decide (V.int i = V.int j) = decide (i = j) by simp]
    exact h
  · refine ⟨rfl, ?_⟩
    rename_i i j
    rw [show decide (V.str i = V.str j) = decide (i = j) by simp]
    exact h
  · refine ⟨rfl, ?_⟩
    rename_i i j
    rw [show decide (V.bl i = V.bl j) = decide (i = j) by simp]
    exact h
  all_goals first | exact ⟨rfl, h⟩ | exact h.elim
instance : HV2 fEq := ⟨fun x y K => eqB x y fun b => K (.bl b), fun x y K h => by
  obtain ⟨h1, h2⟩ := eqB_is h
  exact ⟨_, by unfold fEq; rw [if_pos h1], h2⟩⟩
instance : HV2 fNe := ⟨fun x y K => eqB x y fun b => K (.bl (!b)), fun x y K h => by
  obtain ⟨h1, h2⟩ := eqB_is (K := fun b => K (.bl (!b))) h
  exact ⟨_, by unfold fNe; rw [if_pos h1], h2⟩⟩
/-- by the function itself -/
def wV2 (f : V → V → Option V) (x y : V) (K : V → Prop) : Prop := optW (f x y) K
instance : HV2 fCatS := ⟨wV2 fCatS, fun _ _ _ h => optW_is h⟩
instance : HV2 fIxS := ⟨wV2 fIxS, fun _ _ _ h => optW_is h⟩
def wV1 (f : V → Option V) (x : V) (K : V → Prop) : Prop := optW (f x) K
instance : HV1 fAbs := ⟨wV1 fAbs, fun _ _ h => optW_is h⟩
instance : HV1 fLenS := ⟨wV1 fLenS, fun _ _ h => optW_is h⟩
instance : HV1 fInt1 := ⟨wV1 fInt1, fun _ _ h => optW_is h⟩
def wLen : PX := fun e K => topK e fun _ u e1 => optE (u.seq okS) fun us => pushK e1 (.val (.leaf (.int us.length))) K
instance hx_len : HX dLen := ⟨wLen, fun e K h => by
  unfold wLen at h
  obtain ⟨s, u, e1, h1, h⟩ := topK_is h
  obtain ⟨us, h2, h⟩ := optE_is h
  unfold dLen
  simp only [h1, h2, Option.bind_some, Option.map_some]
  exact ⟨_, rfl, h⟩⟩
def wLenD : PX := fun e K => topK e fun _ u e1 => optE u.dic0 fun us => pushK e1 (.val (.leaf (.int us.length))) K
instance hx_lenD : HX dLenD := ⟨wLenD, fun e K h => by
  unfold wLenD at h
  obtain ⟨s, u, e1, h1, h⟩ := topK_is h
  obtain ⟨us, h2, h⟩ := optE_is h
  unfold dLenD
  simp only [h1, h2, Option.bind_some, Option.map_some]
  exact ⟨_, rfl, h⟩⟩
def wChk (ok : Kd → Bool) : PX := fun e K => topK e fun _ u _ => optE (u.seq ok) fun _ => K e
instance hx_chk (ok : Kd → Bool) : HX (dChk ok) := ⟨wChk ok, fun e K h => by
  unfold wChk at h
  obtain ⟨s, u, e1, h1, h⟩ := topK_is h
  obtain ⟨us, h2, h⟩ := optE_is h
  unfold dChk
  simp only [h1, h2, Option.bind_some, Option.map_some]
  exact ⟨_, rfl, h⟩⟩
def wChkD : PX := fun e K => topK e fun _ u _ => optE u.dic fun _ => K e
instance hx_chkD : HX dChkD := ⟨wChkD, fun e K h => by
  unfold wChkD at h
  obtain ⟨s, u, e1, h1, h⟩ := topK_is h
  obtain ⟨us, h2, h⟩ := optE_is h
  unfold dChkD
  simp only [h1, h2, Option.bind_some, Option.map_some]
  exact ⟨_, rfl, h⟩⟩
/-- d.get(k, z): both ways -/
structure get2W (ks : List Key) (us : List U) (k : Key) (A : Prop) (B : Nat → U → Prop) : Prop where
  h : match ixOf k ks with
  | none => A
  | some n => optW (us[n]?) (B n)
theorem get2W_none {ks : List Key} {us : List U} {k : Key} {A : Prop} {B : Nat → U → Prop} (h : ixOf k ks = none) (q : A) : get2W ks us k A B := ⟨by rw [h]; exact q⟩
theorem get2W_some {ks : List Key} {us : List U} {k : Key} {A : Prop} {B : Nat → U → Prop} {n : Nat} {u : U} (h : dix k ks us 0 = some (n, u)) (q : B n u) : get2W ks us k A B := by
  obtain ⟨h1, h2⟩ := dix0 h
  refine ⟨?_⟩
  rw [h1]
  exact optW_mk h2 q
def wGet2 : PX
  | ⟨np, fz, st, sl, sz :: tp⟩, K => leafK' ⟨np, fz, st, sl, tp⟩ fun y e0 => topK e0 fun s u e1 => optE (keyOf y) fun k => optE u.dic fun c => get2W c.1 c.2 k (pushK e1 sz K) fun n u => kidK s n u fun s' => pushK e1 s' K
  | _, _ => False
instance hx_get2 : HX dGet2 := ⟨wGet2, fun e K h => by
  unfold wGet2 at h
  split at h
  · rename_i np fz st sl sz tp K
    obtain ⟨y, e0, h1, h⟩ := leafK_is h
    obtain ⟨s, u, e1, h2, h⟩ := topK_is h
    obtain ⟨k, h3, h⟩ := optE_is h
    obtain ⟨c, h4, h⟩ := optE_is h
    unfold dGet2
    simp only [h1, h2, h3, h4, Option.bind_some]
    have h := h.h
    cases hx : ixOf k c.1 with
    | none =>
      rw [hx] at h
      exact ⟨_, rfl, h⟩
    | some n =>
      rw [hx] at h
      obtain ⟨w, h5, h⟩ := optW_is h
      exact ⟨{ e1 with tp := kidS s n w :: e1.tp }, by simp only [h5, Option.map_some], kidK_is h⟩
  · exact h.elim⟩
def wIsN (neg : Bool) : PX
  | ⟨np, fz, st, sl, .val (.leaf .non) :: .val (.leaf x) :: tp⟩, K => match x with
    | .non => K ⟨np, fz, st, sl, .val (.leaf (.bl (!neg))) :: tp⟩
    | .int _ => K ⟨np, fz, st, sl, .val (.leaf (.bl neg)) :: tp⟩
    | .str _ => K ⟨np, fz, st, sl, .val (.leaf (.bl neg)) :: tp⟩
    | .bl _ => K ⟨np, fz, st, sl, .val (.leaf (.bl neg)) :: tp⟩
    | _ => False
  | ⟨np, fz, st, sl, .val (.leaf .non) :: .val (.node _ _) :: tp⟩, K => K ⟨np, fz, st, sl, .val (.leaf (.bl neg)) :: tp⟩
  | ⟨np, fz, st, sl, .val (.leaf .non) :: .ref j π :: tp⟩, K => look1K st j π fun u => match u with
    | .node _ _ => K ⟨np, fz, st, sl, .val (.leaf (.bl neg)) :: tp⟩
    | _ => False
  | _, _ => False
instance hx_isN (neg : Bool) : HX (dIsN neg) := ⟨wIsN neg, fun e K h => by
  unfold wIsN at h
  split at h
  · split at h
    all_goals first | exact h.elim | (cases neg <;> exact ⟨_, rfl, h⟩)
  · exact ⟨_, rfl, h⟩
  · rename_i np fz st sl j π tp K
    obtain ⟨u, h1, h⟩ := look1K_is h
    split at h
    · exact ⟨_, by simp only [dIsN, Env.leaf, Option.bind_some, if_true, h1], h⟩
    · exact h.elim
  · exact h.elim⟩
def wMk (k : Kd) : PX := fun e K => topK e fun _ u e1 => optE (u.seq okS) fun us => bif' (U.immL us) (match k.mut with
  | true => newK e1 (.node k us) K
  | false => pushK e1 (.val (.node k us)) K) False
theorem wMk_is {k : Kd} {e : Env} {K : Env → Prop} (h : wMk k e K) : ∃ s u e1 us, e.top = some (s, u, e1) ∧ u.seq okS = some us ∧ U.immL us = true ∧ K (mk e1 k us) := by
  unfold wMk at h
  obtain ⟨s, u, e1, h1, h⟩ := topK_is h
  obtain ⟨us, h2, h⟩ := optE_is h
  rcases bif_is h with ⟨hi, h⟩ | ⟨hi, h⟩
  · refine ⟨s, u, e1, us, h1, h2, hi, ?_⟩
    unfold mk
    cases hk : k.mut with
    | true =>
      rw [hk] at h
      exact newK_is h
    | false =>
      rw [hk] at h
      exact h
  · exact h.elim
instance hx_list : HX dList := ⟨wMk .lst, fun e K h => by
  obtain ⟨s, u, e1, us, h1, h2, h3, h4⟩ := wMk_is h
  exact ⟨_, by simp only [dList, h1, h2, h3, Option.bind_some, if_true], h4⟩⟩
def wTuple : PX := fun e K => topK e fun _ u e1 => optE (u.seq okL) fun us => bif' (U.immL us) (pushK e1 (.val (.node .tup us)) K) False
instance hx_tuple : HX dTuple := ⟨wTuple, fun e K h => by
  unfold wTuple at h
  obtain ⟨s, u, e1, h1, h⟩ := topK_is h
  obtain ⟨us, h2, h⟩ := optE_is h
  rcases bif_is h with ⟨hi, h⟩ | ⟨hi, h⟩
  · exact ⟨_, by simp only [dTuple, h1, h2, hi, Option.bind_some, if_true]; rfl, h⟩
  · exact h.elim⟩
def wCat : PX := fun e K => topK e fun _ u e1 => topK e1 fun _ v e2 => optE (v.seq ok0) fun us => optE (u.seq ok0) fun ws => bif' (U.immL us) (bif' (U.immL ws) (need (us.length + ws.length < 100000) (newK e2 (.node .lst (us ++ ws)) K)) False) False
instance hx_cat : HX dCat := ⟨wCat, fun e K h => by
  unfold wCat at h
  obtain ⟨s, u, e1, h1, h⟩ := topK_is h
  obtain ⟨s2, v, e2, h2, h⟩ := topK_is h
  obtain ⟨us, h3, h⟩ := optE_is h
  obtain ⟨ws, h4, h⟩ := optE_is h
  rcases bif_is h with ⟨i1, h⟩ | ⟨i1, h⟩
  · rcases bif_is h with ⟨i2, h⟩ | ⟨i2, h⟩
    · obtain ⟨h5, h⟩ := need_is h
      exact ⟨_, by simp only [dCat, h1, h2, h3, h4, Option.bind_some]; rw [if_pos ⟨i1, i2, h5⟩], newK_is h⟩
    · exact h.elim
  · exact h.elim⟩
def wCatT : PX := fun e K => topK e fun _ u e1 => topK e1 fun _ v e2 => optE (v.seq okT) fun us => optE (u.seq okT) fun ws => bif' (U.immL us) (bif' (U.immL ws) (need (us ≠ []) (need (us.length + ws.length < 100000) (pushK e2 (.val (.node .tup (us ++ ws))) K))) False) False
instance hx_catT : HX dCatT := ⟨wCatT, fun e K h => by
  unfold wCatT at h
  obtain ⟨s, u, e1, h1, h⟩ := topK_is h
  obtain ⟨s2, v, e2, h2, h⟩ := topK_is h
  obtain ⟨us, h3, h⟩ := optE_is h
  obtain ⟨ws, h4, h⟩ := optE_is h
  rcases bif_is h with ⟨i1, h⟩ | ⟨i1, h⟩
  · rcases bif_is h with ⟨i2, h⟩ | ⟨i2, h⟩
    · obtain ⟨h5, h⟩ := need_is h
      obtain ⟨h6, h⟩ := need_is h
      exact ⟨_, by simp only [dCatT, h1, h2, h3, h4, Option.bind_some]; rw [if_pos ⟨i1, i2, h5, h6⟩], h⟩
    · exact h.elim
  · exact h.elim⟩
def wRep : PX := fun e K => leafK' e fun y e0 => topK e0 fun _ u e1 => optE (asInt y) fun k => optE (u.seq ok0) fun us => bif' (U.immL us) (need (k < 1000 ∧ -1000 < k ∧ us.length < 1000) (newK e1 (.node .lst (List.replicate k.toNat us).flatten) K)) False
instance hx_rep : HX dRep := ⟨wRep, fun e K h => by
  unfold wRep at h
  obtain ⟨y, e0, h0, h⟩ := leafK_is h
  obtain ⟨s, u, e1, h1, h⟩ := topK_is h
  obtain ⟨k, h3, h⟩ := optE_is h
  obtain ⟨us, h4, h⟩ := optE_is h
  rcases bif_is h with ⟨i1, h⟩ | ⟨i1, h⟩
  · obtain ⟨h5, h⟩ := need_is h
    exact ⟨_, by simp only [dRep, h0, h1, h3, h4, Option.bind_some]; rw [if_pos ⟨i1, h5.1, h5.2.1, h5.2.2⟩], newK_is h⟩
  · exact h.elim⟩
def wListD : PX := fun e K => topK e fun _ u e1 => optE u.dic fun c => newK e1 (.node .lst (keyUs c.1)) K
instance hx_listD : HX dListD := ⟨wListD, fun e K h => by
  unfold wListD at h
  obtain ⟨s, u, e1, h1, h⟩ := topK_is h
  obtain ⟨c, h2, h⟩ := optE_is h
  exact ⟨_, by simp only [dListD, h1, h2, Option.bind_some, Option.map_some], newK_is h⟩⟩
def wDictD : PX := fun e K => topK e fun _ u e1 => optE u.dic fun c => bif' (U.immL c.2) (newK e1 (.node (.dic c.1) c.2) K) False
instance hx_dictD : HX dDictD := ⟨wDictD, fun e K h => by
  unfold wDictD at h
  obtain ⟨s, u, e1, h1, h⟩ := topK_is h
  obtain ⟨c, h2, h⟩ := optE_is h
  rcases bif_is h with ⟨i1, h⟩ | ⟨i1, h⟩
  · exact ⟨_, by simp only [dDictD, h1, h2, i1, Option.bind_some, if_true], newK_is h⟩
  · exact h.elim⟩
def wSortT : PX := fun e K => topK e fun _ u e1 => optE (u.seq okL) fun us => optW (tupKs us) fun l => need (alike l = true) (newK e1 (.node .lst ((sortK l).map tupU)) K)
instance hx_sortT : HX dSortT := ⟨wSortT, fun e K h => by
  unfold wSortT at h
  obtain ⟨s, u, e1, h1, h⟩ := topK_is h
  obtain ⟨us, h2, h⟩ := optE_is h
  obtain ⟨l, h3, h⟩ := optW_is h
  obtain ⟨h4, h⟩ := need_is h
  exact ⟨_, by simp only [dSortT, h1, h2, h3, h4, Option.bind_some, if_true], newK_is h⟩⟩
def strsU (us : List U) : Option (List Str) := (leavesU us).bind strsV
def wSortS : PX := fun e K => topK e fun _ u e1 => optE (u.seq okL) fun us => optW (strsU us) fun l => need (l.Nodup ∧ l.length < 64) (newK e1 (.node .lst ((sortS l).map fun z => .leaf (.str z))) K)
instance hx_sortS : HX dSortS := ⟨wSortS, fun e K h => by
  unfold wSortS at h
  obtain ⟨s, u, e1, h1, h⟩ := topK_is h
  obtain ⟨us, h2, h⟩ := optE_is h
  obtain ⟨l, h3, h⟩ := optW_is h
  obtain ⟨vs, h5, h6⟩ := Option.bind_eq_some_iff.mp h3
  obtain ⟨h4, h⟩ := need_is h
  exact ⟨_, by simp only [dSortS, h1, h2, h5, h6, Option.bind_some]; rw [if_pos h4], newK_is h⟩⟩
def lvU {α : Type} (f : List V → Option α) (us : List U) : Option α := (leavesU us).bind f
def wLv {α : Type} (f : List V → Option α) (g : α → Option V) : PX := fun e K => topK e fun _ u e1 => optE (u.seq okL) fun us => optW (lvU f us) fun x => optE (g x) fun z => pushK e1 (.val (.leaf z)) K
theorem wLv_is {α : Type} {f : List V → Option α} {g : α → Option V} {e : Env} {K : Env → Prop} (h : wLv f g e K) : ∃ e', dLv f g e = some e' ∧ K e' := by
  unfold wLv at h
  obtain ⟨s, u, e1, h1, h⟩ := topK_is h
  obtain ⟨us, h2, h⟩ := optE_is h
  obtain ⟨l, h3, h⟩ := optW_is h
  obtain ⟨vs, h5, h6⟩ := Option.bind_eq_some_iff.mp h3
  obtain ⟨z, h4, h⟩ := optE_is h
  exact ⟨_, by simp only [dLv, h1, h2, h5, h6, h4, Option.bind_some, Option.map_some], h⟩
instance hx_all : HX dAll := ⟨wLv bools fun bs => some (.bl (bs.all id)), fun e K h => wLv_is h⟩
instance hx_any : HX dAny := ⟨wLv bools fun bs => some (.bl (bs.any id)), fun e K h => wLv_is h⟩
instance hx_sum : HX dSum := ⟨wLv intsV fun ns => some (.int ns.sum), fun e K h => wLv_is h⟩
def wIsi : PX := fun e K => leafK' e fun y e0 => topK e0 fun _ u e1 => optE (tyU u) fun n => need (y = .ty n) (pushK e1 (.val (.leaf (.bl true))) K)
instance hx_isi : HX dIsi := ⟨wIsi, fun e K h => by
  unfold wIsi at h
  obtain ⟨y, e0, h0, h⟩ := leafK_is h
  obtain ⟨s, u, e1, h1, h⟩ := topK_is h
  obtain ⟨n, h2, h⟩ := optE_is h
  obtain ⟨h3, h⟩ := need_is h
  exact ⟨_, by simp only [dIsi, h0, h1, h2, h3, Option.bind_some, if_true], h⟩⟩
/-- == of data: told by a Bool that is to be given -/
@[irreducible] def eqvU (u v : U) : Option Bool := (u.dat).bind fun x => (v.dat).bind fun y => if SeqAt.shaped x = true ∧ SeqAt.shaped y = true then some (PyData.eqv x y) else none
def wEqD (neg : Bool) : PX := fun e K => topK e fun _ v e1 => topK e1 fun _ u e2 => optW (eqvU u v) fun b => match neg with
  | true => pushK e2 (.val (.leaf (.bl (!b)))) K
  | false => pushK e2 (.val (.leaf (.bl b))) K
instance hx_eqD (neg : Bool) : HX (dEqD neg) := ⟨wEqD neg, fun e K h => by
  unfold wEqD at h
  obtain ⟨s, v, e1, h1, h⟩ := topK_is h
  obtain ⟨s2, u, e2, h2, h⟩ := topK_is h
  obtain ⟨b, h3, h⟩ := optW_is h
  unfold eqvU at h3
  obtain ⟨x, h4, h5⟩ := Option.bind_eq_some_iff.mp h3
  obtain ⟨y, h6, h7⟩ := Option.bind_eq_some_iff.mp h5
  split at h7
  · rename_i hs
    obtain rfl := Option.some.inj h7
    refine ⟨_, by simp only [dEqD, h1, h2, h4, h6, Option.bind_some]; rw [if_pos hs], ?_⟩
    cases neg <;> exact h
  · cases h7⟩
end FB
namespace FB
open PySem PySem.Spec PyProof.Rows L2
def wAppend : PX := fun e K => takeK e fun u e1 => match e1 with
  | ⟨np, fz, st, sl, .ref j π :: tp⟩ => look1K st j π fun d => match d with
    | .node .lst us => need (us.length < 100000) (setUK st j π (.node .lst (us ++ [u])) fun st' => K ⟨np, fz, st', sl, .val (.leaf .non) :: tp⟩)
    | _ => False
  | _ => False
instance hx_append : HX dAppend := ⟨wAppend, fun e K h => by
  unfold wAppend at h
  obtain ⟨u, e1, h1, h⟩ := takeK_is h
  split at h
  · rename_i u0 u1 np fz st sl j π tp
    obtain ⟨d, h2, h⟩ := look1K_is h
    split at h
    · obtain ⟨hl, h⟩ := need_is h
      exact ⟨_, by simp only [dAppend, h1, h2, hl, Option.bind_some, if_true], setUK_is h⟩
    · exact h.elim
  · exact h.elim⟩
structure fputW (fs : List Str) (us : List U) (f : Str) (u : U) (K : List Str → List U → Prop) : Prop where
  h : match ixOf f fs with
  | some n => K fs (us.set n u)
  | none => K (fs ++ [f]) (us ++ [u])
theorem fputW_some {fs : List Str} {us : List U} {f : Str} {u : U} {K : List Str → List U → Prop} {n : Nat} (h : ixOf f fs = some n) (q : setK us n u fun us' => K fs us') : fputW fs us f u K := by
  refine ⟨?_⟩
  rw [h]
  rw [setK_iff] at q
  exact q
theorem fputW_none {fs : List Str} {us : List U} {f : Str} {u : U} {K : List Str → List U → Prop} (h : ixOf f fs = none) (q : snocK fs f fun fs' => snocK us u fun us' => K fs' us') : fputW fs us f u K := by
  refine ⟨?_⟩
  rw [h]
  rw [snocK_iff, snocK_iff] at q
  exact q
def wFSet (C : Addr) (f : Str) : PX
  | ⟨np, fz, st, sl, so :: sv :: tp⟩, K => takeK ⟨np, fz, st, sl, sv :: so :: tp⟩ fun u e1 => match e1 with
    | ⟨np, fz, st, sl, .ref j π :: tp⟩ => look1K st j π fun d => match d with
      | .node (.ins C' gs) us => need (C' = C) (need (us.length < 900) (match sl.all (quiet j π) && tp.all (quiet j π) with
        | true => fputW gs us f u fun gs' us' => setUK st j π (.node (.ins C gs') us') fun st' => K ⟨np, fz, st', sl, tp⟩
        | false => optW (ixOf f gs) fun n => setK us n u fun us' => setUK st j π (.node (.ins C gs) us') fun st' => slsK (kl j π (okN (· != n))) sl fun sl' => slsK (kl j π (okN (· != n))) tp fun tp' => K ⟨np, fz, st', sl', tp'⟩))
      | _ => False
    | _ => False
  | _, _ => False
instance hx_fset (C : Addr) (f : Str) : HX (dFSet C f) := ⟨wFSet C f, fun e K h => by
  unfold wFSet at h
  split at h
  · rename_i np fz st sl so sv tp K
    obtain ⟨u, e1, h1, h⟩ := takeK_is h
    split at h
    · rename_i u0 u1 np fz st sl j π tp
      obtain ⟨d, h3, h⟩ := look1K_is h
      split at h
      · rename_i d0 C' gs us
        obtain ⟨rfl, h⟩ := need_is h
        obtain ⟨hl, h⟩ := need_is h
        split at h
        · rename_i hq
          rw [Bool.and_eq_true] at hq
          unfold dFSet Env.swap
          simp only [h1, Option.bind_some]
          have h := h.h
          cases hx : ixOf f gs with
          | none =>
            rw [hx] at h
            refine ⟨_, ?_, setUK_is h⟩
            simp only [h3, hl, true_and, and_self, if_true]
            rw [hx]
          | some n =>
            rw [hx] at h
            refine ⟨_, ?_, setUK_is h⟩
            simp only [h3, hl, true_and, and_self, if_true]
            rw [hx]
            simp only [quiet_kls hq.1, quiet_kls hq.2]
        · obtain ⟨n, hx, h⟩ := optW_is h
          rw [setK_iff] at h
          have h := setUK_is h
          rw [slsK_iff, slsK_iff] at h
          unfold dFSet Env.swap
          simp only [h1, Option.bind_some]
          refine ⟨_, ?_, h⟩
          simp only [h3, hl, true_and, and_self, if_true]
          rw [hx]
      · exact h.elim
    · exact h.elim
  · exact h.elim⟩
def argK : List Sl → List Rt → (List Sl → List Rt → Prop) → Prop
  | [], acc, K => K [] acc
  | .val u :: r, acc, K => argK r acc fun as rs => K (.val u :: as) rs
  | .fref j π :: r, acc, K => argK r acc fun as rs => K (.fref j π :: as) rs
  | .ref j π :: r, acc, K => match ixOf (j, π) acc with
    | some i => natK i fun i' => argK r acc fun as rs => K (.ref i' [] :: as) rs
    | none => match acc.any (fun p => Nat.beq p.1 j) with
      | true => False
      | false => natK acc.length fun n => snocK acc (j, π) fun acc' => argK r acc' fun as rs => K (.ref n [] :: as) rs
  | .no :: _, _, _ => False
theorem argK_is : ∀ {ss : List Sl} {acc : List Rt} {K : List Sl → List Rt → Prop}, argK ss acc K → ∃ as rs, argSl ss acc = some (as, rs) ∧ K as rs
  | [], acc, K, h => ⟨[], acc, rfl, by rw [argK] at h; exact h⟩
  | .val u :: r, acc, K, h => by
    rw [argK] at h
    obtain ⟨as, rs, h1, h2⟩ := argK_is h
    exact ⟨_, _, by rw [argSl, h1]; rfl, h2⟩
  | .fref j π :: r, acc, K, h => by
    rw [argK] at h
    obtain ⟨as, rs, h1, h2⟩ := argK_is h
    exact ⟨_, _, by rw [argSl, h1]; rfl, h2⟩
  | .ref j π :: r, acc, K, h => by
    rw [argK] at h
    rw [argSl]
    split at h
    · rename_i i hi
      rw [natK_iff] at h
      obtain ⟨as, rs, h1, h2⟩ := argK_is h
      exact ⟨_, _, by (try rw [hi]); (try dsimp only); rw [h1]; rfl, h2⟩
    · rename_i hi
      split at h
      · exact h.elim
      · rename_i hb
        rw [natK_iff, snocK_iff] at h
        obtain ⟨as, rs, h1, h2⟩ := argK_is h
        refine ⟨_, _, ?_, h2⟩
        (try rw [hi])
        (try dsimp only)
        rw [if_neg, h1]
        · rfl
        · intro hm
          obtain ⟨p, hp, e⟩ := List.mem_map.mp hm
          have : acc.any (fun p => Nat.beq p.1 j) = true := List.any_eq_true.mpr ⟨p, hp, by rw [e]; exact Nat.beq_refl j⟩
          rw [hb] at this
          cases this
  | .no :: _, _, _, h => by rw [argK] at h; exact h.elim
def subsK (st : List U) : List Rt → (List U → Prop) → Prop
  | [], K => K []
  | (j, π) :: rs, K => look1K st j π fun u => subsK st rs fun us => K (u :: us)
theorem subsK_is {e : Env} : ∀ {rs : List Rt} {K : List U → Prop}, subsK e.st rs K → ∃ us, subsU e rs = some us ∧ K us
  | [], K, h => ⟨[], rfl, by rw [subsK] at h; exact h⟩
  | (j, π) :: rs, K, h => by
    rw [subsK] at h
    obtain ⟨u, h1, h⟩ := look1K_is h
    obtain ⟨us, h2, h⟩ := subsK_is h
    exact ⟨_, by rw [subsU]; show ((e.at j π).bind _) = _; unfold Env.at; rw [h1]; simp only [Option.bind_some, h2]; rfl, h⟩
def putAllK (st : List U) (rs : List Rt) (ws : List U) (K : List U → Prop) : Prop := match rs with
  | [] => K st
  | (j, π) :: rs' => match ws with
    | [] => False
    | w :: ws' => optE (nth st j) fun t => putK π t w fun t' => setK st j t' fun st' => putAllK st' rs' ws' K
termination_by structural rs
theorem putAllK_is : ∀ {rs : List Rt} {st ws : List U} {K : List U → Prop}, putAllK st rs ws K → K (putAllU st rs (ws.take rs.length))
  | [], st, ws, K, h => by
    rw [putAllK] at h
    cases ws <;> exact h
  | (j, π) :: rs, st, [], K, h => by rw [putAllK] at h; exact h.elim
  | (j, π) :: rs, st, w :: ws, K, h => by
    rw [putAllK] at h
    obtain ⟨t, h1, h⟩ := optE_is h
    have h := putK_is h
    rw [setK_iff] at h
    rw [nth_eq] at h1
    have h := putAllK_is h
    show K (putAllU st ((j, π) :: rs) (w :: ws.take rs.length))
    rw [putAllU, h1]
    exact h
def callK (F : Fn) (ss : List Sl) : PX
  | ⟨np, fz, st, sl, tp⟩, K => argK ss [] fun as rs => subsK st rs fun us => callW F fz us as fun r st' => putAllK st rs st' fun st2 => slsK (klAll rs) sl fun sl' => slsK (klAll rs) tp fun tp' => match r with
    | .val u => K ⟨np, fz, st2, sl', .val u :: tp'⟩
    | .ref i κ => match nth rs i with
      | some (j, π) => appK π κ fun π' => K ⟨np, fz, st2, sl', .ref j π' :: tp'⟩
      | none => optW (nth st' i) fun u => natK st2.length fun n => snocK st2 u fun st3 => K ⟨np, fz, st3, sl', .ref n κ :: tp'⟩
    | .fref i κ => K ⟨np, fz, st2, sl', .fref i κ :: tp'⟩
    | .no => False
theorem callK_is {F : Fn} {ss : List Sl} {e : Env} {K : Env → Prop} (h : callK F ss e K) : ∃ e', callF F ss e = some e' ∧ K e' := by
  obtain ⟨np, fz, st, sl, tp⟩ := e
  unfold callK at h
  obtain ⟨as, rs, h1, h⟩ := argK_is h
  obtain ⟨us, h2, h⟩ := subsK_is (e := ⟨np, fz, st, sl, tp⟩) h
  obtain ⟨r, st', h3, h⟩ := callW_is h
  have h := putAllK_is h
  rw [slsK_iff, slsK_iff] at h
  unfold callF
  rw [h1]
  simp only [Option.bind_some]
  rw [h2]
  simp only [Option.bind_some]
  rw [h3]
  simp only [Option.bind_some]
  cases r with
  | no => exact h.elim
  | val u => exact ⟨_, rfl, h⟩
  | fref i κ => exact ⟨_, rfl, h⟩
  | ref i κ =>
    dsimp only at h ⊢
    rw [nth_eq] at h
    cases hr : rs[i]? with
    | some p =>
      rw [hr] at h
      obtain ⟨j, π⟩ := p
      dsimp only at h ⊢
      rw [appK_iff] at h
      exact ⟨_, rfl, h⟩
    | none =>
      rw [hr] at h
      dsimp only at h ⊢
      obtain ⟨u, h4, h⟩ := optW_is h
      rw [natK_iff, snocK_iff] at h
      rw [nth_eq] at h4
      rw [h4]
      exact ⟨_, rfl, h⟩
def popsK : Nat → List Sl → List Sl → (List Sl → List Sl → Prop) → Prop
  | 0, tp, acc, K => K acc tp
  | n + 1, s :: tp, acc, K => popsK n tp (s :: acc) K
  | _ + 1, [], _, _ => False
theorem popsK_is : ∀ {n : Nat} {tp acc : List Sl} {K : List Sl → List Sl → Prop}, popsK n tp acc K → K ((tp.take n).reverse ++ acc) (tp.drop n)
  | 0, tp, acc, K, h => by rw [popsK] at h; simpa using h
  | n + 1, s :: tp, acc, K, h => by
    rw [popsK] at h
    have := popsK_is h
    simpa using this
  | _ + 1, [], _, _, h => by rw [popsK] at h; exact h.elim
def wCall (F : Fn) (n : Nat) : PX
  | ⟨np, fz, st, sl, tp⟩, K => popsK n tp [] fun ss tp' => callK F ss ⟨np, fz, st, sl, tp'⟩ K
instance hx_call (F : Fn) (n : Nat) : HX (dCall F n) := ⟨wCall F n, fun e K h => by
  obtain ⟨np, fz, st, sl, tp⟩ := e
  unfold wCall at h
  have h := popsK_is h
  rw [List.append_nil] at h
  exact callK_is h⟩
def wRecv (C : Addr) (m : Str) : PX := fun e K => topK e fun _ u _ => match u with
  | .node (.ins C' fs) _ => need (C' = C) (need (ixOf m fs = none) (K e))
  | _ => False
instance hx_recv (C : Addr) (m : Str) : HX (dRecv C m) := ⟨wRecv C m, fun e K h => by
  unfold wRecv at h
  obtain ⟨s, u, e1, h1, h⟩ := topK_is h
  unfold dRecv
  rw [h1]
  simp only [Option.bind_some]
  split at h
  · obtain ⟨h2, h⟩ := need_is h
    obtain ⟨h3, h⟩ := need_is h
    exact ⟨e, by (try dsimp only); rw [if_pos ⟨h2, h3⟩], h⟩
  · exact h.elim⟩
def wMake (C : Addr) (F : Fn) (n : Nat) : PX
  | ⟨np, fz, st, sl, tp⟩, K => popsK n tp [] fun ss tp' => natK st.length fun m => snocK st (.node (.ins C []) []) fun st' => callK F (.ref m [] :: ss) ⟨np, fz, st', sl, .ref m [] :: tp'⟩ fun e1 => match e1 with
    | ⟨np, fz, st, sl, .val (.leaf .non) :: tp⟩ => K ⟨np, fz, st, sl, tp⟩
    | _ => False
instance hx_make (C : Addr) (F : Fn) (n : Nat) : HX (dMake C F n) := ⟨wMake C F n, fun e K h => by
  obtain ⟨np, fz, st, sl, tp⟩ := e
  unfold wMake at h
  have h := popsK_is h
  rw [List.append_nil, natK_iff, snocK_iff] at h
  obtain ⟨e1, h1, h⟩ := callK_is h
  unfold dMake
  dsimp only
  rw [h1]
  split at h
  · exact ⟨_, rfl, h⟩
  · exact h.elim⟩
def kidsK (s : Sl) : Nat → List U → (List Sl → Prop) → Prop
  | _, [], K => K []
  | i, u :: us, K => kidK s i u fun s' => kidsK s (i + 1) us fun l => K (s' :: l)
theorem kidsK_is {s : Sl} : ∀ {us : List U} {i : Nat} {K : List Sl → Prop}, kidsK s i us K → K (kids s i us)
  | [], i, K, h => by rw [kidsK] at h; exact h
  | u :: us, i, K, h => by
    rw [kidsK] at h
    exact kidsK_is (K := fun l => K (kidS s i u :: l)) (kidK_is h)
def wTupD (n : Nat) (b : PX) : PX := fun e K => topK e fun s u e1 => optE (u.seq okT) fun us => need (us.length = n) (kidsK s 0 us fun l => match e1 with
  | ⟨np, fz, st, sl, tp⟩ => appK l tp fun tp' => b ⟨np, fz, st, sl, tp'⟩ K)
instance hx_tupD (n : Nat) (b : DX) [B : HX b] : HX (gTupD n b) := ⟨wTupD n B.w, fun e K h => by
  unfold wTupD at h
  obtain ⟨s, u, e1, h1, h⟩ := topK_is h
  obtain ⟨us, h2, h⟩ := optE_is h
  obtain ⟨h3, h⟩ := need_is h
  have h := kidsK_is h
  obtain ⟨np, fz, st, sl, tp⟩ := e1
  dsimp only at h
  rw [appK_iff] at h
  obtain ⟨e2, h4, h⟩ := B.ok _ _ h
  refine ⟨e2, ?_, h⟩
  unfold gTupD
  simp only [h1, h2, Option.bind_some]
  rw [if_pos h3]
  exact h4⟩
def wFor1 (a : PX) (b : DX) (body : DS) (e : Env) (K : Out → Prop) : Prop := a e fun e1 => leafK' e1 fun y e2 => match y with
  | .int j => need (-(2 ^ 62) ≤ j ∧ j < 2 ^ 62) (loopW b body (rngSl 0 j.toNat) e2 K)
  | _ => False
instance hs_for1 (a b : DX) (body : DS) [A : HX a] : HS (sForR1 a b body) := ⟨wFor1 A.w b body, fun e K h => by
  unfold wFor1 at h
  obtain ⟨e1, h1, h⟩ := A.ok _ _ h
  obtain ⟨y, e2, h2, h⟩ := leafK_is h
  split at h
  · obtain ⟨h3, h⟩ := need_is h
    obtain ⟨o, h4, h⟩ := loopW_is h
    exact ⟨o, by simp only [sForR1, h1, h2, Option.bind_some, asInt]; rw [if_pos h3]; exact h4, h⟩
  · exact h.elim⟩
/-- the slots behind, as they were called ahead -/
structure mapW (f : Sl → Sl) (l : List Sl) (K : List Sl → Prop) : Prop where
  h : K (l.map f)
theorem mapW_is {f : Sl → Sl} {l : List Sl} {K : List Sl → Prop} (h : mapW f l K) : K (l.map f) := h.h
def thawE (fz : List U) (u : U) (j m : Nat) (K : Env → Prop) : Env → Prop
  | ⟨np, fz', st, sl, tp⟩ => need (fz' = fz ++ [u]) (need (m = fz.length) (match nth st j with
    | some (.leaf .non) => setK st j u fun st' => mapW (ufS j m) sl fun sl' => mapW (ufS j m) tp fun tp' => K ⟨np, fz, st', sl', tp'⟩
    | _ => False))
theorem thawE_is {fz : List U} {u : U} {j m : Nat} {K : Env → Prop} {e : Env} (h : thawE fz u j m K e) : ∃ e', e.thaw j m = some e' ∧ K e' := by
  obtain ⟨np, fz', st, sl, tp⟩ := e
  unfold thawE at h
  obtain ⟨g1, g2⟩ := need_is h
  obtain ⟨g3, g4⟩ := need_is g2
  subst g1 g3
  split at g4
  · rename_i hn
    rw [setK_iff] at g4
    have g5 := mapW_is (mapW_is g4)
    rw [nth_eq] at hn
    refine ⟨_, ?_, g5⟩
    unfold Env.thaw
    dsimp only
    rw [hn, List.getElem?_append_right (Nat.le_refl _), Nat.sub_self]
    dsimp only [List.getElem?_cons_zero]
    rw [if_pos (by rfl)]
    rw [List.take_left]
  · exact g4.elim
def popFE (fz : List U) (u : U) (m : Nat) (K : Env → Prop) : Env → Prop
  | ⟨np, fz', st, sl, tp⟩ => need (fz' = fz ++ [u]) (need (m = fz.length) (mapW (dropF m) sl fun sl' => mapW (dropF m) tp fun tp' => K ⟨np, fz, st, sl', tp'⟩))
theorem popFE_is {fz : List U} {u : U} {m : Nat} {K : Env → Prop} {e : Env} (h : popFE fz u m K e) : ∃ e', e.popF m = some e' ∧ K e' := by
  obtain ⟨np, fz', st, sl, tp⟩ := e
  unfold popFE at h
  obtain ⟨g1, g2⟩ := need_is h
  obtain ⟨g3, g4⟩ := need_is g2
  subst g1 g3
  have g5 := mapW_is (mapW_is g4)
  refine ⟨_, ?_, g5⟩
  unfold Env.popF
  dsimp only
  rw [List.take_left]
def freezeK (j : Nat) : Env → (U → Env → Prop) → Prop
  | ⟨np, fz, st, sl, tp⟩, K => optE (nth st j) fun u => setK st j (.leaf .non) fun st' => slsK (fzS j fz.length) sl fun sl' => slsK (fzS j fz.length) tp fun tp' => K u ⟨np, fz ++ [u], st', sl', tp'⟩
theorem freezeK_is {j : Nat} {e : Env} {K : U → Env → Prop} (h : freezeK j e K) : ∃ u e', e.freeze j = some e' ∧ K u e' := by
  obtain ⟨np, fz, st, sl, tp⟩ := e
  unfold freezeK at h
  obtain ⟨u, h1, h⟩ := optE_is h
  rw [setK_iff, slsK_iff, slsK_iff] at h
  rw [nth_eq] at h1
  exact ⟨u, _, by unfold Env.freeze; dsimp only; rw [h1]; rfl, h⟩
def outK (T : (Env → Prop) → Env → Prop) (K : Out → Prop) : Out → Prop
  | .nx e => T (fun e' => K (.nx e')) e
  | .rt e => T (fun e' => K (.rt e')) e
  | .bk e => T (fun e' => K (.bk e')) e
  | .ct e => T (fun e' => K (.ct e')) e
theorem outK_is {T : (Env → Prop) → Env → Prop} {f : Env → Option Env} (hT : ∀ K e, T K e → ∃ e', f e = some e' ∧ K e') {K : Out → Prop} {o : Out} (h : outK T K o) : ∃ o', outMap f o = some o' ∧ K o' := by
  cases o with
  | nx e => obtain ⟨e', h1, h2⟩ := hT _ _ h; exact ⟨_, by unfold outMap; dsimp only; rw [h1]; rfl, h2⟩
  | rt e => obtain ⟨e', h1, h2⟩ := hT _ _ h; exact ⟨_, by unfold outMap; dsimp only; rw [h1]; rfl, h2⟩
  | bk e => obtain ⟨e', h1, h2⟩ := hT _ _ h; exact ⟨_, by unfold outMap; dsimp only; rw [h1]; rfl, h2⟩
  | ct e => obtain ⟨e', h1, h2⟩ := hT _ _ h; exact ⟨_, by unfold outMap; dsimp only; rw [h1]; rfl, h2⟩
/-- the items to be walked -/
def itsK (s : Sl) (us : List U) (K : List Sl → Prop) : Prop := bif' (U.immL us) (K (us.map .val)) (K (kids s 0 us))
theorem itsK_is {s : Sl} {us : List U} {K : List Sl → Prop} (h : itsK s us K) : K (kids s 0 us) := by
  rcases bif_is h with ⟨hi, h⟩ | ⟨_, h⟩
  · rw [kids_imm _ 0 us hi]
    exact h
  · exact h
def fzK (e : Env) (K : List U → Prop) : Prop := match e with
  | ⟨_, fz, _, _, _⟩ => K fz
theorem fzK_is {e : Env} {K : List U → Prop} (h : fzK e K) : K e.fz := by
  obtain ⟨np, fz, st, sl, tp⟩ := e
  exact h
def wForS (ok : Kd → Bool) (a : PX) (b : DX) (body : DS) (e : Env) (K : Out → Prop) : Prop := a e fun e1 => topK e1 fun s u e2 => optE (u.seq ok) fun us => match s with
  | .ref j π => fzK e2 fun fz2 => freezeK j e2 fun u0 e3 => itsK (.fref fz2.length π) us fun its => loopW b body its e3 (outK (thawE fz2 u0 j fz2.length) K)
  | .val u => fzK e2 fun fz2 => itsK (.fref fz2.length []) us fun its => match e2 with
    | ⟨np, fz, st, sl, tp⟩ => loopW b body its ⟨np, fz ++ [u], st, sl, tp⟩ (outK (popFE fz u fz.length) K)
  | .fref m π => itsK (.fref m π) us fun its => loopW b body its e2 K
  | .no => False
instance hs_forS (ok : Kd → Bool) (a b : DX) (body : DS) [A : HX a] : HS (sForS ok a b body) := ⟨wForS ok A.w b body, fun e K h => by
  unfold wForS at h
  obtain ⟨e1, h1, h⟩ := A.ok _ _ h
  obtain ⟨s, u, e2, h2, h⟩ := topK_is h
  obtain ⟨us, h3, h⟩ := optE_is h
  unfold sForS
  simp only [h1, h2, h3, Option.bind_some]
  cases s with
  | no => exact h.elim
  | ref j π =>
    dsimp only at h ⊢
    obtain ⟨u0, e3, h4, h⟩ := freezeK_is (fzK_is h)
    obtain ⟨o, h5, h⟩ := loopW_is (itsK_is h)
    obtain ⟨o', h6, h⟩ := outK_is (T := thawE e2.fz u0 j e2.fz.length) (f := fun e => e.thaw j e2.fz.length) (fun K e => thawE_is) h
    exact ⟨o', by rw [h4]; simp only [Option.bind_some]; rw [h5]; exact h6, h⟩
  | val u =>
    dsimp only at h ⊢
    have h := itsK_is (fzK_is h)
    obtain ⟨np, fz, st, sl, tp⟩ := e2
    obtain ⟨o, h5, h⟩ := loopW_is h
    obtain ⟨o', h6, h⟩ := outK_is (T := popFE fz u fz.length) (f := fun e => e.popF fz.length) (fun K e => popFE_is) h
    exact ⟨o', by unfold Env.pushF; dsimp only; rw [h5]; exact h6, h⟩
  | fref m π =>
    dsimp only at h ⊢
    obtain ⟨o, h5, h⟩ := loopW_is (itsK_is h)
    exact ⟨o, h5, h⟩⟩
def newLK (vs : List Nat) : Env → (Env → Prop) → Prop
  | ⟨np, fz, st, sl, tp⟩, K => wipeK sl vs fun sl' => newK ⟨np, fz, st, sl', tp⟩ (.node .lst []) K
theorem newLK_is {vs : List Nat} {e : Env} {K : Env → Prop} (h : newLK vs e K) : K (e.newL vs) := by
  obtain ⟨np, fz, st, sl, tp⟩ := e
  unfold newLK at h
  dsimp only at h
  rw [wipeK_iff] at h
  exact newK_is h
def wipeE (vs : List Nat) (K : Env → Prop) : Env → Prop
  | ⟨np, fz, st, sl, tp⟩ => wipeK sl vs fun sl' => K ⟨np, fz, st, sl', tp⟩
theorem wipeE_is {vs : List Nat} {e : Env} {K : Env → Prop} (h : wipeE vs K e) : K (e.wipe vs) := by
  obtain ⟨np, fz, st, sl, tp⟩ := e
  unfold wipeE at h
  dsimp only at h
  rw [wipeK_iff] at h
  exact h
def wLcR1 (vs : List Nat) (a : PX) (b : DX) (t : DT) (x : DX) (e : Env) (K : Env → Prop) : Prop := a e fun e1 => leafK' e1 fun y e2 => match y with
  | .int j => need (-(2 ^ 62) ≤ j ∧ j < 2 ^ 62) (newLK vs e2 fun e3 => lcW vs b t x (rngSl 0 j.toNat) e3 (wipeE vs K))
  | _ => False
instance hx_lcR1 (vs : List Nat) (a b : DX) (t : DT) (x : DX) [A : HX a] : HX (dLcR1 vs a b t x) := ⟨wLcR1 vs A.w b t x, fun e K h => by
  unfold wLcR1 at h
  obtain ⟨e1, h1, h⟩ := A.ok _ _ h
  obtain ⟨y, e2, h2, h⟩ := leafK_is h
  split at h
  · obtain ⟨h3, h⟩ := need_is h
    obtain ⟨o, h4, h⟩ := lcW_is (newLK_is h)
    exact ⟨_, by simp only [dLcR1, h1, h2, Option.bind_some, asInt]; rw [if_pos h3, h4]; rfl, wipeE_is h⟩
  · exact h.elim⟩
def wLcS (ok : Kd → Bool) (vs : List Nat) (a : PX) (b : DX) (t : DT) (x : DX) (e : Env) (K : Env → Prop) : Prop := a e fun e1 => topK e1 fun s u e2 => optE (u.seq ok) fun us => match s with
  | .ref j π => fzK e2 fun fz2 => freezeK j e2 fun u0 e3 => itsK (.fref fz2.length π) us fun its => newLK vs e3 fun e4 => lcW vs b t x its e4 (wipeE vs (thawE fz2 u0 j fz2.length K))
  | .val u => fzK e2 fun fz2 => itsK (.fref fz2.length []) us fun its => match e2 with
    | ⟨np, fz, st, sl, tp⟩ => newLK vs ⟨np, fz ++ [u], st, sl, tp⟩ fun e4 => lcW vs b t x its e4 (wipeE vs (popFE fz u fz.length K))
  | .fref m π => itsK (.fref m π) us fun its => newLK vs e2 fun e4 => lcW vs b t x its e4 (wipeE vs K)
  | .no => False
instance hx_lcS (ok : Kd → Bool) (vs : List Nat) (a b : DX) (t : DT) (x : DX) [A : HX a] : HX (dLcS ok vs a b t x) := ⟨wLcS ok vs A.w b t x, fun e K h => by
  unfold wLcS at h
  obtain ⟨e1, h1, h⟩ := A.ok _ _ h
  obtain ⟨s, u, e2, h2, h⟩ := topK_is h
  obtain ⟨us, h3, h⟩ := optE_is h
  unfold dLcS
  simp only [h1, h2, h3, Option.bind_some]
  cases s with
  | no => exact h.elim
  | ref j π =>
    dsimp only at h ⊢
    obtain ⟨u0, e3, h4, h⟩ := freezeK_is (fzK_is h)
    obtain ⟨e5, h5, h⟩ := lcW_is (newLK_is (itsK_is h))
    obtain ⟨e6, h6, h⟩ := thawE_is (wipeE_is h)
    exact ⟨e6, by rw [h4]; simp only [Option.bind_some]; rw [h5]; exact h6, h⟩
  | val u =>
    dsimp only at h ⊢
    have h := itsK_is (fzK_is h)
    obtain ⟨np, fz, st, sl, tp⟩ := e2
    obtain ⟨e5, h5, h⟩ := lcW_is (newLK_is h)
    obtain ⟨e6, h6, h⟩ := popFE_is (wipeE_is h)
    exact ⟨e6, by unfold Env.pushF; dsimp only; rw [h5]; exact h6, h⟩
  | fref m π =>
    dsimp only at h ⊢
    obtain ⟨e5, h5, h⟩ := lcW_is (newLK_is (itsK_is h))
    exact ⟨_, by rw [h5]; rfl, wipeE_is h⟩⟩
def wGen (ok : Kd → Bool) (st : Bool) (P : Addr) (vs : List Nat) (a : PX) (b : DX) (x : DX) (e : Env) (K : Env → Prop) : Prop := a e fun e1 => topK e1 fun s u e2 => optE (u.seq ok) fun us => fzK e2 fun fz2 => need (fz2.any (isTab P) = true) (match s with
  | .ref j π => freezeK j e2 fun u0 e3 => itsK (.fref fz2.length π) us fun its => wipeE vs (fun e4 => genW st vs b x its e4 (wipeE vs (thawE fz2 u0 j fz2.length K))) e3
  | .val u => fzK e2 fun fz2 => itsK (.fref fz2.length []) us fun its => match e2 with
    | ⟨np, fz, st', sl, tp⟩ => wipeE vs (fun e4 => genW st vs b x its e4 (wipeE vs (popFE fz u fz.length K))) ⟨np, fz ++ [u], st', sl, tp⟩
  | .fref m π => itsK (.fref m π) us fun its => wipeE vs (fun e4 => genW st vs b x its e4 (wipeE vs K)) e2
  | .no => False)
instance hx_gen (ok : Kd → Bool) (st : Bool) (P : Addr) (vs : List Nat) (a b x : DX) [A : HX a] : HX (dGen ok st P vs a b x) := ⟨wGen ok st P vs A.w b x, fun e K h => by
  unfold wGen at h
  obtain ⟨e1, h1, h⟩ := A.ok _ _ h
  obtain ⟨s, u, e2, h2, h⟩ := topK_is h
  obtain ⟨us, h3, h⟩ := optE_is h
  obtain ⟨hP, h⟩ := need_is (fzK_is h)
  unfold dGen
  simp only [h1, h2, h3, Option.bind_some]
  rw [if_pos hP]
  cases s with
  | no => exact h.elim
  | ref j π =>
    dsimp only at h ⊢
    obtain ⟨u0, e3, h4, h⟩ := freezeK_is h
    obtain ⟨e5, h5, h⟩ := genW_is (wipeE_is (itsK_is h))
    obtain ⟨e6, h6, h⟩ := thawE_is (wipeE_is h)
    exact ⟨e6, by rw [h4]; simp only [Option.bind_some]; rw [h5]; exact h6, h⟩
  | val u =>
    dsimp only at h ⊢
    have h := itsK_is (fzK_is h)
    obtain ⟨np, fz, st', sl, tp⟩ := e2
    obtain ⟨e5, h5, h⟩ := genW_is (wipeE_is h)
    obtain ⟨e6, h6, h⟩ := popFE_is (wipeE_is h)
    exact ⟨e6, by unfold Env.pushF; dsimp only; rw [h5]; exact h6, h⟩
  | fref m π =>
    dsimp only at h ⊢
    obtain ⟨e5, h5, h⟩ := genW_is (wipeE_is (itsK_is h))
    exact ⟨_, by rw [h5]; rfl, wipeE_is h⟩⟩
def takePK : Nat → Env → (List (Key × U) → Env → Prop) → Prop
  | 0, e, K => K [] e
  | n + 1, e, K => takeK e fun u e1 => leafK' e1 fun y e2 => optE (keyOf y) fun k => takePK n e2 fun q e3 => snocK q (k, u) fun q' => K q' e3
theorem takePK_is : ∀ {n : Nat} {e : Env} {K : List (Key × U) → Env → Prop}, takePK n e K → ∃ q e1, takeP n e = some (q, e1) ∧ K q e1
  | 0, e, K, h => ⟨[], e, rfl, by rw [takePK] at h; exact h⟩
  | n + 1, e, K, h => by
    rw [takePK] at h
    obtain ⟨u, e1, h1, h⟩ := takeK_is h
    obtain ⟨y, e2, h2, h⟩ := leafK_is h
    obtain ⟨k, h3, h⟩ := optE_is h
    obtain ⟨q, e3, h4, h⟩ := takePK_is h
    rw [snocK_iff] at h
    exact ⟨_, e3, by rw [takeP, h1]; simp only [Option.bind_some, h2, h3, h4, Option.map_some], h⟩
def unzK : List (Key × U) → (List Key → List U → Prop) → Prop
  | [], K => K [] []
  | (k, u) :: l, K => unzK l fun ks us => K (k :: ks) (u :: us)
theorem unzK_iff : ∀ {l : List (Key × U)} {K : List Key → List U → Prop}, unzK l K ↔ K (l.map (·.1)) (l.map (·.2))
  | [], K => by rw [unzK]; rfl
  | (k, u) :: l, K => by rw [unzK, unzK_iff]; rfl
def wDisp (n : Nat) (d : PX) : PX := fun e K => newK e (.node (.dic []) []) fun e0 => d e0 fun e1 => takePK n e1 fun q e2 => match e2 with
  | ⟨np, fz, st, sl, .ref j [] :: tp⟩ => match nth st j with
    | some (.node (.dic []) _) => unzK q fun ks us => need (ks.Nodup) (setK st j (.node (.dic ks) us) fun st' => K ⟨np, fz, st', sl, .ref j [] :: tp⟩)
    | _ => False
  | _ => False
instance hx_disp (n : Nat) (d : DX) [D : HX d] : HX (dDisp n d) := ⟨wDisp n D.w, fun e K h => by
  unfold wDisp at h
  obtain ⟨e1, h1, h⟩ := D.ok _ _ (newK_is h)
  obtain ⟨q, e2, h2, h⟩ := takePK_is h
  split at h
  · rename_i a b np fz st sl j tp
    split at h
    · rename_i us hn
      rw [unzK_iff] at h
      obtain ⟨h3, h⟩ := need_is h
      rw [setK_iff] at h
      rw [nth_eq] at hn
      refine ⟨_, ?_, h⟩
      unfold dDisp
      simp only [h1, h2, Option.bind_some]
      have e9 : look1 st j [] = some (.node (.dic []) us) := by unfold look1; rw [hn]; rfl
      rw [e9]
      dsimp only
      rw [if_pos h3]
      unfold setU
      rw [hn]
      rfl
    · exact h.elim
  · exact h.elim⟩
end FB
namespace FB
open PySem PySem.Spec PyProof.Rows L2
theorem bif_dec {p : Prop} [Decidable p] {A B : Prop} (ha : p → A) (hb : ¬ p → B) : bif' (decide p) A B := bif_case (fun h => ha (of_decide_eq_true h)) fun h => hb (of_decide_eq_false h)
theorem bif_ndec {p : Prop} [Decidable p] {A B : Prop} (ha : ¬ p → A) (hb : p → B) : bif' (!decide p) A B := bif_case (fun h => ha (by simpa using h)) fun h => hb (by simpa using h)
theorem bif_neg {t : Bool} {A B : Prop} (ha : t = false → A) (hb : t = true → B) : bif' (!t) A B := bif_case (fun h => ha (by simpa using h)) fun h => hb (by simpa using h)
theorem bif_dt {p : Prop} [Decidable p] {A B : Prop} (h : p) (ha : A) : bif' (decide p) A B := bif_t (decide_eq_true h) ha
theorem bif_df {p : Prop} [Decidable p] {A B : Prop} (h : ¬ p) (ha : B) : bif' (decide p) A B := bif_f (decide_eq_false h) ha
theorem bif_ndt {p : Prop} [Decidable p] {A B : Prop} (h : ¬ p) (ha : A) : bif' (!decide p) A B := bif_t (by simpa using h) ha
theorem bif_ndf {p : Prop} [Decidable p] {A B : Prop} (h : p) (ha : B) : bif' (!decide p) A B := bif_f (by simpa using h) ha
theorem bif_nt {t : Bool} {A B : Prop} (h : t = false) (ha : A) : bif' (!t) A B := bif_t (by simpa using h) ha
theorem bif_nf {t : Bool} {A B : Prop} (h : t = true) (ha : B) : bif' (!t) A B := bif_f (by simpa using h) ha
theorem small_or {i j : Int} (h : (-(2 ^ 64) < i ∧ i < 2 ^ 64) ∨ (-(2 ^ 64) < j ∧ j < 2 ^ 64)) : (small64 i || small64 j) = true := by
  unfold small64
  rw [Bool.or_eq_true]
  exact h.imp decide_eq_true decide_eq_true
theorem need_dec {p : Prop} [Decidable p] {A : Prop} (h : p) (k : A) : need (decide p = true) A := need_mk (decide_eq_true h) k
theorem need_small {i j : Int} {A : Prop} (h : (-(2 ^ 64) < i ∧ i < 2 ^ 64) ∨ (-(2 ^ 64) < j ∧ j < 2 ^ 64)) (k : A) : need ((small64 i || small64 j) = true) A := need_mk (small_or h) k
theorem need_rng {i : Int} {A : Prop} (h : -(2 ^ 62) ≤ i) (h2 : i < 2 ^ 62) (k : A) : need (-(2 ^ 62) ≤ i ∧ i < 2 ^ 62) A := need_mk ⟨h, h2⟩ k
/-- a place in a list that stands there -/
theorem ixU_some {us : List U} {i : Int} {n : Nat} {u : U} (h : us[n]? = some u) (hi : i = n) : ixU us i = some (n, u) := by
  subst hi
  have hn := (List.getElem?_eq_some_iff.mp h).1
  unfold ixU ixN
  rw [if_pos (by omega), if_pos (by omega)]
  show ((us[(n : Int).toNat]?).map _) = _
  rw [Int.toNat_natCast, h]
  rfl
theorem ixU_neg {us : List U} {i : Int} {n : Nat} {u : U} (h : us[n]? = some u) (hi : i < 0) (he : i + us.length = n) : ixU us i = some (n, u) := by
  have hn := (List.getElem?_eq_some_iff.mp h).1
  unfold ixU ixN
  rw [if_neg (by omega), if_pos (by omega), he]
  show ((us[(n : Int).toNat]?).map _) = _
  rw [Int.toNat_natCast, h]
  rfl
theorem immL_map {α : Type} {f : α → U} (h : ∀ x, (f x).imm = true) : ∀ l : List α, U.immL (l.map f) = true
  | [] => by rw [List.map_nil, U.immL]
  | x :: l => by rw [List.map_cons, U.immL, h, immL_map h l]; rfl
instance {α : Type} (f : α → U) (l : List α) [h : ∀ x, Imm (f x)] : ImmL (l.map f) := ⟨immL_map (fun x => (h x).h) l⟩
instance {us ws : List U} [a : ImmL us] [b : ImmL ws] : ImmL (us ++ ws) := ⟨by
  have a := a.h
  induction us with
  | nil => exact b.h
  | cons u us ih =>
    rw [U.immL, Bool.and_eq_true] at a
    rw [List.cons_append, U.immL, a.1, ih a.2]
    rfl⟩
theorem look1_last {fz : List U} {u : U} {π : List Nat} : look1 (fz ++ [u]) fz.length π = u.get π := by
  unfold look1
  rw [List.getElem?_append_right (Nat.le_refl _), Nat.sub_self]
  rfl
theorem pushK_is {e : Env} {s : Sl} {K : Env → Prop} (h : pushK e s K) : K { e with tp := s :: e.tp } := by
  obtain ⟨np, fz, st, sl, tp⟩ := e
  exact h
/-- a loop, turn by turn: what holds ahead of each, or an end -/
theorem loopW_run {b : DX} {body : DS} [B : HX b] [D : HS body] {K : Out → Prop} : ∀ (its : List Sl) (I : Nat → Env → Prop) {e : Env}, I 0 e → (∀ (k : Nat) (s : Sl) (e : Env), its[k]? = some s → I k e → pushK e s fun e0 => B.w e0 fun e1 => D.w e1 fun o => match o with
    | .nx e' => I (k + 1) e'
    | .ct e' => I (k + 1) e'
    | .bk e' => K (.nx e')
    | .rt e' => K (.rt e')) → (∀ e', I its.length e' → K (.nx e')) → loopW b body its e K
  | [], I, e, h, _, hk => loopW_mk (o := .nx e) (by rw [loopL]) (hk e h)
  | s :: r, I, e, h, hs, hk => by
    have h0 := hs 0 s e rfl h
    obtain ⟨e1, h1, h2⟩ := B.ok _ _ (pushK_is h0)
    obtain ⟨o, h3, h4⟩ := D.ok _ _ h2
    have step : ∀ e', I 1 e' → loopW b body r e' K := fun e' h' => loopW_run r (fun k => I (k + 1)) h' (fun k s e hm => hs (k + 1) s e (by simpa using hm)) hk
    cases o with
    | nx e' =>
      obtain ⟨o, h5, h6⟩ := loopW_is (step e' h4)
      exact loopW_mk (o := o) (by rw [loopL, h1]; simp only [Option.bind_some, h3]; exact h5) h6
    | ct e' =>
      obtain ⟨o, h5, h6⟩ := loopW_is (step e' h4)
      exact loopW_mk (o := o) (by rw [loopL, h1]; simp only [Option.bind_some, h3]; exact h5) h6
    | bk e' => exact loopW_mk (o := .nx e') (by rw [loopL, h1]; simp only [Option.bind_some, h3]) h4
    | rt e' => exact loopW_mk (o := .rt e') (by rw [loopL, h1]; simp only [Option.bind_some, h3]) h4
def wAppK : PX := fun e K => takeK e fun u e1 => match e1 with
  | ⟨np, fz, st, sl, .ref j π :: tp⟩ => look1K st j π fun d => match d with
    | .node .lst us => need (us.length < 100000) (setUK st j π (.node .lst (us ++ [u])) fun st' => K ⟨np, fz, st', sl, .ref j π :: tp⟩)
    | _ => False
  | _ => False
theorem wAppK_is {e : Env} {K : Env → Prop} (h : wAppK e K) : ∃ e', dAppK e = some e' ∧ K e' := by
  unfold wAppK at h
  obtain ⟨u, e1, h1, h⟩ := takeK_is h
  split at h
  · rename_i u0 u1 np fz st sl j π tp
    obtain ⟨d, h2, h⟩ := look1K_is h
    split at h
    · obtain ⟨hl, h⟩ := need_is h
      exact ⟨_, by simp only [dAppK, h1, h2, hl, Option.bind_some, if_true], setUK_is h⟩
    · exact h.elim
  · exact h.elim
theorem lcW_run {vs : List Nat} {b : DX} {t : DT} {x : DX} [B : HX b] [T : HT t] [X : HX x] {K : Env → Prop} : ∀ (its : List Sl) (I : Nat → Env → Prop) {e : Env}, I 0 e → (∀ (k : Nat) (s : Sl) (e : Env), its[k]? = some s → I k e → pushK e s fun e0 => B.w e0 fun e1 => T.w e1 fun c e2 => bif' c (X.w e2 fun e3 => wAppK e3 fun e4 => wipeE vs (I (k + 1)) e4) (wipeE vs (I (k + 1)) e2)) → (∀ e', I its.length e' → K e') → lcW vs b t x its e K
  | [], I, e, h, _, hk => lcW_mk (e' := e) (by rw [loopC]) (hk e h)
  | s :: r, I, e, h, hs, hk => by
    have h0 := hs 0 s e rfl h
    obtain ⟨e1, h1, h2⟩ := B.ok _ _ (pushK_is h0)
    obtain ⟨c, e2, h3, h4⟩ := T.ok _ _ h2
    have step : ∀ e', I 1 e' → lcW vs b t x r e' K := fun e' h' => lcW_run r (fun k => I (k + 1)) h' (fun k s e hm => hs (k + 1) s e (by simpa using hm)) hk
    rcases bif_is h4 with ⟨rfl, h5⟩ | ⟨rfl, h5⟩
    · obtain ⟨e3, h6, h7⟩ := X.ok _ _ h5
      obtain ⟨e4, h8, h9⟩ := wAppK_is h7
      obtain ⟨e5, h10, h11⟩ := lcW_is (step _ (wipeE_is h9))
      exact lcW_mk (e' := e5) (by rw [loopC, h1]; simp only [Option.bind_some, h3, if_true, h6, h8]; exact h10) h11
    · obtain ⟨e5, h10, h11⟩ := lcW_is (step _ (wipeE_is h5))
      exact lcW_mk (e' := e5) (by rw [loopC, h1]; simp only [Option.bind_some, h3]; exact h10) h11
/-- all, any: the turns told by a list of answers -/
theorem genW_run {s0 : Bool} {vs : List Nat} {b x : DX} [B : HX b] [X : HX x] {K : Env → Prop} : ∀ (its : List Sl) (g : Nat → Bool) (I : Nat → Env → Prop) {e : Env}, I 0 e → (∀ (k : Nat) (s : Sl) (e : Env), its[k]? = some s → I k e → pushK e s fun e0 => B.w e0 fun e1 => X.w e1 fun e2 => leafK' e2 fun y e3 => y = .bl (g k) ∧ (g k = s0 → ∀ e4, e4 = { e3.wipe vs with tp := .val (.leaf (.bl s0)) :: e3.tp } → K e4) ∧ (g k ≠ s0 → wipeE vs (I (k + 1)) e3)) → (∀ e', I its.length e' → K { e' with tp := .val (.leaf (.bl (!s0))) :: e'.tp }) → genW s0 vs b x its e K
  | [], g, I, e, h, _, hk => genW_mk (by rw [loopG]) (hk e h)
  | s :: r, g, I, e, h, hs, hk => by
    have h0 := hs 0 s e rfl h
    obtain ⟨e1, h1, h2⟩ := B.ok _ _ (pushK_is h0)
    obtain ⟨e2, h3, h4⟩ := X.ok _ _ h2
    obtain ⟨y, e3, h5, rfl, h7, h8⟩ := leafK_is h4
    by_cases hg : g 0 = s0
    · exact genW_mk (by rw [loopG, h1]; simp only [Option.bind_some, h3, h5, hg, if_true]) (h7 hg _ rfl)
    · obtain ⟨e5, h10, h11⟩ := genW_is (genW_run (b := b) (x := x) (s0 := s0) (vs := vs) (K := K) r (fun k => g (k + 1)) (fun k => I (k + 1)) (wipeE_is (h8 hg)) (fun k s e hm => hs (k + 1) s e (by simpa using hm)) hk)
      exact genW_mk (by rw [loopG, h1]; simp only [Option.bind_some, h3, h5, hg, if_false]; exact h10) h11
theorem rng_at {N k : Nat} {s : Sl} (h : (rngSl 0 N)[k]? = some s) : k < N ∧ s = .val (.leaf (.int (k : Int))) := by
  unfold rngSl at h
  rw [List.getElem?_map] at h
  by_cases hk : k < N
  · rw [List.getElem?_range hk] at h
    exact ⟨hk, by have := Option.some.inj h; rw [← this]; simp⟩
  · rw [List.getElem?_eq_none (by simp; omega)] at h
    cases h
theorem rng_len (N : Nat) : (rngSl 0 N).length = N := by simp [rngSl]
theorem map_at {α : Type} {f : α → U} {l : List α} {k : Nat} {s : Sl} (h : ((l.map f).map Sl.val)[k]? = some s) : ∃ x, l[k]? = some x ∧ s = .val (f x) := by
  rw [List.getElem?_map, List.getElem?_map] at h
  cases hx : l[k]? with
  | none => rw [hx] at h; cases h
  | some x => rw [hx] at h; exact ⟨x, rfl, (Option.some.inj h).symm⟩
end FB
namespace FB
open PySem PySem.Spec PyProof.Rows L2
def Dat (k : Nat) (u : U) : Prop := ∃ d, u.dat = some d ∧ d.canLay0 = true ∧ d.depth ≤ k
def DatL (k : Nat) (us : List U) : Prop := ∃ ds, U.datL us = some ds ∧ PyData.canLayAll0 ds = true ∧ PyData.depthAll ds ≤ k
theorem dat_bl {k : Nat} (i : Bool) : Dat k (.leaf (.bl i)) := ⟨.bool i, by rw [U.dat], by rw [PyData.canLay0], by rw [PyData.depth]; omega⟩
theorem dat_str {k : Nat} {x : Str} (h : PyData.strOk x = true) : Dat k (.leaf (.str x)) := ⟨.str x, by rw [U.dat], by rw [PyData.canLay0]; exact h, by rw [PyData.depth]; omega⟩
theorem datL_nil {k : Nat} : DatL k [] := ⟨[], by rw [U.datL], by rw [PyData.canLayAll0], by rw [PyData.depthAll]; omega⟩
theorem datL_cons {k : Nat} {u : U} {us : List U} (h : Dat k u) (t : DatL k us) : DatL k (u :: us) := by
  obtain ⟨d, h1, h2, h3⟩ := h
  obtain ⟨ds, t1, t2, t3⟩ := t
  exact ⟨d :: ds, by rw [U.datL, h1, t1]; rfl, by rw [PyData.canLayAll0, h2, t2]; rfl, by rw [PyData.depthAll]; omega⟩
theorem datL_map {α : Type} {k : Nat} {f : α → U} : ∀ {l : List α}, (∀ x ∈ l, Dat k (f x)) → DatL k (l.map f)
  | [], _ => datL_nil
  | x :: l, h => by
    rw [List.map_cons]
    exact datL_cons (h x (by simp)) (datL_map fun y hy => h y (by simp [hy]))
theorem dat_tup {k : Nat} {us : List U} (h : DatL k us) : Dat (k + 1) (.node .tup us) := by
  obtain ⟨ds, t1, t2, t3⟩ := h
  exact ⟨.tuple ds, by rw [U.dat, t1]; rfl, by rw [PyData.canLay0]; exact t2, by rw [PyData.depth]; omega⟩
theorem dat_lst {k : Nat} {us : List U} (h : DatL k us) : Dat (k + 1) (.node .lst us) := by
  obtain ⟨ds, t1, t2, t3⟩ := h
  exact ⟨.list ds, by rw [U.dat, t1]; rfl, by rw [PyData.canLay0]; exact t2, by rw [PyData.depth]; omega⟩
theorem eqvU_self {k : Nat} {u : U} (h : Dat k u) (hk : k ≤ 64) : eqvU u u = some true := by
  obtain ⟨d, h1, h2, h3⟩ := h
  have hs : SeqAt.shaped d = true := by
    unfold SeqAt.shaped
    rw [h2, decide_eq_true (show d.depth ≤ 64 by omega)]
    rfl
  unfold eqvU
  simp only [h1, Option.bind_some]
  rw [if_pos ⟨hs, hs⟩, SeqAt.eqv_refl d h2]
end FB
namespace FB
open PySem PySem.Spec PyProof.Rows L2
theorem lv_true {α : Type} (l : List α) : lvU bools (l.map fun _ => .leaf (.bl true)) = some (l.map fun _ => true) := by
  have h1 : leavesU (l.map fun _ => .leaf (.bl true)) = some (l.map fun _ => V.bl true) := by
    induction l with
    | nil => rfl
    | cons a r ih => rw [List.map_cons, leavesU, ih]; rfl
  have h2 : bools (l.map fun _ => V.bl true) = some (l.map fun _ => true) := by
    clear h1
    induction l with
    | nil => rfl
    | cons a r ih => rw [List.map_cons, bools, ih]; rfl
  unfold lvU
  rw [h1]
  exact h2
theorem all_true {α : Type} (l : List α) : (l.map fun _ => true).all id = true := by simp
end FB
namespace FB
open PySem PySem.Spec PyProof.Rows L2
theorem len_ne1 (fz : List U) (u : U) : (fz.length = (fz ++ [u]).length) = False := by simp
theorem len_ne2 (fz : List U) (u v : U) : (fz.length = (fz ++ [u] ++ [v]).length) = False := by simp
theorem len_ne3 (fz : List U) (u : U) : ((fz ++ [u]).length = fz.length) = False := by simp
theorem dropF_no (m : Nat) : dropF m .no = .no := rfl
theorem dropF_val (m : Nat) (u : U) : dropF m (.val u) = .val u := rfl
theorem dropF_ref (m j : Nat) (π : List Nat) : dropF m (.ref j π) = .ref j π := rfl
theorem dropF_fref (m j : Nat) (π : List Nat) : dropF m (.fref j π) = if j = m then .no else .fref j π := rfl
theorem ufS_no (j m : Nat) : ufS j m .no = .no := rfl
theorem ufS_val (j m : Nat) (u : U) : ufS j m (.val u) = .val u := rfl
theorem ufS_ref (j m i : Nat) (π : List Nat) : ufS j m (.ref i π) = if i = j then .no else .ref i π := rfl
theorem ufS_fref (j m i : Nat) (π : List Nat) : ufS j m (.fref i π) = if i = m then .ref j π else .fref i π := rfl
theorem mapW_by {f : Sl → Sl} {l : List Sl} {K : List Sl → Prop} (h : ∀ l', l' = l.map f → K l') : mapW f l K := ⟨by exact h _ rfl⟩
theorem optW_last {fz : List U} {u : U} {π : List Nat} {K : U → Prop} (h : getK π u K) : optW (look1 (fz ++ [u]) fz.length π) K := by
  obtain ⟨w, h1, h2⟩ := getK_is h
  exact optW_mk (by rw [look1_last]; exact h1) h2
def lockK (j : Nat) (π : List Nat) : Env → (Env → Prop) → Prop
  | ⟨np, fz, st, sl, tp⟩, K => look1K st j π fun d => match d with
    | .node (.dic ks) us => setUK st j π (.node (.fdi ks) us) fun st' => K ⟨np, fz, st', sl, tp⟩
    | _ => False
theorem lockK_is {j : Nat} {π : List Nat} {e : Env} {K : Env → Prop} (h : lockK j π e K) : ∃ e', lockAt e j π = some e' ∧ K e' := by
  obtain ⟨np, fz, st, sl, tp⟩ := e
  unfold lockK at h
  obtain ⟨d, h1, h⟩ := look1K_is h
  split at h
  · exact ⟨_, by unfold lockAt; dsimp only; rw [h1], setUK_is h⟩
  · exact h.elim
def unlockK (j : Nat) (π : List Nat) : Env → (Env → Prop) → Prop
  | ⟨np, fz, st, sl, tp⟩, K => look1K st j π fun d => match d with
    | .node (.fdi ks) us => setUK st j π (.node (.dic ks) us) fun st' => K ⟨np, fz, st', sl, tp⟩
    | _ => False
theorem unlockK_is {j : Nat} {π : List Nat} {e : Env} {K : Env → Prop} (h : unlockK j π e K) : ∃ e', unlockAt e j π = some e' ∧ K e' := by
  obtain ⟨np, fz, st, sl, tp⟩ := e
  unfold unlockK at h
  obtain ⟨d, h1, h⟩ := look1K_is h
  split at h
  · exact ⟨_, by unfold unlockAt; dsimp only; rw [h1], setUK_is h⟩
  · exact h.elim
def wLcI (vs : List Nat) (a : PX) (b : DX) (t : DT) (x : DX) (e : Env) (K : Env → Prop) : Prop := a e fun e1 => match e1 with
  | ⟨_, _, _, _, .ref j π :: _⟩ => lockK j π e fun e2 => fzK e2 fun fz2 => freezeK j e2 fun u0 e3 => a e3 fun e4 => topK e4 fun s u e5 => match s, u with
    | .fref m π', .node (.fdi ks) us => need (m = fz2.length) (need (π' = π) (bif' (U.immL us) (newLK vs e5 fun e6 => lcW vs b t x (itemsSl ks us) e6 (wipeE vs (thawE fz2 u0 j fz2.length fun e7 => unlockK j π e7 K))) False))
    | _, _ => False
  | _ => False
instance hx_lcI (vs : List Nat) (a b : DX) (t : DT) (x : DX) [A : HX a] : HX (dLcI vs a b t x) := ⟨wLcI vs A.w b t x, fun e K h => by
  unfold wLcI at h
  obtain ⟨e1, h1, h⟩ := A.ok _ _ h
  split at h
  · rename_i np fz st sl j π tp
    obtain ⟨e2, h2, h⟩ := lockK_is h
    obtain ⟨u0, e3, h3, h⟩ := freezeK_is (fzK_is h)
    obtain ⟨e4, h4, h⟩ := A.ok _ _ h
    obtain ⟨s, u, e5, h5, h⟩ := topK_is h
    split at h
    · rename_i m π' ks us
      obtain ⟨g1, h⟩ := need_is h
      obtain ⟨g2, h⟩ := need_is h
      rcases bif_is h with ⟨g3, h⟩ | ⟨_, h⟩
      · obtain ⟨e6, h6, h⟩ := lcW_is (newLK_is h)
        obtain ⟨e7, h7, h⟩ := thawE_is (wipeE_is h)
        obtain ⟨e8, h8, h⟩ := unlockK_is h
        refine ⟨e8, ?_, h⟩
        unfold dLcI
        simp only [h1, h2, h3, h4, h5, Option.bind_some]
        rw [if_pos ⟨g1, g2, g3⟩, h6]
        simp only [Option.bind_some, h7, h8]
      · exact h.elim
    · exact h.elim
  · exact h.elim⟩
theorem lcW_pure0 {vs : List Nat} {b : DX} {t : DT} {x : DX} [B : HX b] [T : HT t] [X : HX x] {K : Env → Prop} {α : Type} (E : List U → Env) (p : α → Bool) (g : α → U) (f : α → Sl) (N : Nat) : ∀ (xs : List α) (us : List U), us.length + xs.length ≤ N → (∀ us a, a ∈ xs → us.length + 1 ≤ N → pushK (E us) (f a) fun e0 => B.w e0 fun e1 => T.w e1 fun c e2 => c = p a ∧ (p a = true → X.w e2 fun e3 => wAppK e3 fun e4 => e4.wipe vs = E (us ++ [g a])) ∧ (p a = false → e2.wipe vs = E us)) → K (E (us ++ (xs.filter p).map g)) → lcW vs b t x (xs.map f) (E us) K
  | [], us, _, _, hk => lcW_mk (by rw [List.map_nil, loopC]) (by simpa using hk)
  | a :: r, us, hl, h, hk => by
    have hl : us.length + (r.length + 1) ≤ N := hl
    obtain ⟨e1, h1, h2⟩ := B.ok _ _ (pushK_is (h us a (by simp) (by omega)))
    obtain ⟨c, e2, h3, rfl, h4, h5⟩ := T.ok _ _ h2
    cases hp : p a with
    | true =>
      obtain ⟨e3, h6, h7⟩ := X.ok _ _ (h4 hp)
      obtain ⟨e4, h8, h9⟩ := wAppK_is h7
      obtain ⟨e5, h10, h11⟩ := lcW_is (lcW_pure0 (K := K) E p g f N r (us ++ [g a]) (by simp; omega) (fun us a ha => h us a (by simp [ha])) (by simpa [hp] using hk))
      refine lcW_mk (e' := e5) ?_ h11
      rw [List.map_cons, loopC, h1]
      simp only [Option.bind_some, h3, hp, if_true, h6, h8]
      rw [h9]
      exact h10
    | false =>
      obtain ⟨e5, h10, h11⟩ := lcW_is (lcW_pure0 (K := K) E p g f N r us (by omega) (fun us a ha => h us a (by simp [ha])) (by simpa [hp] using hk))
      refine lcW_mk (e' := e5) ?_ h11
      rw [List.map_cons, loopC, h1]
      simp only [Option.bind_some, h3, hp]
      rw [if_neg (by decide), h5 hp]
      exact h10
theorem lcW_pure {vs : List Nat} {b : DX} {t : DT} {x : DX} [B : HX b] [T : HT t] [X : HX x] {K : Env → Prop} {α : Type} {its : List Sl} {e : Env} (E : List U → Env) (he : e = E []) (xs : List α) (f : α → Sl) (p : α → Bool) (g : α → U) (N : Nat) (hi : its = xs.map f) (hl : xs.length ≤ N) (h : ∀ us a, a ∈ xs → us.length + 1 ≤ N → pushK (E us) (f a) fun e0 => B.w e0 fun e1 => T.w e1 fun c e2 => c = p a ∧ (p a = true → X.w e2 fun e3 => wAppK e3 fun e4 => e4.wipe vs = E (us ++ [g a])) ∧ (p a = false → e2.wipe vs = E us)) (hk : K (E ((xs.filter p).map g))) : lcW vs b t x its e K := by
  subst hi he
  exact lcW_pure0 E p g f N xs [] (by simpa using hl) h hk
end FB
namespace FB
open PySem PySem.Spec PyProof.Rows L2
instance : HV1 fNeg := ⟨fun x K => match x with
  | .int i => K (.int (-i))
  | _ => False, fun x K h => by
  cases x <;> first | exact ⟨_, rfl, h⟩ | exact h.elim⟩
def wSortTS : PX := fun e K => topK e fun _ u e1 => optE (u.seq okT) fun us => optW (strsU us) fun l => need (l.Nodup ∧ l.length < 64) (newK e1 (.node .lst ((sortS l).map fun z => .leaf (.str z))) K)
instance hx_sortTS : HX dSortTS := ⟨wSortTS, fun e K h => by
  unfold wSortTS at h
  obtain ⟨s, u, e1, h1, h⟩ := topK_is h
  obtain ⟨us, h2, h⟩ := optE_is h
  obtain ⟨l, h3, h⟩ := optW_is h
  obtain ⟨vs, h5, h6⟩ := Option.bind_eq_some_iff.mp h3
  obtain ⟨h4, h⟩ := need_is h
  exact ⟨_, by simp only [dSortTS, h1, h2, h5, h6, Option.bind_some]; rw [if_pos h4], newK_is h⟩⟩
/-- x in xs: by a Bool that is to be given -/
@[irreducible] def inU (x : V) (us : List U) : Option Bool := (leavesU us).bind fun vs => if flatV x = true ∧ vs.all flatV = true then some (inV x vs) else none
def wInS (neg : Bool) : PX := fun e K => topK e fun _ u e1 => leafK' e1 fun y e2 => optE (u.seq okS) fun us => optW (inU y us) fun b => match neg with
  | true => pushK e2 (.val (.leaf (.bl (!b)))) K
  | false => pushK e2 (.val (.leaf (.bl b))) K
instance hx_inS (neg : Bool) : HX (dInS neg) := ⟨wInS neg, fun e K h => by
  unfold wInS at h
  obtain ⟨s, u, e1, h1, h⟩ := topK_is h
  obtain ⟨y, e2, h2, h⟩ := leafK_is h
  obtain ⟨us, h3, h⟩ := optE_is h
  obtain ⟨b, h4, h⟩ := optW_is h
  unfold inU at h4
  obtain ⟨vs, h5, h6⟩ := Option.bind_eq_some_iff.mp h4
  split at h6
  · rename_i hf
    obtain rfl := Option.some.inj h6
    refine ⟨_, by simp only [dInS, h1, h2, h3, h5, Option.bind_some]; rw [if_pos hf], ?_⟩
    cases neg <;> exact h
  · cases h6⟩
theorem inU_strs {x : Str} : ∀ l : List Str, inU (.str x) (l.map fun z => .leaf (.str z)) = some (l.contains x) := fun l => by
  have h1 : leavesU (l.map fun z => .leaf (.str z)) = some (l.map V.str) := by
    induction l with
    | nil => rfl
    | cons a r ih => rw [List.map_cons, leavesU, ih]; rfl
  have h2 : (l.map V.str).all flatV = true := by simp [flatV]
  unfold inU
  rw [h1]
  show (if _ then _ else _) = _
  rw [if_pos ⟨rfl, h2⟩]
  congr 1
  unfold inV
  clear h1 h2
  induction l with
  | nil => rfl
  | cons a r ih =>
    rw [List.map_cons, List.any_cons, ih, List.contains_cons]
    congr 1
    rw [show eqV (V.str a) (V.str x) = (a == x) from rfl]
    exact Bool.eq_iff_iff.mpr ⟨fun h => by simpa using (by simpa using h : a = x).symm, fun h => by simpa using (by simpa using h : x = a).symm⟩
def wInt : PX
  | ⟨np, fz, st, sl, .val (.leaf (.int i)) :: tp⟩, K => K ⟨np, fz, st, sl, .val (.leaf (.int i)) :: tp⟩
  | _, _ => False
instance hx_int : HX dInt := ⟨wInt, fun e K h => by
  unfold wInt at h
  split at h
  · exact ⟨_, rfl, h⟩
  · exact h.elim⟩
def popIK (b : Bool) : Env → (Option Int → Env → Prop) → Prop
  | ⟨np, fz, st, sl, tp⟩, K => match b with
    | false => K none ⟨np, fz, st, sl, tp⟩
    | true => match tp with
      | .val (.leaf (.int i)) :: tp' => K (some i) ⟨np, fz, st, sl, tp'⟩
      | _ => False
theorem popIK_is {b : Bool} {e : Env} {K : Option Int → Env → Prop} (h : popIK b e K) : ∃ o e1, popI b e = some (o, e1) ∧ K o e1 := by
  obtain ⟨np, fz, st, sl, tp⟩ := e
  unfold popIK at h
  cases b with
  | false => exact ⟨_, _, rfl, h⟩
  | true =>
    dsimp only at h
    split at h
    · exact ⟨_, _, rfl, h⟩
    · exact h.elim
def wSlL (bl bu : Bool) : PX := fun e K => popIK bu e fun hi e1 => popIK bl e1 fun lo e2 => topK e2 fun _ u e3 => optE (u.seq okL) fun us => bif' (U.immL us) (newK e3 (.node .lst (cutU us lo hi)) K) False
instance hx_slL (bl bu : Bool) : HX (dSlL bl bu) := ⟨wSlL bl bu, fun e K h => by
  unfold wSlL at h
  obtain ⟨hi, e1, h1, h⟩ := popIK_is h
  obtain ⟨lo, e2, h2, h⟩ := popIK_is h
  obtain ⟨s, u, e3, h3, h⟩ := topK_is h
  obtain ⟨us, h4, h⟩ := optE_is h
  rcases bif_is h with ⟨hm, h⟩ | ⟨_, h⟩
  · exact ⟨_, by simp only [dSlL, h1, h2, h3, h4, hm, Option.bind_some, if_true], newK_is h⟩
  · exact h.elim⟩
def wSlT (bl bu : Bool) : PX := fun e K => popIK bu e fun hi e1 => popIK bl e1 fun lo e2 => topK e2 fun _ u e3 => optE (u.seq okT) fun us => bif' (U.immL us) (pushK e3 (.val (.node .tup (cutU us lo hi))) K) False
instance hx_slT (bl bu : Bool) : HX (dSlT bl bu) := ⟨wSlT bl bu, fun e K h => by
  unfold wSlT at h
  obtain ⟨hi, e1, h1, h⟩ := popIK_is h
  obtain ⟨lo, e2, h2, h⟩ := popIK_is h
  obtain ⟨s, u, e3, h3, h⟩ := topK_is h
  obtain ⟨us, h4, h⟩ := optE_is h
  rcases bif_is h with ⟨hm, h⟩ | ⟨_, h⟩
  · exact ⟨_, by simp only [dSlT, h1, h2, h3, h4, hm, Option.bind_some, if_true], h⟩
  · exact h.elim⟩
instance {us : List U} {lo hi : Option Int} [i : ImmL us] : ImmL (cutU us lo hi) := ⟨cut_imm i.h lo hi⟩
end FB
namespace FB
open PySem PySem.Spec PyProof.Rows L2
def wFor2 (a : PX) (b : DX) (body : DS) (e : Env) (K : Out → Prop) : Prop := a e fun e1 => leafK' e1 fun y e2 => leafK' e2 fun x e3 => match x, y with
  | .int i, .int j => need (-(2 ^ 62) ≤ i ∧ i < 2 ^ 62 ∧ -(2 ^ 62) ≤ j ∧ j < 2 ^ 62) (loopW b body (rngSl i (j - i).toNat) e3 K)
  | _, _ => False
instance hs_for2 (a b : DX) (body : DS) [A : HX a] : HS (sForR2 a b body) := ⟨wFor2 A.w b body, fun e K h => by
  unfold wFor2 at h
  obtain ⟨e1, h1, h⟩ := A.ok _ _ h
  obtain ⟨y, e2, h2, h⟩ := leafK_is h
  obtain ⟨x, e3, h3, h⟩ := leafK_is h
  split at h
  · obtain ⟨h4, h⟩ := need_is h
    obtain ⟨o, h5, h⟩ := loopW_is h
    exact ⟨o, by simp only [sForR2, h1, h2, h3, Option.bind_some, asInt]; rw [if_pos h4]; exact h5, h⟩
  · exact h.elim⟩
def wFor3 (a : PX) (b : DX) (body : DS) (e : Env) (K : Out → Prop) : Prop := a e fun e1 => leafK' e1 fun z e2 => leafK' e2 fun y e3 => leafK' e3 fun x e4 => match x, y, z with
  | .int i, .int j, .int c => need (c = -1 ∧ -(2 ^ 62) ≤ i ∧ i < 2 ^ 62 ∧ -(2 ^ 62) ≤ j ∧ j < 2 ^ 62) (loopW b body (rngDn i (i - j).toNat) e4 K)
  | _, _, _ => False
instance hs_for3 (a b : DX) (body : DS) [A : HX a] : HS (sForR3 a b body) := ⟨wFor3 A.w b body, fun e K h => by
  unfold wFor3 at h
  obtain ⟨e1, h1, h⟩ := A.ok _ _ h
  obtain ⟨z, e2, h2, h⟩ := leafK_is h
  obtain ⟨y, e3, h3, h⟩ := leafK_is h
  obtain ⟨x, e4, h4, h⟩ := leafK_is h
  split at h
  · obtain ⟨h5, h⟩ := need_is h
    obtain ⟨o, h6, h⟩ := loopW_is h
    exact ⟨o, by simp only [sForR3, h1, h2, h3, h4, Option.bind_some, asInt]; rw [if_pos h5]; exact h6, h⟩
  · exact h.elim⟩
/-- while -/
structure whileW (c : DT) (body : DS) (N : Nat) (e : Env) (K : Out → Prop) : Prop where
  h : ∃ o, whileL c body N e = some o ∧ K o
instance hs_while (N : Nat) (c : DT) (body : DS) : HS (sWhile N c body) := ⟨fun e K => whileW c body N e K, fun e K h => h.h⟩
end FB
namespace FB
open PySem PySem.Spec PyProof.Rows L2
theorem quiet_klf {j : Nat} {f : Nat → Bool} {π : List Nat} {s : Sl} (h : quiet j π s = true) : kl j π (okN f) s = s := by
  cases s with
  | no => rfl
  | val u => rfl
  | fref j' π' => rfl
  | ref j' π' =>
    unfold kl
    dsimp only
    split
    · rename_i hj
      subst hj
      unfold quiet at h
      simp only [Nat.beq_refl, Bool.not_true, Bool.false_or] at h
      split at h
      · cases h
      · rename_i hs
        cases hp : strip π π' with
        | none => rfl
        | some κ =>
          cases κ with
          | nil => rfl
          | cons a b => exact absurd hp (hs a b)
    · rfl
theorem quiet_klsf {j : Nat} {f : Nat → Bool} {π : List Nat} : ∀ {l : List Sl}, l.all (quiet j π) = true → l.map (kl j π (okN f)) = l
  | [], _ => rfl
  | s :: l, h => by
    rw [List.all_cons, Bool.and_eq_true] at h
    rw [List.map_cons, quiet_klf h.1, quiet_klsf h.2]
def popU (us : List U) (i : Int) : Option (Nat × U) := (seqIndex? i us.length).bind fun k => (us[k]?).map fun u => (k, u)
def wPopAt : PX := fun e K => leafK' e fun y e1 => optE (asInt y) fun i => match e1 with
  | ⟨np, fz, st, sl, .ref j π :: tp⟩ => look1K st j π fun d => match d with
    | .node .lst us => need (-(2 ^ 63) ≤ i ∧ i < 2 ^ 63) (optW (popU us i) fun p => bif' p.2.imm (match sl.all (quiet j π) && tp.all (quiet j π) with
      | true => setUK st j π (.node .lst (us.eraseIdx p.1)) fun st' => K ⟨np, fz, st', sl, .val p.2 :: tp⟩
      | false => False) False)
    | _ => False
  | _ => False
instance hx_popAt : HX dPopAt := ⟨wPopAt, fun e K h => by
  unfold wPopAt at h
  obtain ⟨y, e1, h1, h⟩ := leafK_is h
  obtain ⟨i, h2, h⟩ := optE_is h
  split at h
  · rename_i np fz st sl j π tp
    obtain ⟨d, h3, h⟩ := look1K_is h
    split at h
    · rename_i us
      obtain ⟨h4, h⟩ := need_is h
      obtain ⟨⟨k, u⟩, h5, h⟩ := optW_is h
      obtain ⟨k', h6, h7⟩ := Option.bind_eq_some_iff.mp h5
      obtain ⟨u', h8, h9⟩ := Option.map_eq_some_iff.mp h7
      obtain ⟨rfl, rfl⟩ := Prod.mk.inj h9
      rcases bif_is h with ⟨him, h⟩ | ⟨_, h⟩
      · split at h
        · rename_i hq
          rw [Bool.and_eq_true] at hq
          refine ⟨_, ?_, setUK_is h⟩
          have him : u'.imm = true := him
          unfold dPopAt
          simp only [h1, h2, h3, Option.bind_some]
          rw [if_pos h4]
          simp only [h6, h8, Option.bind_some, him, if_true, quiet_klsf hq.1, quiet_klsf hq.2]
        · exact h.elim
      · exact h.elim
    · exact h.elim
  · exact h.elim⟩
def wMNil (e : Env) (K : Out → Prop) : Prop := match e with
  | ⟨np, fz, st, sl, _ :: tp⟩ => K (.nx ⟨np, fz, st, sl, tp⟩)
  | _ => False
instance hs_mNil : HS mNil := ⟨wMNil, fun e K h => by
  unfold wMNil at h
  split at h
  · exact ⟨_, rfl, h⟩
  · exact h.elim⟩
def wMVal (c : Str) (b m : Env → (Out → Prop) → Prop) (e : Env) (K : Out → Prop) : Prop := match e with
  | ⟨np, fz, st, sl, .val (.leaf (.str z)) :: tp⟩ => bif' (decide (z = c)) (b ⟨np, fz, st, sl, tp⟩ K) (m ⟨np, fz, st, sl, .val (.leaf (.str z)) :: tp⟩ K)
  | _ => False
instance hs_mVal (c : Str) (b m : DS) [B : HS b] [M : HS m] : HS (mVal c b m) := ⟨wMVal c B.w M.w, fun e K h => by
  unfold wMVal at h
  split at h
  · rename_i np fz st sl z tp
    unfold mVal
    dsimp only
    rcases bif_is h with ⟨hz, h⟩ | ⟨hz, h⟩
    · rw [if_pos (of_decide_eq_true hz)]
      exact B.ok _ _ h
    · rw [if_neg (of_decide_eq_false hz)]
      exact M.ok _ _ h
  · exact h.elim⟩
instance hs_match (a : DX) (m : DS) [A : HX a] [M : HS m] : HS (sMatch a m) := ⟨fun e K => A.w e fun e1 => M.w e1 K, fun e K h => by
  obtain ⟨e1, h1, h⟩ := A.ok _ _ h
  obtain ⟨o, h2, h⟩ := M.ok _ _ h
  exact ⟨o, by unfold sMatch; rw [h1]; exact h2, h⟩⟩
end FB
namespace FB
open PySem PySem.Spec PyProof.Rows L2
def wSetL : PX
  | ⟨np, fz, st, sl, sk :: sd :: sv :: tp⟩, K => takeK ⟨np, fz, st, sl, sv :: sk :: sd :: tp⟩ fun u e1 => match e1 with
    | ⟨np, fz, st, sl, .val (.leaf y) :: .ref j π :: tp⟩ => optE (asInt y) fun i => look1K st j π fun d => match d with
      | .node .lst us => optW (ixN us.length i) fun n => match sl.all (quiet j π) && tp.all (quiet j π) with
        | true => setUK st j π (.node .lst (us.set n u)) fun st' => K ⟨np, fz, st', sl, tp⟩
        | false => setUK st j π (.node .lst (us.set n u)) fun st' => slsK (kl j π (okN (· != n))) sl fun sl' => slsK (kl j π (okN (· != n))) tp fun tp' => K ⟨np, fz, st', sl', tp'⟩
      | _ => False
    | _ => False
  | _, _ => False
instance hx_setL : HX dSetL := ⟨wSetL, fun e K h => by
  unfold wSetL at h
  split at h
  · rename_i np fz st sl sk sd sv tp K
    obtain ⟨u, e1, h1, h⟩ := takeK_is h
    split at h
    · rename_i u0 u1 np fz st sl y j π tp
      obtain ⟨i, h2, h⟩ := optE_is h
      obtain ⟨d, h3, h⟩ := look1K_is h
      split at h
      · rename_i d0 us
        obtain ⟨n, hx, h⟩ := optW_is h
        unfold dSetL Env.rot
        simp only [h1, h2, Option.bind_some, Env.leaf]
        split at h
        · rename_i hq
          rw [Bool.and_eq_true] at hq
          have h := setUK_is h
          refine ⟨_, ?_, h⟩
          simp only [h3, hx, Option.bind_some]
          simp only [quiet_kls hq.1, quiet_kls hq.2]
        · have h := setUK_is h
          rw [slsK_iff, slsK_iff] at h
          refine ⟨_, ?_, h⟩
          simp only [h3, hx, Option.bind_some]
      · exact h.elim
    · exact h.elim
  · exact h.elim⟩
end FB
namespace FB
open PySem PySem.Spec PyProof.Rows L2
def wZ (i : Nat) (a : PX) (e : Env) (K : Env → Prop) : Prop := match e with
  | ⟨np, fz, st, sl, tp⟩ => optE (nth sl i) fun s => match s with
    | .ref j _ => freezeK j ⟨np, fz, st, sl, tp⟩ fun u0 e3 => a e3 (thawE fz u0 j fz.length K)
    | _ => False
instance hx_Z (i : Nat) (d : DX) [A : HX d] : HX (dZ i d) := ⟨wZ i A.w, fun e K h => by
  obtain ⟨np, fz, st, sl, tp⟩ := e
  unfold wZ at h
  obtain ⟨s, h1, h⟩ := optE_is h
  rw [nth_eq] at h1
  split at h
  · rename_i j π
    obtain ⟨u0, e3, h2, h⟩ := freezeK_is h
    obtain ⟨e4, h3, h⟩ := A.ok _ _ h
    obtain ⟨e5, h4, h⟩ := thawE_is h
    exact ⟨e5, by unfold dZ; dsimp only; rw [h1]; dsimp only; rw [h2]; simp only [Option.bind_some, h3]; exact h4, h⟩
  · exact h.elim⟩
instance hs_par (i j : Nat) (a : DX) [A : HX a] : HS (sPar i j a) := ⟨fun e K => A.w e fun e1 => wPut j e1 fun e2 => wPut i e2 fun e3 => K (.nx e3), fun e K h => by
  obtain ⟨e1, h1, h⟩ := A.ok _ _ h
  obtain ⟨e2, h2, h⟩ := (hx_put j).ok _ _ h
  obtain ⟨e3, h3, h⟩ := (hx_put i).ok _ _ h
  exact ⟨_, by unfold sPar; simp only [h1, Option.bind_some]; rw [show e1.put j = some e2 from h2]; simp only [Option.bind_some]; rw [show e2.put i = some e3 from h3]; rfl, h⟩⟩
def wForE (a : PX) (b : DX) (body : DS) (e : Env) (K : Out → Prop) : Prop := a e fun e1 => match e1 with
  | ⟨np, fz, st, sl, .val (.node .tup us) :: tp⟩ => loopW b body (enumSl 0 us) ⟨np, fz ++ [.node .tup us], st, sl, tp⟩ (outK (popFE fz (.node .tup us) fz.length) K)
  | _ => False
instance hs_forE (a b : DX) (body : DS) [A : HX a] : HS (sForE a b body) := ⟨wForE A.w b body, fun e K h => by
  unfold wForE at h
  obtain ⟨e1, h1, h⟩ := A.ok _ _ h
  split at h
  · rename_i np fz st sl us tp
    obtain ⟨o, h2, h⟩ := loopW_is h
    obtain ⟨o', h3, h⟩ := outK_is (f := fun e => e.popF fz.length) (fun K e h => popFE_is h) h
    refine ⟨o', ?_, h⟩
    unfold sForE
    simp only [h1, Option.bind_some, Env.top, Env.look, Option.map_some]
    unfold Env.pushF
    dsimp only
    rw [h2]
    exact h3
  · exact h.elim⟩
def grabK (s : Sl) (e : Env) (K : Rt → Env → ((Env → Prop) → Env → Prop) → Prop) : Prop := match s with
  | .ref j π => fzK e fun fz2 => freezeK j e fun u0 e3 => K (fz2.length, π) e3 (thawE fz2 u0 j fz2.length)
  | .val u => match e with
    | ⟨np, fz, st, sl, tp⟩ => K (fz.length, []) ⟨np, fz ++ [u], st, sl, tp⟩ (popFE fz u fz.length)
  | .fref m π => K (m, π) e (fun K e => K e)
  | .no => False
theorem grabK_is {s : Sl} {e : Env} {K : Rt → Env → ((Env → Prop) → Env → Prop) → Prop} (h : grabK s e K) : ∃ r e3 bk T, grab s e = some (r, e3, bk) ∧ K r e3 T ∧ ∀ K e, T K e → ∃ e', bk e = some e' ∧ K e' := by
  unfold grabK at h
  cases s with
  | no => exact h.elim
  | ref j π =>
    dsimp only at h
    obtain ⟨u0, e3, h1, h⟩ := freezeK_is (fzK_is h)
    exact ⟨_, _, _, _, by unfold grab; dsimp only; rw [h1]; rfl, h, fun K e h => thawE_is h⟩
  | val u =>
    obtain ⟨np, fz, st, sl, tp⟩ := e
    exact ⟨_, _, _, _, rfl, h, fun K e h => popFE_is h⟩
  | fref m π => exact ⟨_, _, _, _, rfl, h, fun K e h => ⟨e, rfl, h⟩⟩
def wLcZ (vs : List Nat) (a : PX) (b : DX) (t : DT) (x : DX) (e : Env) (K : Env → Prop) : Prop := a e fun e1 => topK e1 fun s2 u2 e2 => grabK s2 e2 fun _ e3 b2 => topK e3 fun s1 u1 e4 => grabK s1 e4 fun _ e5 b1 => match u1, u2 with
  | .node k1 us1, .node k2 us2 => need (zipOk k1 k2 = true) (bif' (U.immL us1) (bif' (U.immL us2) (newLK vs e5 fun e6 => lcW vs b t x (zipSl us1 us2) e6 (wipeE vs (b1 (b2 K)))) False) False)
  | _, _ => False
instance hx_lcZ (vs : List Nat) (a b : DX) (t : DT) (x : DX) [A : HX a] : HX (dLcZ vs a b t x) := ⟨wLcZ vs A.w b t x, fun e K h => by
  unfold wLcZ at h
  obtain ⟨e1, h1, h⟩ := A.ok _ _ h
  obtain ⟨s2, u2, e2, h2, h⟩ := topK_is h
  obtain ⟨r2, e3, bk2, T2, h3, h, t2⟩ := grabK_is h
  obtain ⟨s1, u1, e4, h4, h⟩ := topK_is h
  obtain ⟨r1, e5, bk1, T1, h5, h, t1⟩ := grabK_is h
  unfold dLcZ
  simp only [h1, h2, h3, h4, h5, Option.bind_some]
  cases u1 with
  | leaf v => exact h.elim
  | node k1 us1 =>
    cases u2 with
    | leaf v => exact h.elim
    | node k2 us2 =>
      dsimp only at h ⊢
      obtain ⟨hz, h⟩ := need_is h
      rcases bif_is h with ⟨i1, h⟩ | ⟨_, h⟩
      · rcases bif_is h with ⟨i2, h⟩ | ⟨_, h⟩
        · rw [if_pos ⟨hz, i1, i2⟩]
          obtain ⟨e6, h6, h⟩ := lcW_is (newLK_is h)
          obtain ⟨e7, h7, h⟩ := t1 _ _ (wipeE_is h)
          obtain ⟨e8, h8, h⟩ := t2 _ _ h
          exact ⟨e8, by rw [h6]; simp only [Option.bind_some, h7, h8], h⟩
        · exact h.elim
      · exact h.elim⟩
theorem zipSl_map {α β : Type} {f : α → U} {g : β → U} (l : List α) (m : List β) : zipSl (l.map f) (m.map g) = (l.zip m).map fun p => .val (.node .tup [f p.1, g p.2]) := by
  unfold zipSl
  rw [List.zip_map, List.map_map]
  rfl
def wIsiG : PX := fun e K => leafK' e fun y e0 => topK e0 fun _ u e1 => optE (tyU u) fun n => optE (tyV y) fun m => optW (kitB n m) fun b => pushK e1 (.val (.leaf (.bl b))) K
instance hx_isiG : HX dIsiG := ⟨wIsiG, fun e K h => by
  unfold wIsiG at h
  obtain ⟨y, e0, h0, h⟩ := leafK_is h
  obtain ⟨s, u, e1, h1, h⟩ := topK_is h
  obtain ⟨n, h2, h⟩ := optE_is h
  obtain ⟨m, h3, h⟩ := optE_is h
  obtain ⟨b, h4, h⟩ := optW_is h
  exact ⟨_, by simp only [dIsiG, h0, h1, h2, h3, h4, Option.bind_some, Option.map_some], pushK_is h⟩⟩
def wIsiTq : PX := fun e K => topK e fun _ u e0 => optE (u.seq okT) fun cs => optW (leavesU cs) fun vs => topK e0 fun _ u e1 => optE (tyU u) fun n => need (allTy vs = true) (optW (kitBs n vs) fun b => pushK e1 (.val (.leaf (.bl b))) K)
instance hx_isiTq : HX dIsiTq := ⟨wIsiTq, fun e K h => by
  unfold wIsiTq at h
  obtain ⟨s0, u0, e0, h0, h⟩ := topK_is h
  obtain ⟨cs, h1, h⟩ := optE_is h
  obtain ⟨vs, h2, h⟩ := optW_is h
  obtain ⟨s, u, e1, h3, h⟩ := topK_is h
  obtain ⟨n, h4, h⟩ := optE_is h
  obtain ⟨h5, h⟩ := need_is h
  obtain ⟨b, h6, h⟩ := optW_is h
  exact ⟨_, by simp only [dIsiTq, h0, h1, h2, h3, h4, Option.bind_some]; rw [if_pos h5, h6]; rfl, pushK_is h⟩⟩
def wGeT : PX := fun e K => topK e fun _ v e0 => topK e0 fun _ u e1 => match u, v with
  | .node .tup [.leaf (.int a), .leaf (.int b)], .node .tup [.leaf (.int c), .leaf (.int d)] => pushK e1 (.val (.leaf (.bl (if a = c then decide (d ≤ b) else decide (c ≤ a))))) K
  | _, _ => False
instance hx_geT : HX dGeT := ⟨wGeT, fun e K h => by
  unfold wGeT at h
  obtain ⟨s0, v, e0, h0, h⟩ := topK_is h
  obtain ⟨s, u, e1, h1, h⟩ := topK_is h
  split at h
  · exact ⟨_, by simp only [dGeT, h0, h1, Option.bind_some], pushK_is h⟩
  · exact h.elim⟩
theorem ix_hd {u : U} {us : List U} : ixU (u :: us) 0 = some (0, u) := ixU_some rfl rfl
theorem optW_hd {u : U} {us : List U} {K : Nat × U → Prop} (h : K (0, u)) : optW (ixU (u :: us) 0) K := optW_mk ix_hd h
instance hx_dead : HX (fun _ => none) := ⟨fun _ _ => False, fun _ _ h => h.elim⟩
instance hs_dead : HS (fun _ => none) := ⟨fun _ _ => False, fun _ _ h => h.elim⟩
end FB
namespace FB
open PySem PySem.Spec PyProof.Rows L2
def dropK : Nat → List Sl → (List Sl → Prop) → Prop
  | 0, l, K => K l
  | n + 1, _ :: l, K => dropK n l K
  | _ + 1, [], K => K []
theorem dropK_is : ∀ {n : Nat} {l : List Sl} {K : List Sl → Prop}, dropK n l K → K (l.drop n)
  | 0, l, K, h => h
  | n + 1, x :: l, K, h => by rw [dropK] at h; rw [List.drop_succ_cons]; exact dropK_is h
  | n + 1, [], K, h => by rw [dropK] at h; rw [List.drop_nil]; exact h
def wLoopD (b : DX) (body : DS) [B : HX b] [D : HS body] : Nat → Env → (Env → Prop) → Prop
  | 0, e, K => K e
  | r + 1, ⟨np, fz, st, sl, tp⟩, K => optE (nth tp r) fun s => B.w ⟨np, fz, st, sl, s :: tp⟩ fun e1 => D.w e1 fun o => match o with
    | .nx e2 => wLoopD b body r e2 K
    | .ct e2 => wLoopD b body r e2 K
    | .bk e2 => K e2
    | .rt _ => False
theorem wLoopD_is {b : DX} {body : DS} [B : HX b] [D : HS body] : ∀ {r : Nat} {e : Env} {K : Env → Prop}, wLoopD b body r e K → ∃ e2, loopD b body r e = some (.nx e2) ∧ K e2
  | 0, e, K, h => ⟨e, by rw [loopD], h⟩
  | r + 1, ⟨np, fz, st, sl, tp⟩, K, h => by
    rw [wLoopD] at h
    obtain ⟨s, h1, h⟩ := optE_is h
    rw [nth_eq] at h1
    obtain ⟨e1, h2, h⟩ := B.ok _ _ h
    obtain ⟨o, h3, h⟩ := D.ok _ _ h
    rw [loopD]
    simp only [h1, h2, Option.bind_some, h3]
    cases o with
    | nx e2 => exact wLoopD_is h
    | ct e2 => exact wLoopD_is h
    | bk e2 => exact ⟨e2, rfl, h⟩
    | rt e2 => exact h.elim
instance hs_forD (n : Nat) (a b : DX) (body : DS) [A : HX a] [B : HX b] [D : HS body] : HS (sForD n a b body) := ⟨fun e K => A.w e fun e1 => wLoopD b body n e1 fun e2 => match e2 with
    | ⟨np, fz, st, sl, tp⟩ => dropK n tp fun tp' => K (.nx ⟨np, fz, st, sl, tp'⟩), fun e K h => by
  obtain ⟨e1, h1, h⟩ := A.ok _ _ h
  obtain ⟨e2, h2, h⟩ := wLoopD_is h
  obtain ⟨np, fz, st, sl, tp⟩ := e2
  refine ⟨_, ?_, dropK_is h⟩
  unfold sForD
  simp only [h1, h2, Option.bind_some]
  rfl⟩
end FB
namespace FB
open PySem PySem.Spec PyProof.Rows L2
def wSlC (bl bu : Bool) : PX := fun e K => popIK bu e fun hi e1 => popIK bl e1 fun lo e2 => topK e2 fun _ u e3 => optE (u.seq okL) fun us => need (U.immL (cutU us lo hi) = true) (newK e3 (.node .lst (cutU us lo hi)) K)
instance hx_slC (bl bu : Bool) : HX (dSlC bl bu) := ⟨wSlC bl bu, fun e K h => by
  unfold wSlC at h
  obtain ⟨hi, e1, h1, h⟩ := popIK_is h
  obtain ⟨lo, e2, h2, h⟩ := popIK_is h
  obtain ⟨s, u, e3, h3, h⟩ := topK_is h
  obtain ⟨us, h4, h⟩ := optE_is h
  obtain ⟨hm, h⟩ := need_is h
  exact ⟨_, by simp only [dSlC, h1, h2, h3, h4, hm, Option.bind_some, if_true], newK_is h⟩⟩
def wSlM (bl bu : Bool) : PX := fun e K => popIK bu e fun hi e1 => popIK bl e1 fun lo e2 => takeK e2 fun u e3 => optE (u.seq okL) fun us => newK e3 (.node .lst (cutU us lo hi)) K
instance hx_slM (bl bu : Bool) : HX (dSlM bl bu) := ⟨wSlM bl bu, fun e K h => by
  unfold wSlM at h
  obtain ⟨hi, e1, h1, h⟩ := popIK_is h
  obtain ⟨lo, e2, h2, h⟩ := popIK_is h
  obtain ⟨u, e3, h3, h⟩ := takeK_is h
  obtain ⟨us, h4, h⟩ := optE_is h
  exact ⟨_, by simp only [dSlM, h1, h2, h3, h4, Option.bind_some], newK_is h⟩⟩
def wCatM : PX := fun e K => takeK e fun u e1 => takeK e1 fun v e2 => optE (v.seq ok0) fun us => optE (u.seq ok0) fun ws => need (us.length + ws.length < 100000) (newK e2 (.node .lst (us ++ ws)) K)
instance hx_catM : HX dCatM := ⟨wCatM, fun e K h => by
  unfold wCatM at h
  obtain ⟨u, e1, h1, h⟩ := takeK_is h
  obtain ⟨v, e2, h2, h⟩ := takeK_is h
  obtain ⟨us, h3, h⟩ := optE_is h
  obtain ⟨ws, h4, h⟩ := optE_is h
  obtain ⟨h5, h⟩ := need_is h
  exact ⟨_, by simp only [dCatM, h1, h2, h3, h4, Option.bind_some]; rw [if_pos h5], newK_is h⟩⟩
end FB
namespace FB
open PySem PySem.Spec PyProof.Rows L2
def wFrz : PX := fun e K => takeK e fun u e1 => match u with
  | .node .lst us => bif' (U.immL us) (pushK e1 (.val (.node .fls us)) K) False
  | _ => False
instance hx_frz : HX dFrz := ⟨wFrz, fun e K h => by
  unfold wFrz at h
  obtain ⟨u, e1, h1, h⟩ := takeK_is h
  unfold dFrz
  rw [h1]
  split at h
  · rcases bif_is h with ⟨hi, h⟩ | ⟨hi, h⟩
    · exact ⟨_, by simp only [Option.bind_some]; rw [if_pos hi], pushK_is h⟩
    · exact h.elim
  · exact h.elim⟩
def wCatL : PX := fun e K => topK e fun _ u e1 => topK e1 fun _ v e2 => optE (v.seq okL) fun us => optE (u.seq okL) fun ws => bif' (U.immL us) (bif' (U.immL ws) (need (us.length + ws.length < 100000) (newK e2 (.node .lst (us ++ ws)) K)) False) False
instance hx_catL : HX dCatL := ⟨wCatL, fun e K h => by
  unfold wCatL at h
  obtain ⟨s, u, e1, h1, h⟩ := topK_is h
  obtain ⟨s2, v, e2, h2, h⟩ := topK_is h
  obtain ⟨us, h3, h⟩ := optE_is h
  obtain ⟨ws, h4, h⟩ := optE_is h
  rcases bif_is h with ⟨i1, h⟩ | ⟨i1, h⟩
  · rcases bif_is h with ⟨i2, h⟩ | ⟨i2, h⟩
    · obtain ⟨h5, h⟩ := need_is h
      exact ⟨_, by simp only [dCatL, h1, h2, h3, h4, Option.bind_some]; rw [if_pos ⟨i1, i2, h5⟩], newK_is h⟩
    · exact h.elim
  · exact h.elim⟩
instance (us : List U) [a : ImmL us] : Imm (.node .fls us) := ⟨by rw [U.imm, a.h]; rfl⟩
end FB
namespace FB
open PySem PySem.Spec PyProof.Rows L2
def wInD (neg : Bool) : PX := fun e K => topK e fun _ v e1 => topK e1 fun _ u e2 => optW (inDU u v) fun b => match neg with
  | true => pushK e2 (.val (.leaf (.bl (!b)))) K
  | false => pushK e2 (.val (.leaf (.bl b))) K
instance hx_inD (neg : Bool) : HX (dInD neg) := ⟨wInD neg, fun e K h => by
  unfold wInD at h
  obtain ⟨s, v, e1, h1, h⟩ := topK_is h
  obtain ⟨s2, u, e2, h2, h⟩ := topK_is h
  obtain ⟨b, h3, h⟩ := optW_is h
  unfold dInD
  simp only [h1, h2, h3, Option.bind_some, Option.map_some]
  cases neg <;> exact ⟨_, rfl, h⟩⟩
end FB
namespace FB
open PySem PySem.Spec PyProof.Rows L2
def wSlS (a c : Nat) : PX
  | ⟨np, fz, st, sl, so :: sv :: tp⟩, K => takeK ⟨np, fz, st, sl, sv :: so :: tp⟩ fun u e1 => match u, e1 with
    | .node .lst ws, ⟨np, fz, st, sl, .ref j π :: tp⟩ => look1K st j π fun d => match d with
      | .node .lst us => bif' (U.immL ws) (need (a ≤ c ∧ c ≤ us.length ∧ us.length + ws.length < 100000) (setUK st j π (.node .lst (us.take a ++ ws ++ us.drop c)) fun st' => slsK (kl j π (okN fun _ => false)) sl fun sl' => slsK (kl j π (okN fun _ => false)) tp fun tp' => K ⟨np, fz, st', sl', tp'⟩)) False
      | _ => False
    | _, _ => False
  | _, _ => False
instance hx_slS (a c : Nat) : HX (dSlS a c) := ⟨wSlS a c, fun e K h => by
  unfold wSlS at h
  split at h
  · rename_i np fz st sl so sv tp K
    obtain ⟨u, e1, h1, h⟩ := takeK_is h
    split at h
    · rename_i ws np fz st sl j π tp
      obtain ⟨d, h3, h⟩ := look1K_is h
      split at h
      · rename_i us
        rcases bif_is h with ⟨hi, h⟩ | ⟨hi, h⟩
        · obtain ⟨hl, h⟩ := need_is h
          have h := setUK_is h
          rw [slsK_iff, slsK_iff] at h
          unfold dSlS Env.swap
          simp only [h1, Option.bind_some]
          refine ⟨_, ?_, h⟩
          simp only [h3]
          rw [if_pos ⟨hi, hl.1, hl.2.1, hl.2.2⟩]
        · exact h.elim
      · exact h.elim
    · exact h.elim
  · exact h.elim⟩
end FB
namespace FB
open PySem PySem.Spec PyProof.Rows L2
def wCntD : PX := fun e K => topK e fun _ u e1 => topK e1 fun _ v e2 => optW (cntU u v) fun b => pushK e2 (.val (.leaf (.int b))) K
instance hx_cntD : HX dCntD := ⟨wCntD, fun e K h => by
  unfold wCntD at h
  obtain ⟨s, v, e1, h1, h⟩ := topK_is h
  obtain ⟨s2, u, e2, h2, h⟩ := topK_is h
  obtain ⟨b, h3, h⟩ := optW_is h
  unfold dCntD
  simp only [h1, h2, h3, Option.bind_some, Option.map_some]
  exact ⟨_, rfl, h⟩⟩
end FB
namespace FB
open PySem PySem.Spec PyProof.Rows L2
def wFrzP : PX
  | ⟨np, fz, st, sl, .ref j [] :: tp⟩, K => optE (nth st j) fun u => match u with
    | .node .lst us => bif' (U.immL us) (setK st j (.node .fls us) fun st' => K ⟨np, fz, st', sl, .val (.node .fls us) :: tp⟩) False
    | _ => False
  | _, _ => False
instance hx_frzP : HX dFrzP := ⟨wFrzP, fun e K h => by
  unfold wFrzP at h
  split at h
  · rename_i np fz st sl j tp K
    obtain ⟨u, h1, h⟩ := optE_is h
    rw [nth_eq] at h1
    split at h
    · rename_i us
      rcases bif_is h with ⟨hi, h⟩ | ⟨hi, h⟩
      · rw [setK_iff] at h
        refine ⟨_, ?_, h⟩
        unfold dFrzP
        dsimp only
        rw [h1]
        dsimp only
        rw [if_pos hi]
      · exact h.elim
    · exact h.elim
  · exact h.elim⟩
end FB
namespace FB
open PySem PySem.Spec PyProof.Rows L2
def wGet1 : PX := fun e K => leafK' e fun y e0 => topK e0 fun s u e1 => optE (keyOf y) fun k => optE u.dic fun c => get2W c.1 c.2 k (pushK e1 (.val (.leaf .non)) K) fun n u => kidK s n u fun s' => pushK e1 s' K
instance hx_get1 : HX dGet1 := ⟨wGet1, fun e K h => by
  unfold wGet1 at h
  obtain ⟨y, e0, h1, h⟩ := leafK_is h
  obtain ⟨s, u, e1, h2, h⟩ := topK_is h
  obtain ⟨k, h3, h⟩ := optE_is h
  obtain ⟨c, h4, h⟩ := optE_is h
  unfold dGet1
  simp only [h1, h2, h3, h4, Option.bind_some]
  have h := h.h
  cases hx : ixOf k c.1 with
  | none =>
    rw [hx] at h
    exact ⟨_, rfl, pushK_is h⟩
  | some n =>
    rw [hx] at h
    obtain ⟨w, h5, h⟩ := optW_is h
    exact ⟨{ e1 with tp := kidS s n w :: e1.tp }, by simp only [h5, Option.map_some], pushK_is (kidK_is h)⟩⟩
instance hx_maxL : HX dMaxL := ⟨wLv intsV fun ns => (maxI ns).map V.int, fun e K h => wLv_is h⟩
@[irreducible] def maxDU (ks : List Key) (us : List U) : Option Int := (keysI ks).bind fun ns => (leavesU us).bind fun vs => (intsV vs).bind fun _ => maxI ns
def wMaxD : PX := fun e K => topK e fun _ u e1 => optE u.dic1 fun c => optW (maxDU c.1 c.2) fun m => pushK e1 (.val (.leaf (.int m))) K
instance hx_maxD : HX dMaxD := ⟨wMaxD, fun e K h => by
  unfold wMaxD at h
  obtain ⟨s, u, e1, h1, h⟩ := topK_is h
  obtain ⟨c, h2, h⟩ := optE_is h
  obtain ⟨m, h3, h⟩ := optW_is h
  unfold maxDU at h3
  obtain ⟨ns, h4, h3⟩ := Option.bind_eq_some_iff.mp h3
  obtain ⟨vs, h5, h3⟩ := Option.bind_eq_some_iff.mp h3
  obtain ⟨ws, h6, h3⟩ := Option.bind_eq_some_iff.mp h3
  exact ⟨_, by simp only [dMaxD, h1, h2, h4, h5, h6, h3, Option.bind_some, Option.map_some], pushK_is h⟩⟩
def wSortD : PX := fun e K => topK e fun _ u e1 => optE u.dic fun c => optW (keysS c.1) fun l => need (l.length < 64) (newK e1 (.node .lst ((sortS l).map fun z => .leaf (.str z))) K)
instance hx_sortD : HX dSortD := ⟨wSortD, fun e K h => by
  unfold wSortD at h
  obtain ⟨s, u, e1, h1, h⟩ := topK_is h
  obtain ⟨c, h2, h⟩ := optE_is h
  obtain ⟨l, h3, h⟩ := optW_is h
  obtain ⟨h4, h⟩ := need_is h
  exact ⟨_, by simp only [dSortD, h1, h2, h3, Option.bind_some]; rw [if_pos h4], newK_is h⟩⟩
def wExt : PX := fun e K => topK e fun _ u e1 => match u with
  | .node .lst ws => bif' (U.immL ws) (match e1 with
    | ⟨np, fz, st, sl, .ref j π :: tp⟩ => look1K st j π fun d => match d with
      | .node .lst us => need (us.length + ws.length < 100000) (setUK st j π (.node .lst (us ++ ws)) fun st' => K ⟨np, fz, st', sl, .val (.leaf .non) :: tp⟩)
      | _ => False
    | _ => False) False
  | _ => False
instance hx_ext : HX dExt := ⟨wExt, fun e K h => by
  unfold wExt at h
  obtain ⟨s, u, e1, h1, h⟩ := topK_is h
  split at h
  · rename_i ws
    rcases bif_is h with ⟨hi, h⟩ | ⟨hi, h⟩
    · split at h
      · rename_i np fz st sl j π tp
        obtain ⟨d, h2, h⟩ := look1K_is h
        split at h
        · obtain ⟨hl, h⟩ := need_is h
          refine ⟨_, ?_, setUK_is h⟩
          unfold dExt
          simp only [h1, Option.bind_some]
          rw [if_pos hi]
          simp only [h2]
          rw [if_pos hl]
        · exact h.elim
      · exact h.elim
    · exact h.elim
  · exact h.elim⟩
instance hx_star (a b : DX) [A : HX a] [B : HX b] : HX (dStar a b) := ⟨fun e K => A.w e fun e1 => topK e1 fun _ u0 _ => optE (u0.seq okS) fun us => B.w e1 fun e3 => topK e3 fun _ u e4 => topK e4 fun _ _ e5 => bif' (U.immL us) (bif' u.imm (need (us.length < 100000) (newK e5 (.node .lst (us ++ [u])) K)) False) False, fun e K h => by
  obtain ⟨e1, h1, h⟩ := A.ok _ _ h
  obtain ⟨s0, u0, e2, h2, h⟩ := topK_is h
  obtain ⟨us, h3, h⟩ := optE_is h
  obtain ⟨e3, h4, h⟩ := B.ok _ _ h
  obtain ⟨s1, u1, e4, h5, h⟩ := topK_is h
  obtain ⟨s2, u2, e5, h6, h⟩ := topK_is h
  rcases bif_is h with ⟨g1, h⟩ | ⟨_, h⟩
  · rcases bif_is h with ⟨g2, h⟩ | ⟨_, h⟩
    · obtain ⟨g3, h⟩ := need_is h
      refine ⟨_, ?_, newK_is h⟩
      unfold dStar
      simp only [h1, h2, h3, h4, h5, h6, Option.bind_some]
      rw [if_pos ⟨g1, g2, g3⟩]
    · exact h.elim
  · exact h.elim⟩
def wIsS : PX := fun e K => leafK' e fun y _ => optE (asS y) fun _ => K e
instance hx_isS : HX dIsS := ⟨wIsS, fun e K h => by
  unfold wIsS at h
  obtain ⟨y, e1, h1, h⟩ := leafK_is h
  obtain ⟨z, h2, h⟩ := optE_is h
  exact ⟨_, by simp only [dIsS, h1, h2, Option.bind_some, Option.map_some], h⟩⟩
def wJoin : PX := fun e K => topK e fun _ u e1 => optE (u.seq okL) fun us => optW (lvU strsV us) fun ys => leafK' e1 fun y e2 => optE (asS y) fun a => need ((ys.map (·.length)).sum + ys.length * a.length ≤ 16777216) (pushK e2 (.val (.leaf (.str (Txt.join a ys)))) K)
instance hx_join : HX dJoin := ⟨wJoin, fun e K h => by
  unfold wJoin at h
  obtain ⟨s, u, e1, h1, h⟩ := topK_is h
  obtain ⟨us, h2, h⟩ := optE_is h
  obtain ⟨ys, h3, h⟩ := optW_is h
  obtain ⟨y, e2, h4, h⟩ := leafK_is h
  obtain ⟨a, h5, h⟩ := optE_is h
  obtain ⟨h6, h⟩ := need_is h
  obtain ⟨vs, h7, h8⟩ := Option.bind_eq_some_iff.mp h3
  exact ⟨_, by simp only [dJoin, h1, h2, h7, h8, h4, h5, Option.bind_some]; rw [if_pos h6], pushK_is h⟩⟩
def wSetd : PX := fun e K => takeK e fun z e1 => leafK' e1 fun y e2 => optE (keyOf y) fun k => match e2 with
  | ⟨np, fz, st, sl, .ref j π :: tp⟩ => look1K st j π fun d => match d with
    | .node (.dic ks) us => need (us.length < 100000) (get2W ks us k (kidK (.ref j π) us.length z fun s' => setUK st j π (.node (.dic (ks ++ [k])) (us ++ [z])) fun st' => K ⟨np, fz, st', sl, s' :: tp⟩) fun n w => kidK (.ref j π) n w fun s' => K ⟨np, fz, st, sl, s' :: tp⟩)
    | _ => False
  | _ => False
instance hx_setd : HX dSetd := ⟨wSetd, fun e K h => by
  unfold wSetd at h
  obtain ⟨z, e1, h1, h⟩ := takeK_is h
  obtain ⟨y, e2, h2, h⟩ := leafK_is h
  obtain ⟨k, h3, h⟩ := optE_is h
  split at h
  · rename_i np fz st sl j π tp
    obtain ⟨d, h4, h⟩ := look1K_is h
    split at h
    · rename_i ks us
      obtain ⟨h5, h⟩ := need_is h
      have h := h.h
      unfold dSetd
      simp only [h1, h2, h3, h4, Option.bind_some]
      rw [if_pos h5]
      cases hx : ixOf k ks with
      | none =>
        rw [hx] at h
        exact ⟨_, rfl, setUK_is (kidK_is h)⟩
      | some n =>
        rw [hx] at h
        obtain ⟨w, h6, h⟩ := optW_is h
        exact ⟨_, by simp only [h6, Option.map_some], kidK_is h⟩
    · exact h.elim
  · exact h.elim⟩
def wPop2 : PX
  | ⟨np, fz, st, sl, sz :: tp⟩, K => leafK' ⟨np, fz, st, sl, tp⟩ fun y e2 => optE (keyOf y) fun k => match e2 with
    | ⟨np, fz, st, sl, .ref j π :: tp⟩ => look1K st j π fun d => match d with
      | .node (.dic ks) us => get2W ks us k (K ⟨np, fz, st, sl, sz :: tp⟩) fun n w => bif' w.imm (match sl.all (quiet j π) && tp.all (quiet j π) with
        | true => setUK st j π (.node (.dic (ks.eraseIdx n)) (us.eraseIdx n)) fun st' => K ⟨np, fz, st', sl, .val w :: tp⟩
        | false => False) False
      | _ => False
    | _ => False
  | _, _ => False
instance hx_pop2 : HX dPop2 := ⟨wPop2, fun e K h => by
  unfold wPop2 at h
  split at h
  · rename_i np fz st sl sz tp K
    obtain ⟨y, e2, h2, h⟩ := leafK_is h
    obtain ⟨k, h3, h⟩ := optE_is h
    unfold dPop2
    simp only [h2, h3, Option.bind_some]
    split at h
    · rename_i np fz st sl j π tp
      obtain ⟨d, h4, h⟩ := look1K_is h
      split at h
      · rename_i ks us
        have h := h.h
        simp only [h4]
        cases hx : ixOf k ks with
        | none =>
          rw [hx] at h
          exact ⟨_, rfl, h⟩
        | some n =>
          rw [hx] at h
          obtain ⟨w, h6, h⟩ := optW_is h
          rcases bif_is h with ⟨hi, h⟩ | ⟨_, h⟩
          · split at h
            · rename_i hq
              rw [Bool.and_eq_true] at hq
              refine ⟨_, ?_, setUK_is h⟩
              simp only [h6, Option.bind_some, hi, if_true, quiet_klsf hq.1, quiet_klsf hq.2]
            · exact h.elim
          · exact h.elim
      · exact h.elim
    · exact h.elim
  · exact h.elim⟩
def wRem : PX := fun e K => topK e fun _ u e1 => match e1 with
  | ⟨np, fz, st, sl, .ref j π :: tp⟩ => look1K st j π fun d => match d with
    | .node .lst us => optW (remIx u (.node .lst us)) fun i => match sl.all (quiet j π) && tp.all (quiet j π) with
      | true => setUK st j π (.node .lst (us.eraseIdx i)) fun st' => K ⟨np, fz, st', sl, .val (.leaf .non) :: tp⟩
      | false => False
    | _ => False
  | _ => False
instance hx_rem : HX dRem := ⟨wRem, fun e K h => by
  unfold wRem at h
  obtain ⟨s, u, e1, h1, h⟩ := topK_is h
  split at h
  · rename_i np fz st sl j π tp
    obtain ⟨d, h2, h⟩ := look1K_is h
    split at h
    · rename_i us
      obtain ⟨i, h3, h⟩ := optW_is h
      split at h
      · rename_i hq
        rw [Bool.and_eq_true] at hq
        refine ⟨_, ?_, setUK_is h⟩
        unfold dRem
        simp only [h1, h2, h3, Option.bind_some, Option.map_some, quiet_klsf hq.1, quiet_klsf hq.2]
      · exact h.elim
    · exact h.elim
  · exact h.elim⟩
def wMaxS3 : PX
  | ⟨np, fz, st, sl, .val (.leaf (.str k)) :: .val (.leaf (.str j)) :: .val (.leaf (.str i)) :: tp⟩, K => K ⟨np, fz, st, sl, .val (.leaf (.str (maxS (maxS i j) k))) :: tp⟩
  | _, _ => False
instance hx_maxS3 : HX (dS3 fMaxS3) := ⟨wMaxS3, fun e K h => by
  unfold wMaxS3 at h
  split at h
  · exact ⟨_, rfl, h⟩
  · exact h.elim⟩
instance ht_tru (a : DX) [A : HX a] : HT (tTru a) := ⟨fun e K => A.w e fun e1 => topK e1 fun _ u e2 => optE (truN u) fun b => K b e2, fun e K h => by
  obtain ⟨e1, h1, h⟩ := A.ok _ _ h
  obtain ⟨s, u, e2, h2, h⟩ := topK_is h
  obtain ⟨b, h3, h⟩ := optE_is h
  exact ⟨b, e2, by simp only [tTru, h1, h2, h3, Option.bind_some, Option.map_some], h⟩⟩
def setAllK : List Sl → List Nat → List U → (List Sl → Prop) → Prop
  | sl, i :: is, u :: us, K => setK sl i (.val u) fun sl' => setAllK sl' is us K
  | sl, _, _, K => K sl
theorem setAllK_is : ∀ {is : List Nat} {us : List U} {sl : List Sl} {K : List Sl → Prop}, setAllK sl is us K → K (setAllSl sl is us)
  | [], us, sl, K, h => by
    rw [setAllSl] <;> first | exact h | (intro _ _ _ _ h; cases h)
  | i :: is, [], sl, K, h => by
    rw [setAllSl] <;> first | exact h | (intro _ _ _ _ _ h; cases h)
  | i :: is, u :: us, sl, K, h => by
    rw [setAllK, setK_iff] at h
    rw [setAllSl]
    exact setAllK_is h
def wMCase (k : Str) (is : List Nat) (b m : Env → (Out → Prop) → Prop) (e : Env) (K : Out → Prop) : Prop := match e with
  | ⟨np, fz, st, sl, .val (.node .tup (.leaf (.str z) :: us)) :: tp⟩ => match Nat.beq us.length is.length with
    | true => bif' (decide (z = k)) (setAllK sl is us fun sl' => b ⟨np, fz, st, sl', tp⟩ K) (m ⟨np, fz, st, sl, .val (.node .tup (.leaf (.str z) :: us)) :: tp⟩ K)
    | false => m ⟨np, fz, st, sl, .val (.node .tup (.leaf (.str z) :: us)) :: tp⟩ K
  | _ => False
instance hs_mCase (k : Str) (is : List Nat) (b m : DS) [B : HS b] [M : HS m] : HS (mCase k is b m) := ⟨wMCase k is B.w M.w, fun e K h => by
  unfold wMCase at h
  split at h
  · rename_i np fz st sl z us tp
    unfold mCase
    dsimp only
    split at h
    · rename_i hl
      have hl : us.length = is.length := Nat.eq_of_beq_eq_true hl
      rcases bif_is h with ⟨hz, h⟩ | ⟨hz, h⟩
      · rw [if_pos ⟨hl, of_decide_eq_true hz⟩]
        exact B.ok _ _ (setAllK_is h)
      · rw [if_neg fun q => of_decide_eq_false hz q.2]
        exact M.ok _ _ h
    · rename_i hl
      have hl : us.length ≠ is.length := Nat.ne_of_beq_eq_false hl
      rw [if_neg fun q => hl q.1]
      exact M.ok _ _ h
  · exact h.elim⟩
end FB
namespace FB
open PySem PySem.Spec PyProof.Rows L2
theorem dicKids_imm (π : List Nat) : ∀ (i : Nat) (us : List U), U.immL us = true → dicKids π i us = []
  | _, [], _ => by rw [dicKids]
  | i, .leaf v :: r, h => by
    rw [U.immL, Bool.and_eq_true] at h
    rw [dicKids, dicKids_imm π (i + 1) r h.2]
    intro ks us hh
    cases hh
  | i, .node k cs :: r, h => by
    rw [U.immL, Bool.and_eq_true] at h
    cases k with
    | dic ks => rw [U.imm] at h; exact absurd h.1 (by simp [Kd.mut])
    | _ =>
      rw [dicKids, dicKids_imm π (i + 1) r h.2]
      intro ks us hh
      cases hh
theorem lkPaths_imm {π : List Nat} {us : List U} (h : U.immL us = true) : lkPaths π us = [π] := by
  unfold lkPaths
  rw [dicKids_imm π 0 us h]
  rfl
/-- more than one lock -/
structure lkW (j : Nat) (X : DX) (l : List (List Nat)) (e : Env) (K : Env → Prop) : Prop where
  h : ∃ e', dLkL j X l e = some e' ∧ K e'
structure slkW (j : Nat) (X : DS) (l : List (List Nat)) (e : Env) (K : Out → Prop) : Prop where
  h : ∃ o, sLkL j X l e = some o ∧ K o
def stK (e : Env) (K : List U → Prop) : Prop := match e with
  | ⟨_, _, st, _, _⟩ => K st
theorem stK_is {e : Env} {K : List U → Prop} (h : stK e K) : K e.st := by
  obtain ⟨np, fz, st, sl, tp⟩ := e
  exact h
instance hx_lk (a X : DX) [A : HX a] [B : HX X] : HX (dLk a X) := ⟨fun e K => A.w e fun e1 => match e1 with
  | ⟨_, _, _, _, .ref j π :: _⟩ => stK e fun st => look1K st j π fun d => match d with
    | .node (.dic _) us => bif' (U.immL us) (lockK j π e fun e2 => fzK e2 fun fz => freezeK j e2 fun u0 e3 => B.w e3 (thawE fz u0 j fz.length fun e5 => unlockK j π e5 K)) (lkW j X (lkPaths π us) e K)
    | _ => False
  | _ => False, fun e K h => by
  obtain ⟨e1, h1, h⟩ := A.ok _ _ h
  split at h
  · rename_i np fz st sl j π tp
    obtain ⟨d, h2, h⟩ := look1K_is (stK_is h)
    split at h
    · rename_i ks us
      rcases bif_is h with ⟨hi, h⟩ | ⟨_, h⟩
      · obtain ⟨e2, h3, h⟩ := lockK_is h
        obtain ⟨u0, e3, h4, h⟩ := freezeK_is (fzK_is h)
        obtain ⟨e4, h5, h⟩ := B.ok _ _ h
        obtain ⟨e5, h6, h⟩ := thawE_is h
        obtain ⟨e6, h7, h⟩ := unlockK_is h
        refine ⟨e6, ?_, h⟩
        unfold dLk
        simp only [h1, h2, Option.bind_some]
        rw [lkPaths_imm hi]
        simp only [dLkL, h3, h4, h5, h6, h7, Option.bind_some]
      · obtain ⟨e', h3, h⟩ := h.h
        exact ⟨e', by simp only [dLk, h1, h2, Option.bind_some]; exact h3, h⟩
    · exact h.elim
  · exact h.elim⟩
instance hs_lk (a : DX) (X : DS) [A : HX a] [B : HS X] : HS (sLk a X) := ⟨fun e K => A.w e fun e1 => match e1 with
  | ⟨_, _, _, _, .ref j π :: _⟩ => stK e fun st => look1K st j π fun d => match d with
    | .node (.dic _) us => bif' (U.immL us) (lockK j π e fun e2 => fzK e2 fun fz => freezeK j e2 fun u0 e3 => B.w e3 (outK (thawE fz u0 j fz.length) (outK (fun K' e5 => unlockK j π e5 K') K))) (slkW j X (lkPaths π us) e K)
    | _ => False
  | _ => False, fun e K h => by
  obtain ⟨e1, h1, h⟩ := A.ok _ _ h
  split at h
  · rename_i np fz st sl j π tp
    obtain ⟨d, h2, h⟩ := look1K_is (stK_is h)
    split at h
    · rename_i ks us
      rcases bif_is h with ⟨hi, h⟩ | ⟨_, h⟩
      · obtain ⟨e2, h3, h⟩ := lockK_is h
        obtain ⟨u0, e3, h4, h⟩ := freezeK_is (fzK_is h)
        obtain ⟨o, h5, h⟩ := B.ok _ _ h
        obtain ⟨o2, h6, h⟩ := outK_is (T := thawE e2.fz u0 j e2.fz.length) (f := fun e => e.thaw j e2.fz.length) (fun K e => thawE_is) h
        obtain ⟨o3, h7, h⟩ := outK_is (T := fun K' e5 => unlockK j π e5 K') (f := fun e => unlockAt e j π) (fun K e => unlockK_is) h
        refine ⟨o3, ?_, h⟩
        unfold sLk
        simp only [h1, h2, Option.bind_some]
        rw [lkPaths_imm hi]
        simp only [sLkL, h3, h4, h5, h6, h7, Option.bind_some]
      · obtain ⟨e', h3, h⟩ := h.h
        exact ⟨e', by simp only [sLk, h1, h2, Option.bind_some]; exact h3, h⟩
    · exact h.elim
  · exact h.elim⟩
instance hs_forK (a b : DX) (body : DS) [A : HX a] : HS (sForK a b body) := ⟨fun e K => A.w e fun e1 => topK e1 fun s u e2 => match s, u with
  | .fref _ _, .node (.fdi ks) _ => loopW b body (keySl ks) e2 K
  | _, _ => False, fun e K h => by
  obtain ⟨e1, h1, h⟩ := A.ok _ _ h
  obtain ⟨s, u, e2, h2, h⟩ := topK_is h
  split at h
  · obtain ⟨o, h3, h⟩ := loopW_is h
    exact ⟨o, by simp only [sForK, h1, h2, Option.bind_some]; exact h3, h⟩
  · exact h.elim⟩
instance hx_lcK (vs : List Nat) (a b : DX) (t : DT) (x : DX) [A : HX a] : HX (dLcK vs a b t x) := ⟨fun e K => A.w e fun e1 => topK e1 fun s u e2 => match s, u with
  | .fref _ _, .node (.fdi ks) _ => newLK vs e2 fun e4 => lcW vs b t x (keySl ks) e4 (wipeE vs K)
  | _, _ => False, fun e K h => by
  obtain ⟨e1, h1, h⟩ := A.ok _ _ h
  obtain ⟨s, u, e2, h2, h⟩ := topK_is h
  split at h
  · obtain ⟨o, h3, h⟩ := lcW_is (newLK_is h)
    exact ⟨_, by simp only [dLcK, h1, h2, Option.bind_some]; rw [h3]; rfl, wipeE_is h⟩
  · exact h.elim⟩
instance hx_lcJ (vs : List Nat) (a b : DX) (t : DT) (x : DX) [A : HX a] : HX (dLcJ vs a b t x) := ⟨fun e K => A.w e fun e1 => topK e1 fun s u e2 => match s, u with
  | .fref _ _, .node (.fdi ks) us => bif' (U.immL us) (newLK vs e2 fun e4 => lcW vs b t x (itemsSl ks us) e4 (wipeE vs K)) False
  | _, _ => False, fun e K h => by
  obtain ⟨e1, h1, h⟩ := A.ok _ _ h
  obtain ⟨s, u, e2, h2, h⟩ := topK_is h
  split at h
  · rcases bif_is h with ⟨hi, h⟩ | ⟨_, h⟩
    · obtain ⟨o, h3, h⟩ := lcW_is (newLK_is h)
      exact ⟨_, by simp only [dLcJ, h1, h2, Option.bind_some]; rw [if_pos hi, h3]; rfl, wipeE_is h⟩
    · exact h.elim
  · exact h.elim⟩
instance hx_lcKn (vs : List Nat) (a b : DX) (t : DT) (x : DX) [A : HX a] : HX (dLcKn vs a b t x) := ⟨fun e K => A.w e fun e1 => takeK e1 fun u e2 => match u with
  | .node (.dic ks) us => bif' (U.immL us) (newLK vs e2 fun e4 => lcW vs b t x (keySl ks) e4 (wipeE vs K)) False
  | _ => False, fun e K h => by
  obtain ⟨e1, h1, h⟩ := A.ok _ _ h
  obtain ⟨u, e2, h2, h⟩ := takeK_is h
  split at h
  · rcases bif_is h with ⟨hi, h⟩ | ⟨_, h⟩
    · obtain ⟨o, h3, h⟩ := lcW_is (newLK_is h)
      exact ⟨_, by simp only [dLcKn, h1, h2, Option.bind_some]; rw [if_pos hi, h3]; rfl, wipeE_is h⟩
    · exact h.elim
  · exact h.elim⟩
instance hx_genK (st : Bool) (P : Addr) (vs : List Nat) (a b x : DX) [A : HX a] : HX (dGenK st P vs a b x) := ⟨fun e K => A.w e fun e1 => topK e1 fun s u e2 => fzK e2 fun fz2 => need (fz2.any (isTab P) = true) (match s, u with
  | .fref _ _, .node (.fdi ks) _ => wipeE vs (fun e4 => genW st vs b x (keySl ks) e4 (wipeE vs K)) e2
  | _, _ => False), fun e K h => by
  obtain ⟨e1, h1, h⟩ := A.ok _ _ h
  obtain ⟨s, u, e2, h2, h⟩ := topK_is h
  obtain ⟨hP, h⟩ := need_is (fzK_is h)
  split at h
  · obtain ⟨o, h3, h⟩ := genW_is (wipeE_is h)
    exact ⟨_, by simp only [dGenK, h1, h2, Option.bind_some]; rw [if_pos hP, h3]; rfl, wipeE_is h⟩
  · exact h.elim⟩
structure loopPW (b : DX) (body : DS) (its : List (List Sl)) (e : Env) (K : Out → Prop) : Prop where
  h : ∃ o, loopP b body its e = some o ∧ K o
instance hs_forP (a b : DX) (body : DS) [A : HX a] : HS (sForP a b body) := ⟨fun e K => A.w e fun e1 => topK e1 fun s u e2 => match s, u with
  | .fref m π, .node (.fdi ks) us => loopPW b body (pairSl m π 0 ks us) e2 K
  | _, _ => False, fun e K h => by
  obtain ⟨e1, h1, h⟩ := A.ok _ _ h
  obtain ⟨s, u, e2, h2, h⟩ := topK_is h
  split at h
  · obtain ⟨o, h3, h⟩ := h.h
    exact ⟨o, by simp only [sForP, h1, h2, Option.bind_some]; exact h3, h⟩
  · exact h.elim⟩
structure dcW (vs : List Nat) (b : DX) (t : DT) (xk xv : DX) (its : List Sl) (e : Env) (K : Env → Prop) : Prop where
  h : ∃ e', loopDC vs b t xk xv its e = some e' ∧ K e'
def newDK (vs : List Nat) : Env → (Env → Prop) → Prop
  | ⟨np, fz, st, sl, tp⟩, K => wipeK sl vs fun sl' => newK ⟨np, fz, st, sl', tp⟩ (.node (.dic []) []) K
theorem newDK_is {vs : List Nat} {e : Env} {K : Env → Prop} (h : newDK vs e K) : K (e.newD vs) := by
  obtain ⟨np, fz, st, sl, tp⟩ := e
  unfold newDK at h
  dsimp only at h
  rw [wipeK_iff] at h
  exact newK_is h
instance hx_dcJ (vs : List Nat) (a b : DX) (t : DT) (xk xv : DX) [A : HX a] : HX (dDcJ vs a b t xk xv) := ⟨fun e K => A.w e fun e1 => topK e1 fun s u e2 => match s, u with
  | .fref _ _, .node (.fdi ks) us => bif' (U.immL us) (newDK vs e2 fun e4 => dcW vs b t xk xv (itemsSl ks us) e4 (wipeE vs K)) False
  | _, _ => False, fun e K h => by
  obtain ⟨e1, h1, h⟩ := A.ok _ _ h
  obtain ⟨s, u, e2, h2, h⟩ := topK_is h
  split at h
  · rcases bif_is h with ⟨hi, h⟩ | ⟨_, h⟩
    · obtain ⟨o, h3, h⟩ := (newDK_is h).h
      exact ⟨_, by simp only [dDcJ, h1, h2, Option.bind_some]; rw [if_pos hi, h3]; rfl, wipeE_is h⟩
    · exact h.elim
  · exact h.elim⟩
end FB
namespace FB
open PySem PySem.Spec PyProof.Rows L2
def Out.env : Out → Env
  | .nx e => e
  | .rt e => e
  | .bk e => e
  | .ct e => e
instance hx_gc (d : DX) [A : HX d] : HX (dGc d) := ⟨fun e K => A.w e fun e1 => cleanK [] e1 K, fun e K h => by
  obtain ⟨e1, h1, h2⟩ := A.ok _ _ h
  exact ⟨_, by unfold dGc; rw [h1]; rfl, cleanK_is h2⟩⟩
end FB
namespace FB
open PySem PySem.Spec PyProof.Rows L2
instance hx_dicT : HX dDicT := hx_node (.dit []) 0
def wDGetT : PX := fun e K => topK e fun _ u e1 => optE (keyT u) fun k => topK e1 fun s d e2 => optE d.dicT fun c => optW (dix k c.1 c.2 0) fun p => kidK s p.1 p.2 fun s' => pushK e2 s' K
instance hx_dgetT : HX dDGetT := ⟨wDGetT, fun e K h => by
  unfold wDGetT at h
  obtain ⟨s1, u, e1, h1, h⟩ := topK_is h
  obtain ⟨k, h2, h⟩ := optE_is h
  obtain ⟨s, d, e2, h3, h⟩ := topK_is h
  obtain ⟨c, h4, h⟩ := optE_is h
  obtain ⟨p, h5, h⟩ := optW_is h
  obtain ⟨h6, h7⟩ := dix0 h5
  exact ⟨_, by simp only [dDGetT, h1, h2, h3, h4, h6, h7, Option.bind_some, Option.map_some], pushK_is (kidK_is h)⟩⟩
def dputT (ks : List (List Key)) (us : List U) (k : List Key) (u : U) : U := match ixOf k ks with
  | some n => .node (.dit ks) (us.set n u)
  | none => .node (.dit (ks ++ [k])) (us ++ [u])
structure putTW (ks : List (List Key)) (us : List U) (k : List Key) (u : U) (K : U → Prop) : Prop where
  h : K (dputT ks us k u)
def wPutT : PX
  | ⟨np, fz, st, sl, sk :: sd :: sv :: tp⟩, K => takeK ⟨np, fz, st, sl, sv :: sk :: sd :: tp⟩ fun u e1 => topK e1 fun _ ku e2 => optE (keyT ku) fun k => match e2 with
    | ⟨np, fz, st, sl, .ref j π :: tp⟩ => look1K st j π fun d => match d with
      | .node (.dit ks) us => need (us.length < 100000) (match sl.all (quiet j π) && tp.all (quiet j π) with
        | true => putTW ks us k u fun d' => setUK st j π d' fun st' => K ⟨np, fz, st', sl, tp⟩
        | false => False)
      | _ => False
    | _ => False
  | _, _ => False
instance hx_dputT : HX dPutT := ⟨wPutT, fun e K h => by
  unfold wPutT at h
  split at h
  · rename_i np fz st sl sk sd sv tp K
    obtain ⟨u, e1, h1, h⟩ := takeK_is h
    obtain ⟨s1, ku, e2, h2, h⟩ := topK_is h
    obtain ⟨k, h3, h⟩ := optE_is h
    split at h
    · rename_i np fz st sl j π tp
      obtain ⟨d, h4, h⟩ := look1K_is h
      split at h
      · rename_i ks us
        obtain ⟨hl, h⟩ := need_is h
        split at h
        · rename_i hq
          rw [Bool.and_eq_true] at hq
          have h := setUK_is h.h
          unfold dputT at h
          unfold dPutT Env.rot
          simp only [h1, h2, h3, Option.bind_some]
          cases hx : ixOf k ks with
          | none =>
            rw [hx] at h
            refine ⟨_, ?_, h⟩
            simp only [h4, hl, if_true]
            rw [hx]
          | some n =>
            rw [hx] at h
            refine ⟨_, ?_, h⟩
            simp only [h4, hl, if_true]
            rw [hx]
            simp only [quiet_kls hq.1, quiet_kls hq.2]
        · exact h.elim
      · exact h.elim
    · exact h.elim
  · exact h.elim⟩
def wChkT : PX := fun e K => topK e fun _ u _ => match u with
  | .node (.dit _) _ => K e
  | _ => False
instance hx_chkT : HX dChkT := ⟨wChkT, fun e K h => by
  unfold wChkT at h
  obtain ⟨s, u, e1, h1, h⟩ := topK_is h
  split at h
  · exact ⟨_, by simp only [dChkT, h1, Option.bind_some], h⟩
  · exact h.elim⟩
/-- d.setdefault(k, z) of which the value is not asked -/
structure setdTW (ks : List (List Key)) (us : List U) (k : List Key) (A : Prop) (B : Nat → U → Prop) : Prop where
  h : match ixOf k ks with
    | none => A
    | some n => optW (us[n]?) (B n)
def wSetdT : PX := fun e K => leafK' e fun z e1 => topK e1 fun _ ku e2 => optE (keyT ku) fun k => match e2 with
    | ⟨np, fz, st, sl, .ref j π :: tp⟩ => look1K st j π fun d => match d with
      | .node (.dit ks) us => need (us.length < 100000) (setdTW ks us k (setUK st j π (.node (.dit (ks ++ [k])) (us ++ [.leaf z])) fun st' => K ⟨np, fz, st', sl, .val (.leaf z) :: tp⟩) fun n w => kidK (.ref j π) n w fun s' => K ⟨np, fz, st, sl, s' :: tp⟩)
      | _ => False
    | _ => False
instance hx_setdT : HX dSetdT := ⟨wSetdT, fun e K h => by
  unfold wSetdT at h
  obtain ⟨z, e1, h1, h⟩ := leafK_is h
  obtain ⟨s1, ku, e2, h2, h⟩ := topK_is h
  obtain ⟨k, h3, h⟩ := optE_is h
  split at h
  · rename_i np fz st sl j π tp
    obtain ⟨d, h4, h⟩ := look1K_is h
    split at h
    · rename_i ks us
      obtain ⟨h5, h⟩ := need_is h
      have h := h.h
      unfold dSetdT
      simp only [h1, h2, h3, h4, Option.bind_some]
      rw [if_pos h5]
      cases hx : ixOf k ks with
      | none =>
        rw [hx] at h
        exact ⟨_, rfl, setUK_is h⟩
      | some n =>
        rw [hx] at h
        obtain ⟨w, h6, h⟩ := optW_is h
        exact ⟨_, by simp only [h6, Option.map_some], kidK_is h⟩
    · exact h.elim
  · exact h.elim⟩
def lockTK (j : Nat) (π : List Nat) : Env → (Env → Prop) → Prop
  | ⟨np, fz, st, sl, tp⟩, K => look1K st j π fun d => match d with
    | .node (.dit ks) us => setUK st j π (.node (.fdt ks) us) fun st' => K ⟨np, fz, st', sl, tp⟩
    | _ => False
theorem lockTK_is {j : Nat} {π : List Nat} {e : Env} {K : Env → Prop} (h : lockTK j π e K) : ∃ e', lockAtT e j π = some e' ∧ K e' := by
  obtain ⟨np, fz, st, sl, tp⟩ := e
  unfold lockTK at h
  obtain ⟨d, h1, h⟩ := look1K_is h
  split at h
  · exact ⟨_, by unfold lockAtT; dsimp only; rw [h1], setUK_is h⟩
  · exact h.elim
def unlockTK (j : Nat) (π : List Nat) : Env → (Env → Prop) → Prop
  | ⟨np, fz, st, sl, tp⟩, K => look1K st j π fun d => match d with
    | .node (.fdt ks) us => setUK st j π (.node (.dit ks) us) fun st' => K ⟨np, fz, st', sl, tp⟩
    | _ => False
theorem unlockTK_is {j : Nat} {π : List Nat} {e : Env} {K : Env → Prop} (h : unlockTK j π e K) : ∃ e', unlockAtT e j π = some e' ∧ K e' := by
  obtain ⟨np, fz, st, sl, tp⟩ := e
  unfold unlockTK at h
  obtain ⟨d, h1, h⟩ := look1K_is h
  split at h
  · exact ⟨_, by unfold unlockAtT; dsimp only; rw [h1], setUK_is h⟩
  · exact h.elim
instance hx_lkT (a X : DX) [A : HX a] [B : HX X] : HX (dLkT a X) := ⟨fun e K => A.w e fun e1 => match e1 with
  | ⟨_, _, _, _, .ref j π :: _⟩ => lockTK j π e fun e2 => fzK e2 fun fz => freezeK j e2 fun u0 e3 => B.w e3 (thawE fz u0 j fz.length fun e5 => unlockTK j π e5 K)
  | _ => False, fun e K h => by
  obtain ⟨e1, h1, h⟩ := A.ok _ _ h
  split at h
  · rename_i np fz st sl j π tp
    obtain ⟨e2, h3, h⟩ := lockTK_is h
    obtain ⟨u0, e3, h4, h⟩ := freezeK_is (fzK_is h)
    obtain ⟨e4, h5, h⟩ := B.ok _ _ h
    obtain ⟨e5, h6, h⟩ := thawE_is h
    obtain ⟨e6, h7, h⟩ := unlockTK_is h
    refine ⟨e6, ?_, h⟩
    unfold dLkT
    simp only [h1, h3, h4, h5, h6, h7, Option.bind_some]
  · exact h.elim⟩
instance hx_lcKT (vs : List Nat) (a b : DX) (t : DT) (x : DX) [A : HX a] : HX (dLcKT vs a b t x) := ⟨fun e K => A.w e fun e1 => topK e1 fun s u e2 => match s, u with
  | .fref _ _, .node (.fdt ks) _ => newLK vs e2 fun e4 => lcW vs b t x (keySlT ks) e4 (wipeE vs K)
  | _, _ => False, fun e K h => by
  obtain ⟨e1, h1, h⟩ := A.ok _ _ h
  obtain ⟨s, u, e2, h2, h⟩ := topK_is h
  split at h
  · obtain ⟨o, h3, h⟩ := lcW_is (newLK_is h)
    exact ⟨_, by simp only [dLcKT, h1, h2, Option.bind_some]; rw [h3]; rfl, wipeE_is h⟩
  · exact h.elim⟩
end FB
namespace FB
open PySem PySem.Spec PyProof.Rows L2
def wSortI : PX := fun e K => topK e fun _ u e1 => optE u.dic fun c => optW (leafKs c.2) fun vs => need (alike (pairKs c.1 vs) = true) (newK e1 (.node .lst ((sortK (pairKs c.1 vs)).map tupU)) K)
instance hx_sortI : HX dSortI := ⟨wSortI, fun e K h => by
  unfold wSortI at h
  obtain ⟨s, u, e1, h1, h⟩ := topK_is h
  obtain ⟨c, h2, h⟩ := optE_is h
  obtain ⟨vs, h3, h⟩ := optW_is h
  obtain ⟨h4, h⟩ := need_is h
  exact ⟨_, by simp only [dSortI, h1, h2, h3, Option.bind_some]; rw [if_pos h4], newK_is h⟩⟩
def wSortA : PX := fun e K => topK e fun _ u e1 => optE (u.seq okL) fun us => optW (leafKs us) fun l => need (sameKind l = true) (newK e1 (.node .lst ((sortKs l).map leafU)) K)
instance hx_sortA : HX dSortA := ⟨wSortA, fun e K h => by
  unfold wSortA at h
  obtain ⟨s, u, e1, h1, h⟩ := topK_is h
  obtain ⟨us, h2, h⟩ := optE_is h
  obtain ⟨l, h3, h⟩ := optW_is h
  obtain ⟨h4, h⟩ := need_is h
  exact ⟨_, by simp only [dSortA, h1, h2, h3, Option.bind_some]; rw [if_pos h4], newK_is h⟩⟩
def wSortDA : PX := fun e K => topK e fun _ u e1 => optE u.dic fun c => need (sameKind c.1 = true) (newK e1 (.node .lst ((sortKs c.1).map leafU)) K)
instance hx_sortDA : HX dSortDA := ⟨wSortDA, fun e K h => by
  unfold wSortDA at h
  obtain ⟨s, u, e1, h1, h⟩ := topK_is h
  obtain ⟨c, h2, h⟩ := optE_is h
  obtain ⟨h4, h⟩ := need_is h
  exact ⟨_, by simp only [dSortDA, h1, h2, Option.bind_some]; rw [if_pos h4], newK_is h⟩⟩
end FB
namespace FB
open PySem PySem.Spec PyProof.Rows L2
theorem look1_old {fz : List U} {u : U} {m : Nat} {π : List Nat} (h : m < fz.length) : look1 (fz ++ [u]) m π = look1 fz m π := by
  unfold look1
  rw [List.getElem?_append_left h]
theorem optW_l1 {F : List U} {u v : U} {π : List Nat} {K : U → Prop} (h : getK π u K) : optW (look1 (F ++ [u] ++ [v]) F.length π) K := by
  rw [look1_old (by simp)]
  exact optW_last h
theorem optW_l2 {F : List U} {u v w : U} {π : List Nat} {K : U → Prop} (h : getK π u K) : optW (look1 (F ++ [u] ++ [v] ++ [w]) F.length π) K := by
  rw [look1_old (by simp)]
  exact optW_l1 h
theorem optW_l3 {F : List U} {u v w x : U} {π : List Nat} {K : U → Prop} (h : getK π u K) : optW (look1 (F ++ [u] ++ [v] ++ [w] ++ [x]) F.length π) K := by
  rw [look1_old (by simp)]
  exact optW_l2 h
theorem optW_l4 {F : List U} {u v w x y : U} {π : List Nat} {K : U → Prop} (h : getK π u K) : optW (look1 (F ++ [u] ++ [v] ++ [w] ++ [x] ++ [y]) F.length π) K := by
  rw [look1_old (by simp)]
  exact optW_l3 h
theorem optW_l5 {F : List U} {u v w x y z : U} {π : List Nat} {K : U → Prop} (h : getK π u K) : optW (look1 (F ++ [u] ++ [v] ++ [w] ++ [x] ++ [y] ++ [z]) F.length π) K := by
  rw [look1_old (by simp)]
  exact optW_l4 h
theorem optW_l6 {F : List U} {u v w x y z z1 : U} {π : List Nat} {K : U → Prop} (h : getK π u K) : optW (look1 (F ++ [u] ++ [v] ++ [w] ++ [x] ++ [y] ++ [z] ++ [z1]) F.length π) K := by
  rw [look1_old (by simp)]
  exact optW_l5 h
def lockSlK (i : Nat) (π : List Nat) : Env → (Env → Prop) → Prop
  | ⟨np, fz, st, sl, tp⟩, K => match nth sl i with
    | some (.ref j κ) => appK κ π fun ρ => look1K st j ρ fun d => match d with
      | .node .lst us => bif' (U.immL us) (setUK st j ρ (.node .fls us) fun st' => K ⟨np, fz, st', sl, tp⟩) False
      | .node (.dic ks) us => setUK st j ρ (.node (.fdi ks) us) fun st' => K ⟨np, fz, st', sl, tp⟩
      | _ => False
    | _ => False
theorem lockSlK_is {i : Nat} {π : List Nat} {e : Env} {K : Env → Prop} (h : lockSlK i π e K) : ∃ e', lockSl e i π = some e' ∧ K e' := by
  obtain ⟨np, fz, st, sl, tp⟩ := e
  unfold lockSlK at h
  dsimp only at h
  rw [nth_eq] at h
  split at h
  · rename_i j κ hs
    rw [appK_iff] at h
    obtain ⟨d, h1, h⟩ := look1K_is h
    split at h
    · rename_i us
      rcases bif_is h with ⟨hi, h⟩ | ⟨_, h⟩
      · have h9 := setUK_is h
        refine ⟨_, ?_, h9⟩
        unfold lockSl
        dsimp only
        rw [hs]
        dsimp only
        unfold lockLD lockLs
        dsimp only
        rw [h1]
        dsimp only
        rw [if_pos hi]
      · exact h.elim
    · rename_i ks us
      have h9 := setUK_is h
      refine ⟨_, ?_, h9⟩
      unfold lockSl
      dsimp only
      rw [hs]
      dsimp only
      unfold lockLD lockAt
      dsimp only
      rw [h1]
    · exact h.elim
  · exact h.elim
def frzNK : Nat → Env → (Env → Prop) → Prop
  | 0, e, K => K e
  | n + 1, e, K => freezeK n e fun _ e1 => frzNK n e1 K
theorem frzNK_is : ∀ {n : Nat} {e : Env} {K : Env → Prop}, frzNK n e K → ∃ e', frzN n e = some e' ∧ K e'
  | 0, e, K, h => ⟨e, rfl, h⟩
  | n + 1, e, K, h => by
    obtain ⟨u, e1, h1, h⟩ := freezeK_is h
    obtain ⟨e2, h2, h3⟩ := frzNK_is h
    exact ⟨e2, by rw [frzN, h1]; exact h2, h3⟩
def regLK : List (Nat × List Nat) → Env → (Env → Prop) → Prop
  | [], ⟨np, fz, st, sl, tp⟩, K => natK st.length fun n => frzNK n ⟨np, fz, st, sl, tp⟩ K
  | q :: r, e, K => lockSlK q.1 q.2 e fun e1 => regLK r e1 K
theorem regLK_is : ∀ {l : List (Nat × List Nat)} {e : Env} {K : Env → Prop}, regLK l e K → ∃ e', regL l e = some e' ∧ K e'
  | [], ⟨np, fz, st, sl, tp⟩, K, h => by
    unfold regLK at h
    rw [natK_iff] at h
    exact frzNK_is h
  | q :: r, e, K, h => by
    unfold regLK at h
    obtain ⟨e1, h1, h⟩ := lockSlK_is h
    obtain ⟨e2, h2, h3⟩ := regLK_is h
    exact ⟨e2, by rw [regL, h1]; exact h2, h3⟩
def scalK (K : V → Prop) : Env → Prop
  | ⟨_, _, _, _, .val (.leaf v) :: _⟩ => K v
  | _ => False
theorem scalK_is {e : Env} {K : V → Prop} (h : scalK K e) : ∃ v, scalOut e = some v ∧ K v := by
  unfold scalK at h
  split at h
  · exact ⟨_, rfl, h⟩
  · exact h.elim
def wReg (l : List (Nat × List Nat)) (a : PX) : PX
  | ⟨np, fz, st, sl, tp⟩, K => regLK l ⟨np, fz, st, sl, tp⟩ fun e1 => a e1 (scalK fun v => K ⟨np, fz, st, sl, .val (.leaf v) :: tp⟩)
instance hx_reg (l : List (Nat × List Nat)) (a : DX) [A : HX a] : HX (dReg l a) := ⟨wReg l A.w, fun ⟨np, fz, st, sl, tp⟩ K h => by
  unfold wReg at h
  obtain ⟨e1, h1, h⟩ := regLK_is h
  obtain ⟨e2, h2, h⟩ := A.ok _ _ h
  obtain ⟨v, h3, h⟩ := scalK_is h
  exact ⟨_, by unfold dReg; rw [h1]; simp only [Option.bind_some]; rw [h2]; simp only [Option.bind_some]; rw [h3]; rfl, h⟩⟩
def rtK (K : V → Prop) : Out → Prop
  | .rt e => scalK K e
  | _ => False
instance hs_reg (l : List (Nat × List Nat)) (a : DS) [A : HS a] : HS (sReg l a) := ⟨fun e K => regLK l e fun e1 => A.w e1 (rtK fun v => match e with
    | ⟨np, fz, st, sl, tp⟩ => K (.rt ⟨np, fz, st, sl, .val (.leaf v) :: tp⟩)), fun ⟨np, fz, st, sl, tp⟩ K h => by
  obtain ⟨e1, h1, h⟩ := regLK_is h
  obtain ⟨o, h2, h⟩ := A.ok _ _ h
  cases o with
  | rt e2 =>
    obtain ⟨v, h3, h⟩ := scalK_is h
    exact ⟨_, by unfold sReg; rw [h1]; simp only [Option.bind_some]; rw [h2]; simp only [Option.bind_some]; unfold rtOut; dsimp only; rw [h3]; rfl, h⟩
  | nx e2 => exact h.elim
  | bk e2 => exact h.elim
  | ct e2 => exact h.elim⟩
def wVal : PX := fun e K => topK e fun _ u e1 => bif' u.imm (pushK e1 (.val u) K) False
instance hx_val : HX dVal := ⟨wVal, fun e K h => by
  unfold wVal at h
  obtain ⟨s, u, e1, h1, h⟩ := topK_is h
  rcases bif_is h with ⟨hi, h⟩ | ⟨_, h⟩
  · exact ⟨_, by unfold dVal; rw [h1]; dsimp only; rw [if_pos hi], pushK_is h⟩
  · exact h.elim⟩
instance immFls (us : List U) [a : ImmL us] : Imm (.node .fls us) := ⟨by rw [U.imm, a.h]; rfl⟩
end FB
namespace FB
open PySem PySem.Spec PyProof.Rows L2
instance immLeafU (k : Key) : Imm (leafU k) := ⟨by unfold leafU; rw [U.imm]⟩
def wEqNil (neg : Bool) : PX := fun e K => topK e fun _ v e1 => optE (v.seq okL) fun vs => topK e1 fun _ u e2 => optE (u.seq okL) fun us => match vs with
  | [] => pushK e2 (.val (.leaf (.bl (us.isEmpty != neg)))) K
  | _ :: _ => False
instance hx_eqNil (neg : Bool) : HX (dEqNil neg) := ⟨wEqNil neg, fun e K h => by
  unfold wEqNil at h
  obtain ⟨s, v, e1, h1, h⟩ := topK_is h
  obtain ⟨vs, h2, h⟩ := optE_is h
  obtain ⟨s', u, e2, h3, h⟩ := topK_is h
  obtain ⟨us, h4, h⟩ := optE_is h
  cases vs with
  | cons _ _ => exact h.elim
  | nil => exact ⟨_, by simp only [dEqNil, h1, h2, h3, h4, Option.bind_some]; rw [if_pos (by rfl)], pushK_is h⟩⟩
end FB
namespace FB
open PySem PySem.Spec PyProof.Rows L2
def refsK (m : Nat) : Nat → List Sl → (List Sl → Prop) → Prop
  | 0, tp, K => K tp
  | n + 1, tp, K => natK (m + n) fun j => refsK m n tp fun l => K (.ref j [] :: l)
theorem refsK_is {m : Nat} : ∀ {n : Nat} {tp : List Sl} {K : List Sl → Prop}, refsK m n tp K → K (refsN m n ++ tp)
  | 0, tp, K, h => h
  | n + 1, tp, K, h => by
    rw [refsK, natK_iff] at h
    exact refsK_is (n := n) (K := fun l => K (.ref (m + n) [] :: l)) h
def unpkK (n : Nat) (e : Env) (K : Env → Prop) : Prop := takeK e fun u e1 => match u with
  | .node .lst us => need (us.length = n) (match e1 with
    | ⟨np, fz, st, sl, tp⟩ => natK st.length fun m => appK st us fun st' => refsK m n tp fun tp' => K ⟨np, fz, st', sl, tp'⟩)
  | _ => False
theorem unpkK_is {n : Nat} {e : Env} {K : Env → Prop} (h : unpkK n e K) : ∃ e', unpk n e = some e' ∧ K e' := by
  unfold unpkK at h
  obtain ⟨u, e1, h1, h⟩ := takeK_is h
  split at h
  · rename_i us
    obtain ⟨h2, h⟩ := need_is h
    obtain ⟨np, fz, st, sl, tp⟩ := e1
    dsimp only at h
    rw [natK_iff, appK_iff] at h
    exact ⟨_, by unfold unpk; rw [h1]; simp only [Option.bind_some]; rw [if_pos h2], refsK_is h⟩
  · exact h.elim
instance hs_forU (n : Nat) (a b : DX) (body : DS) [A : HX a] [B : HX b] [D : HS body] : HS (sForU n a b body) := ⟨fun e K => A.w e fun e0 => unpkK n e0 fun e1 => wLoopD b body n e1 fun e2 => match e2 with
    | ⟨np, fz, st, sl, tp⟩ => dropK n tp fun tp' => K (.nx ⟨np, fz, st, sl, tp'⟩), fun e K h => by
  obtain ⟨e0, h0, h⟩ := A.ok _ _ h
  obtain ⟨e1, h1, h⟩ := unpkK_is h
  obtain ⟨e2, h2, h⟩ := wLoopD_is h
  obtain ⟨np, fz, st, sl, tp⟩ := e2
  refine ⟨_, ?_, dropK_is h⟩
  unfold sForU
  simp only [h0, h1, h2, Option.bind_some]
  rfl⟩
end FB
namespace FB
open PySem PySem.Spec PyProof.Rows L2
structure updW (ks : List Key) (us : List U) (l : List (Key × U)) (K : List Key → List U → Prop) : Prop where
  h : K (mergeL (ks, us) l).1 (mergeL (ks, us) l).2
def wUpd : PX := fun e K => takeK e fun u e1 => match u with
  | .node (.dic ks2) us2 => match e1 with
    | ⟨np, fz, st, sl, .ref j π :: tp⟩ => look1K st j π fun d => match d with
      | .node (.dic ks) us => need (us.length + us2.length < 100000) (match sl.all (quiet j π) && tp.all (quiet j π) with
        | true => updW ks us (ks2.zip us2) fun ks' us' => setUK st j π (.node (.dic ks') us') fun st' => K ⟨np, fz, st', sl, .val (.leaf .non) :: tp⟩
        | false => False)
      | _ => False
    | _ => False
  | _ => False
instance hx_upd : HX dUpd := ⟨wUpd, fun e K h => by
  unfold wUpd at h
  obtain ⟨u, e1, h1, h⟩ := takeK_is h
  split at h
  · rename_i ks2 us2
    split at h
    · rename_i np fz st sl j π tp
      obtain ⟨d, h4, h⟩ := look1K_is h
      split at h
      · rename_i ks us
        obtain ⟨hl, h⟩ := need_is h
        split at h
        · rename_i hq
          rw [Bool.and_eq_true] at hq
          have h := setUK_is h.h
          refine ⟨_, ?_, h⟩
          unfold dUpd
          simp only [h1, h4, Option.bind_some]
          rw [if_pos hl]
          simp only [quiet_klsf hq.1, quiet_klsf hq.2]
        · exact h.elim
      · exact h.elim
    · exact h.elim
  · exact h.elim⟩
def wChkM : PX := fun e K => topK e fun _ u _ => match u with
  | .node (.dic _) _ => K e
  | _ => False
instance hx_chkM : HX dChkM := ⟨wChkM, fun e K h => by
  unfold wChkM at h
  obtain ⟨s, u, e1, h1, h⟩ := topK_is h
  split at h
  · exact ⟨_, by simp only [dChkM, h1, Option.bind_some], h⟩
  · exact h.elim⟩
instance hs_lkG (a : DX) (X : DS) [A : HX a] [B : HS X] : HS (sLkG a X) := ⟨fun e K => A.w e fun e1 => match e1 with
  | ⟨_, _, _, _, .fref _ _ :: _⟩ => B.w e K
  | ⟨_, _, _, _, .ref j π :: _⟩ => stK e fun st => look1K st j π fun d => match d with
    | .node (.dic _) us => bif' (U.immL us) (lockK j π e fun e2 => fzK e2 fun fz => freezeK j e2 fun u0 e3 => B.w e3 (outK (thawE fz u0 j fz.length) (outK (fun K' e5 => unlockK j π e5 K') K))) (slkW j X (lkPaths π us) e K)
    | _ => False
  | _ => False, fun e K h => by
  obtain ⟨e1, h1, h⟩ := A.ok _ _ h
  split at h
  · obtain ⟨o, h2, h⟩ := B.ok _ _ h
    refine ⟨o, ?_, h⟩
    unfold sLkG
    simp only [h1, Option.bind_some]
    exact h2
  · rename_i np fz st sl j π tp
    obtain ⟨d, h2, h⟩ := look1K_is (stK_is h)
    have e9 : sLkG a X e = sLk a X e := by
      unfold sLkG
      simp only [h1, Option.bind_some]
    rw [e9]
    split at h
    · rename_i ks us
      rcases bif_is h with ⟨hi, h⟩ | ⟨_, h⟩
      · obtain ⟨e2, h3, h⟩ := lockK_is h
        obtain ⟨u0, e3, h4, h⟩ := freezeK_is (fzK_is h)
        obtain ⟨o, h5, h⟩ := B.ok _ _ h
        obtain ⟨o2, h6, h⟩ := outK_is (T := thawE e2.fz u0 j e2.fz.length) (f := fun e => e.thaw j e2.fz.length) (fun K e => thawE_is) h
        obtain ⟨o3, h7, h⟩ := outK_is (T := fun K' e5 => unlockK j π e5 K') (f := fun e => unlockAt e j π) (fun K e => unlockK_is) h
        refine ⟨o3, ?_, h⟩
        unfold sLk
        simp only [h1, h2, Option.bind_some]
        rw [lkPaths_imm hi]
        simp only [sLkL, h3, h4, h5, h6, h7, Option.bind_some]
      · obtain ⟨e', h3, h⟩ := h.h
        exact ⟨e', by simp only [sLk, h1, h2, Option.bind_some]; exact h3, h⟩
    · exact h.elim
  · exact h.elim⟩
end FB
namespace FB
open PySem PySem.Spec PyProof.Rows L2
def wForZ (a : PX) (b : DX) (body : DS) (e : Env) (K : Out → Prop) : Prop := a e fun e1 => topK e1 fun s2 u2 e2 => grabK s2 e2 fun _ e3 b2 => topK e3 fun s1 u1 e4 => grabK s1 e4 fun _ e5 b1 => match u1, u2 with
  | .node k1 us1, .node k2 us2 => need (zipOk k1 k2 = true) (bif' (U.immL us1) (bif' (U.immL us2) (loopW b body (zipSl us1 us2) e5 (outK b1 (outK b2 K))) False) False)
  | _, _ => False
instance hs_forZ (a b : DX) (body : DS) [A : HX a] : HS (sForZ a b body) := ⟨wForZ A.w b body, fun e K h => by
  unfold wForZ at h
  obtain ⟨e1, h1, h⟩ := A.ok _ _ h
  obtain ⟨s2, u2, e2, h2, h⟩ := topK_is h
  obtain ⟨r2, e3, bk2, T2, h3, h, t2⟩ := grabK_is h
  obtain ⟨s1, u1, e4, h4, h⟩ := topK_is h
  obtain ⟨r1, e5, bk1, T1, h5, h, t1⟩ := grabK_is h
  unfold sForZ
  simp only [h1, h2, h3, h4, h5, Option.bind_some]
  cases u1 with
  | leaf v => exact h.elim
  | node k1 us1 =>
    cases u2 with
    | leaf v => exact h.elim
    | node k2 us2 =>
      dsimp only at h ⊢
      obtain ⟨hz, h⟩ := need_is h
      rcases bif_is h with ⟨i1, h⟩ | ⟨_, h⟩
      · rcases bif_is h with ⟨i2, h⟩ | ⟨_, h⟩
        · rw [if_pos ⟨hz, i1, i2⟩]
          obtain ⟨o6, h6, h⟩ := loopW_is h
          obtain ⟨o7, h7, h⟩ := outK_is (T := T1) (f := bk1) t1 h
          obtain ⟨o8, h8, h⟩ := outK_is (T := T2) (f := bk2) t2 h
          refine ⟨o8, ?_, h⟩
          rw [h6]
          simp only [Option.bind_some]
          cases o6 with
          | _ e6 =>
            unfold outMap at h7 ⊢
            obtain ⟨e7, h9, rfl⟩ := Option.map_eq_some_iff.mp h7
            dsimp only
            rw [h9]
            exact h8
        · exact h.elim
      · exact h.elim⟩
def wForV (a : PX) (b : DX) (body : DS) (e : Env) (K : Out → Prop) : Prop := a e fun e1 => topK e1 fun s2 u2 e2 => grabK s2 e2 fun _ e3 b2 => match u2 with
  | .node k us => need (okL k = true) (bif' (U.immL us) (loopW b body (us.reverse.map .val) e3 (outK b2 K)) False)
  | _ => False
instance hs_forV (a b : DX) (body : DS) [A : HX a] : HS (sForV a b body) := ⟨wForV A.w b body, fun e K h => by
  unfold wForV at h
  obtain ⟨e1, h1, h⟩ := A.ok _ _ h
  obtain ⟨s2, u2, e2, h2, h⟩ := topK_is h
  obtain ⟨r2, e3, bk2, T2, h3, h, t2⟩ := grabK_is h
  unfold sForV
  simp only [h1, h2, h3, Option.bind_some]
  cases u2 with
  | leaf v => exact h.elim
  | node k us =>
    dsimp only at h ⊢
    obtain ⟨hz, h⟩ := need_is h
    rcases bif_is h with ⟨i1, h⟩ | ⟨_, h⟩
    · rw [if_pos ⟨hz, i1⟩]
      obtain ⟨o6, h6, h⟩ := loopW_is h
      obtain ⟨o7, h7, h⟩ := outK_is (T := T2) (f := bk2) t2 h
      exact ⟨o7, by rw [h6]; exact h7, h⟩
    · exact h.elim⟩
end FB
local macro_rules | `(tactic| walk_at "w1") => `(tactic| ((conv => whnf); first
  | refine FB.optW_some ?_
  | refine FB.optW_last ?_
  | refine FB.optW_hd ?_
  | refine FB.optW_l1 ?_
  | refine FB.optW_l2 ?_
  | refine FB.optW_l3 ?_
  | refine FB.optW_l4 ?_
  | refine FB.optW_l5 ?_
  | refine FB.optW_l6 ?_
  | refine FB.bif_true ?_
  | refine FB.bif_false ?_
  | refine FB.bif_imm ?_
  | refine FB.bif_immL ?_
  | (refine FB.bif_dt ?_ ?_; (focus assumption))
  | (refine FB.bif_df ?_ ?_; (focus assumption))
  | (refine FB.bif_ndt ?_ ?_; (focus assumption))
  | (refine FB.bif_ndf ?_ ?_; (focus assumption))
  | (refine FB.bif_nt ?_ ?_; (focus assumption))
  | (refine FB.bif_nf ?_ ?_; (focus assumption))
  | (refine FB.bif_t ?_ ?_; (focus assumption))
  | (refine FB.bif_f ?_ ?_; (focus assumption))
  | (refine FB.need_mk ?_ ?_; (focus first | exact rfl | assumption))
  | (refine FB.need_dec ?_ ?_; (focus first | assumption | omega))
  | (refine FB.need_small ?_ ?_; (focus omega))
  | (refine FB.need_rng ?_ ?_ ?_; (focus omega); (focus omega))
  | (refine FB.need_mk ?_ ?_; (focus first | decide | omega | (simp only [List.length_map, List.length_append, List.length_cons, List.length_nil]; omega)))
  | refine FB.putW_some rfl ?_
  | refine FB.putW_none rfl ?_
  | refine FB.putW_mk ?_
  | refine FB.fputW_some rfl ?_
  | refine FB.fputW_none rfl ?_
  | refine FB.get2W_some rfl ?_
  | refine FB.get2W_none rfl ?_
  | (refine FB.mapW_by ?_; intro l' hl; simp (config := {decide := true}) only [List.map_cons, List.map_nil, FB.ufS_no, FB.ufS_val, FB.ufS_ref, FB.ufS_fref, FB.dropF_no, FB.dropF_val, FB.dropF_ref, FB.dropF_fref, if_true, if_false, reduceIte, FB.len_ne1, FB.len_ne2, FB.len_ne3] at hl; subst hl)))
local macro_rules | `(tactic| walk_at "wgo") => `(tactic| ((repeat walk_at "w1"); (conv => whnf)))
local macro_rules | `(tactic| walk_at "wc") => `(tactic| (first | refine FB.bif_dec ?_ ?_ | refine FB.bif_ndec ?_ ?_ | refine FB.bif_neg ?_ ?_ | refine FB.bif_case ?_ ?_))
namespace FB
open PySem PySem.Spec PyProof.Rows L2
def top (i : Nat) : Stmt := PySem.Challenge.pw_farbooks_k07_whole_cut_and_joined.main.body.getD i (.Pass ⟨0, 0, 0, 0⟩)
abbrev s_has_key : Stmt := top 2
theorem sc_has_key : FnScope ["span", "key", "low", "high"] ["span", "key"] (defScope s_has_key) := ⟨rfl, rfl, rfl, by decide +kernel, rfl, by decide +kernel, by decide +kernel⟩
abbrev s_span_with : Stmt := top 3
theorem sc_span_with : FnScope ["spans", "key", "span"] ["spans", "key"] (defScope s_span_with) := ⟨rfl, rfl, rfl, by decide +kernel, rfl, by decide +kernel, by decide +kernel⟩
abbrev s_can_cut : Stmt := top 4
theorem sc_can_cut : FnScope ["span", "key"] ["span", "key"] (defScope s_can_cut) := ⟨rfl, rfl, rfl, by decide +kernel, rfl, by decide +kernel, by decide +kernel⟩
abbrev s_cut_at : Stmt := top 5
theorem sc_cut_at : FnScope ["spans", "key", "pieces", "span"] ["spans", "key"] (defScope s_cut_at) := ⟨rfl, rfl, rfl, by decide +kernel, rfl, by decide +kernel, by decide +kernel⟩
abbrev s_joined_at : Stmt := top 6
theorem sc_joined_at : FnScope ["spans", "key", "joined", "span"] ["spans", "key"] (defScope s_joined_at) := ⟨rfl, rfl, rfl, by decide +kernel, rfl, by decide +kernel, by decide +kernel⟩
abbrev s_all_kept : Stmt := top 7
theorem sc_all_kept : FnScope ["spans", "least_unkept", "low", "high"] ["spans"] (defScope s_all_kept) := ⟨rfl, rfl, rfl, by decide +kernel, rfl, by decide +kernel, by decide +kernel⟩
abbrev s_clashes : Stmt := top 8
theorem sc_clashes : FnScope ["spans", "span", "other"] ["spans", "span"] (defScope s_clashes) := ⟨rfl, rfl, rfl, by decide +kernel, rfl, by decide +kernel, by decide +kernel⟩
abbrev s_share_key : Stmt := top 9
theorem sc_share_key : FnScope ["one", "other", "first"] ["one", "other"] (defScope s_share_key) := ⟨rfl, rfl, rfl, by decide +kernel, rfl, by decide +kernel, by decide +kernel⟩
abbrev s_drawn : Stmt := top 11
theorem sc_drawn : FnScope ["_law_script", "_law_cells"] ["_law_script"] (defScope s_drawn) := ⟨rfl, rfl, rfl, by decide +kernel, rfl, by decide +kernel, by decide +kernel⟩
abbrev s_pick : Stmt := top 12
theorem sc_pick : FnScope ["_law_draw", "_law_many", "_law_cells", "_law_value", "_law_k", "_law_m"] ["_law_draw", "_law_many"] (defScope s_pick) := ⟨rfl, rfl, rfl, by decide +kernel, rfl, by decide +kernel, by decide +kernel⟩
abbrev s_key : Stmt := top 13
theorem sc_key : FnScope ["_law_draw", "_law_way", "_law_k"] ["_law_draw"] (defScope s_key) := ⟨rfl, rfl, rfl, by decide +kernel, rfl, by decide +kernel, by decide +kernel⟩
abbrev s_spans : Stmt := top 14
theorem sc_spans : FnScope ["_law_draw", "_law_most", "_law_keys", "_law_k", "_law_key_here", "_law_spans_here", "_law_all_of_them", "_law_low", "_law_high"] ["_law_draw", "_law_most"] (defScope s_spans) := ⟨rfl, rfl, rfl, by decide +kernel, rfl, by decide +kernel, by decide +kernel⟩
abbrev s_least : Stmt := top 16
theorem sc_least : FnScope ["_law_span"] ["_law_span"] (defScope s_least) := ⟨rfl, rfl, rfl, by decide +kernel, rfl, by decide +kernel, by decide +kernel⟩
abbrev s_asked : Stmt := top 17
theorem sc_asked : FnScope ["_law_draw", "_law_spans_here", "_law_keys", "_law_low", "_law_high", "_law_k", "_law_key_here"] ["_law_draw", "_law_spans_here"] (defScope s_asked) := ⟨rfl, rfl, rfl, by decide +kernel, rfl, by decide +kernel, by decide +kernel⟩
abbrev s_seen : Stmt := top 18
theorem sc_seen : FnScope ["_law_spans_here", "_law_keys", "_law_others", "_law_kept", "_law_key_here", "_law_other"] ["_law_spans_here", "_law_keys", "_law_others"] (defScope s_seen) := ⟨rfl, rfl, rfl, by decide +kernel, rfl, by decide +kernel, by decide +kernel⟩
abbrev s_fine : Stmt := top 19
theorem sc_fine : FnScope ["_law_spans_here", "_law_one", "_law_other", "_law_span"] ["_law_spans_here"] (defScope s_fine) := ⟨rfl, rfl, rfl, by decide +kernel, rfl, by decide +kernel, by decide +kernel⟩
abbrev s_law : Stmt := top 20
theorem sc_law : FnScope ["_law_script", "_law_draw", "_law_spans_here", "_law_keys", "_law_others", "_law_due", "_law_now", "_law_cut", "_law_key_here", "_law_made", "_law_low", "_law_high", "_law_span"] ["_law_script"] (defScope s_law) := ⟨rfl, rfl, rfl, by decide +kernel, rfl, by decide +kernel, by decide +kernel⟩
structure Blt (mg : Str → Option Value) : Prop where
  abs : mg "abs" = none
  all : mg "all" = none
  any : mg "any" = none
  bool : mg "bool" = none
  dict : mg "dict" = none
  enumerate : mg "enumerate" = none
  int : mg "int" = none
  isinstance : mg "isinstance" = none
  len : mg "len" = none
  list : mg "list" = none
  max : mg "max" = none
  min : mg "min" = none
  range : mg "range" = none
  reversed : mg "reversed" = none
  set : mg "set" = none
  sorted : mg "sorted" = none
  str : mg "str" = none
  sum : mg "sum" = none
  tuple : mg "tuple" = none
  zip : mg "zip" = none
end FB
namespace FB
open PySem PySem.Spec PyProof.Rows L2
section
variable {P : Program} {w : World} {K : PySem.W.Frag} {mg : Str → Option Value} {base : Heap}
def F_drawn : Fn := runF 1 2 (sSeq (sSet 1 (dseq (dseq (dseq (dVar 0) some) (dList)) (dseq (dseq (dseq (dseq (dLeaf (.int 0)) some) (dNode .lst 1)) (dseq (dseq (dseq (dseq (dVar 0) (dseq (dseq some (dNode .lst 0)) (dEqD false))) some) (dS1 fInt1)) (dRep))) (dCat))))
  (sRet (dDisp 5 (dseq (dLeaf (.str "cells")) (dseq (dVar 1) (dseq (dLeaf (.str "at")) (dseq (dLeaf (.int 0)) (dseq (dLeaf (.str "left")) (dseq (dLeaf (.int 60)) (dseq (dLeaf (.str "number")) (dseq (dseq (dseq (dVar 1) (dseq (dLeaf (.int 0)) (dIx okL))) (dseq (dLeaf (.int 2)) (dS2 fDiv))) (dseq (dLeaf (.str "digits")) (dseq (dseq (dseq (dseq (dVar 1) (dseq (dLeaf (.int 0)) (dIx okL))) (dseq (dLeaf (.int 2)) (dS2 fMod))) (dseq (dLeaf (.int 0)) (dS2 fEq))) some)))))))))))))
theorem ok_drawn {f : Addr} {fd : FuncData} (F : Fun K "_law_drawn" "_law_drawn" s_drawn f fd) (B : Blt mg) : FnOk P w K mg base CX0 1 f fd ["_law_script"] (spU K F_drawn) :=
  F.ok sc_drawn (fun vs H Q E h => spU_len h) (fun cdv A outer s H vs Q E hr h => by
    have hu := hu_of hr
    exact ⟨_, pss_cons (ps_set (i := 1) sc_drawn.nd rfl (Or.inl rfl) (pe_op op_cat (pe_callTy call_list_of (by rfl) B.list (by decide +kernel) (pa_cons (pv 0) pa_nil)) (pe_op op_rep (pe_lst (pa_cons pe_int pa_nil)) (pe_callTy call_int1 (by rfl) B.int (by decide +kernel) (pa_cons (pe_cmpR (op_eqD hr.units) (pv 0) (pe_lst pa_nil) (nomark _)) pa_nil)))))
      (pss_one (ps_ret (pe_disp (pps_cons pe_str (pv 1) (pps_cons pe_str pe_int (pps_cons pe_str pe_int (pps_cons pe_str (pe_op op_fdivW (pe_ix ix_list (pv 1) pe_int (fun _ _ => rfl)) pe_int) (pps_cons pe_str (pe_cmpR op_eq (pe_op op_mod (pe_ix ix_list (pv 1) pe_int (fun _ _ => rfl)) pe_int) pe_int (nomark _)) pps_nil))))) (by rfl) (by rfl) (fun z => by cases z) (by decide)))), spU_run h rfl (by decide) (sx_seq (sx_set (ex_op (ex_cb (ax_cons (ex_var 0) ax_nil) rxn_list) (ex_op (ex_lst (ax_cons (ex_c _) ax_nil)) (ex_cb (ax_cons (ex_op (ex_var 0) (ex_lst ax_nil) rx_eqD) ax_nil) rxn_int1) rx_rep) rx_cat))
      (sx_ret (ex_disp (px_cons (ex_c _) (ex_var 1) (px_cons (ex_c _) (ex_c _) (px_cons (ex_c _) (ex_c _) (px_cons (ex_c _) (ex_op (ex_op (ex_var 1) (ex_c _) rx_ixL) (ex_c _) rx_div) (px_cons (ex_c _) (ex_op (ex_op (ex_op (ex_var 1) (ex_c _) rx_ixL) (ex_c _) rx_mod) (ex_c _) rx_eq) px_nil))))))))⟩)
def F_pick : Fn := runF 2 6 (sSeq (sSet 2 (dseq (dVar 0) (dseq (dLeaf (.str "cells")) dDGet)))
  (sSeq (sClean [3, 4, 5] (sIf (tOf (dseq (dVar 0) (dseq (dLeaf (.str "digits")) dDGet))) (sSeq (sSet 3 (dseq (dseq (dVar 0) (dseq (dLeaf (.str "number")) dDGet)) (dseq (dVar 1) (dS2 fMod))))
  (sSeq (sDo (dseq (dseq (dseq (dVar 0) (dseq (dLeaf (.str "number")) dDGet)) (dseq (dVar 1) (dS2 fDiv))) (dseq (dVar 0) (dseq (dLeaf (.str "number")) dPut))))
  (sSeq (sDo (dseq (dseq (dseq (dVar 0) (dseq (dLeaf (.str "left")) dDGet)) (dseq (dLeaf (.int 1)) (dS2 fSub))) (dseq (dVar 0) (dseq (dLeaf (.str "left")) dPut))))
  (sSeq (sClean [2, 4, 5] (sIf (tOf (dseq (dseq (dVar 0) (dseq (dLeaf (.str "left")) dDGet)) (dseq (dLeaf (.int 0)) (dS2 fEq)))) (sSeq (sDo (dseq (dseq (dseq (dVar 0) (dseq (dLeaf (.str "at")) dDGet)) (dseq (dLeaf (.int 1)) (dS2 fAdd))) (dseq (dVar 0) (dseq (dLeaf (.str "at")) dPut))))
  (sSeq (sDo (dseq (dseq (dVar 2) (dseq (dseq (dseq (dVar 0) (dseq (dLeaf (.str "at")) dDGet)) (dseq (dseq (dseq (dVar 2) some) (dLen)) (dS2 fMod))) (dIx okL))) (dseq (dVar 0) (dseq (dLeaf (.str "number")) dPut))))
  (sDo (dseq (dLeaf (.int 60)) (dseq (dVar 0) (dseq (dLeaf (.str "left")) dPut)))))) ((fun e => some (.nx e)))))
  (sRet (dVar 3)))))) ((fun e => some (.nx e)))))
  (sSeq (sDo (dseq (dseq (dseq (dVar 0) (dseq (dLeaf (.str "at")) dDGet)) (dseq (dLeaf (.int 1)) (dS2 fAdd))) (dseq (dVar 0) (dseq (dLeaf (.str "at")) dPut))))
  (sSeq (sSet 4 (dseq (dVar 0) (dseq (dLeaf (.str "at")) dDGet)))
  (sSeq (sSet 5 (dseq (dseq (dseq (dseq (dseq (dseq (dVar 2) (dseq (dseq (dVar 4) (dseq (dseq (dseq (dVar 2) some) (dLen)) (dS2 fMod))) (dIx okL))) (dseq (dLeaf (.int 2147483629)) (dS2 fMod))) (dseq (dseq (dseq (dVar 4) (dseq (dVar 4) (dS2 fMul))) (dseq (dLeaf (.int 7919)) (dS2 fMul))) (dS2 fAdd))) (dseq (dLeaf (.int 11)) (dS2 fAdd))) (dseq (dLeaf (.int 48271)) (dS2 fMul))) (dseq (dLeaf (.int 2147483647)) (dS2 fMod))))
  (sSeq (sSet 5 (dseq (dseq (dVar 5) (dseq (dVar 5) (dS2 fMul))) (dseq (dLeaf (.int 1999999973)) (dS2 fMod))))
  (sRet (dseq (dseq (dVar 5) (dseq (dLeaf (.int 7)) (dS2 fDiv))) (dseq (dVar 1) (dS2 fMod))))))))))
theorem ok_pick {f : Addr} {fd : FuncData} (F : Fun K "_law_pick" "_law_pick" s_pick f fd) (B : Blt mg) : FnOk P w K mg base CX0 1 f fd ["_law_draw", "_law_many"] (spU K F_pick) :=
  F.ok sc_pick (fun vs H Q E h => spU_len h) (fun cdv A outer s H vs Q E hr h => by
    have hu := hu_of hr
    exact ⟨_, pss_cons (ps_set (i := 2) sc_pick.nd rfl (Or.inl rfl) (pe_dget hu (pv 0) pe_str (fun _ _ => rfl)))
      (pss_cons (ps_if (pt_val (pe_dget hu (pv 0) pe_str (fun _ _ => rfl)))
      (pss_cons (ps_set (i := 3) sc_pick.nd rfl (Or.inl rfl) (pe_op op_mod (pe_dget hu (pv 0) pe_str (fun _ _ => rfl)) (pv 1)))
      (pss_cons (ps_dput hu (pv 0) pe_str (pe_op op_fdivW (pe_dget hu (pv 0) pe_str (fun _ _ => rfl)) (pv 1)) rfl)
      (pss_cons (ps_dput hu (pv 0) pe_str (pe_op op_sub (pe_dget hu (pv 0) pe_str (fun _ _ => rfl)) pe_int) rfl)
      (pss_cons (ps_if (pt_cmpR op_eq (pe_dget hu (pv 0) pe_str (fun _ _ => rfl)) pe_int (nomark _))
      (pss_cons (ps_dput hu (pv 0) pe_str (pe_op op_add (pe_dget hu (pv 0) pe_str (fun _ _ => rfl)) pe_int) rfl)
      (pss_cons (ps_dput hu (pv 0) pe_str (pe_ix ix_list (pv 2) (pe_op op_mod (pe_dget hu (pv 0) pe_str (fun _ _ => rfl)) (pe_callB call_len_seq (by rfl) B.len (by decide +kernel) (pa_cons (pv 2) pa_nil))) (fun _ _ => rfl)) rfl)
      (pss_one (ps_dput hu (pv 0) pe_str pe_int rfl))))
      pss_nil)
      (pss_one (ps_ret (pv 3)))))))
      pss_nil)
      (pss_cons (ps_dput hu (pv 0) pe_str (pe_op op_add (pe_dget hu (pv 0) pe_str (fun _ _ => rfl)) pe_int) rfl)
      (pss_cons (ps_set (i := 4) sc_pick.nd rfl (Or.inl rfl) (pe_dget hu (pv 0) pe_str (fun _ _ => rfl)))
      (pss_cons (ps_set (i := 5) sc_pick.nd rfl (Or.inl rfl) (pe_op op_mod (pe_op op_mul (pe_op op_add (pe_op op_add (pe_op op_mod (pe_ix ix_list (pv 2) (pe_op op_mod (pv 4) (pe_callB call_len_seq (by rfl) B.len (by decide +kernel) (pa_cons (pv 2) pa_nil))) (fun _ _ => rfl)) pe_int) (pe_op op_mul (pe_op op_mul (pv 4) (pv 4)) pe_int)) pe_int) pe_int) pe_int))
      (pss_cons (ps_set (i := 5) sc_pick.nd rfl (Or.inl rfl) (pe_op op_mod (pe_op op_mul (pv 5) (pv 5)) pe_int))
      (pss_one (ps_ret (pe_op op_mod (pe_op op_fdivW (pv 5) pe_int) (pv 1))))))))), spU_run h rfl (by decide) (sx_seq (sx_set (ex_dget (ex_var 0) (ex_c _)))
      (sx_seq (sx_clean [3, 4, 5] (sx_if (tx_B (ex_dget (ex_var 0) (ex_c _))) (sx_seq (sx_set (ex_op (ex_dget (ex_var 0) (ex_c _)) (ex_var 1) rx_mod))
      (sx_seq (sx_dput (ex_var 0) (ex_c _) (ex_op (ex_dget (ex_var 0) (ex_c _)) (ex_var 1) rx_div))
      (sx_seq (sx_dput (ex_var 0) (ex_c _) (ex_op (ex_dget (ex_var 0) (ex_c _)) (ex_c _) rx_sub))
      (sx_seq (sx_clean [2, 4, 5] (sx_if (tx_test (ex_op (ex_dget (ex_var 0) (ex_c _)) (ex_c _) rx_eq)) (sx_seq (sx_dput (ex_var 0) (ex_c _) (ex_op (ex_dget (ex_var 0) (ex_c _)) (ex_c _) rx_add))
      (sx_seq (sx_dput (ex_var 0) (ex_c _) (ex_op (ex_var 2) (ex_op (ex_dget (ex_var 0) (ex_c _)) (ex_cb (ax_cons (ex_var 2) ax_nil) rxn_len) rx_mod) rx_ixL))
      (sx_dput (ex_var 0) (ex_c _) (ex_c _)))) sx_next))
      (sx_ret (ex_var 3)))))) sx_next))
      (sx_seq (sx_dput (ex_var 0) (ex_c _) (ex_op (ex_dget (ex_var 0) (ex_c _)) (ex_c _) rx_add))
      (sx_seq (sx_set (ex_dget (ex_var 0) (ex_c _)))
      (sx_seq (sx_set (ex_op (ex_op (ex_op (ex_op (ex_op (ex_op (ex_var 2) (ex_op (ex_var 4) (ex_cb (ax_cons (ex_var 2) ax_nil) rxn_len) rx_mod) rx_ixL) (ex_c _) rx_mod) (ex_op (ex_op (ex_var 4) (ex_var 4) rx_mul) (ex_c _) rx_mul) rx_add) (ex_c _) rx_add) (ex_c _) rx_mul) (ex_c _) rx_mod))
      (sx_seq (sx_set (ex_op (ex_op (ex_var 5) (ex_var 5) rx_mul) (ex_c _) rx_mod))
      (sx_ret (ex_op (ex_op (ex_var 5) (ex_c _) rx_div) (ex_var 1) rx_mod))))))))⟩)
def F_key : Fn := runF 1 3 (sSeq (sSet 1 (dseq (dseq (dVar 0) (dseq (dLeaf (.int 3)) some)) (dCall F_pick 2)))
  (sSeq (sClean [2] (sIf (tOf (dseq (dVar 1) (dseq (dLeaf (.int 0)) (dS2 fEq)))) (sRet (dseq (dseq (dseq (dLeaf (.str "a")) (dseq (dLeaf (.str "b")) (dseq (dLeaf (.str "aa")) (dseq (dLeaf (.str "ab")) (dseq (dLeaf (.str "m")) (dseq (dLeaf (.str "mm")) (dseq (dLeaf (.str "z")) (dseq (dLeaf (.str "zzzzzzzz")) (dseq (dLeaf (.str "azzzzzzz")) (dseq (dLeaf (.str "aaaaaaaa")) some)))))))))) (dNode .lst 10)) (dseq (dseq (dseq (dVar 0) (dseq (dLeaf (.int 10)) some)) (dCall F_pick 2)) (dIx okL)))) ((fun e => some (.nx e)))))
  (sSeq (sClean [1, 2] (sIf (tOf (dseq (dVar 1) (dseq (dLeaf (.int 1)) (dS2 fEq)))) (sRet (dseq (dLeaf (.str "k")) (dseq (dseq (dLeaf (.str "abcdefghijklmnopqrstuvwxyz")) (dseq (dseq (dseq (dVar 0) (dseq (dLeaf (.int 26)) some)) (dCall F_pick 2)) (dS2 fIxS))) (dS2 fCatS)))) ((fun e => some (.nx e)))))
  (sRet (dseq (dLeaf (.str "")) (dseq dIsS (dseq (dLcR1 [2] (dseq (dseq (dLeaf (.int 1)) (dseq (dseq (dseq (dVar 0) (dseq (dLeaf (.int 8)) some)) (dCall F_pick 2)) (dS2 fAdd))) some) ((fun e => e.put 2)) (fun e => some (true, e)) (dseq (dLeaf (.str "abcdefghijklmnopqrstuvwxyz")) (dseq (dseq (dseq (dVar 0) (dseq (dLeaf (.int 26)) some)) (dCall F_pick 2)) (dS2 fIxS)))) dJoin)))))))
theorem ok_key {f : Addr} {fd : FuncData} (F : Fun K "_law_key" "_law_key" s_key f fd) (B : Blt mg) (D_pick : DefOk P w K mg base 1 "_law_pick" ["_law_draw", "_law_many"] (spU K F_pick)) : FnOk P w K mg base CX0 2 f fd ["_law_draw"] (spU K F_key) :=
  F.ok sc_key (fun vs H Q E h => spU_len h) (fun cdv A outer s H vs Q E hr h => by
    have hu := hu_of hr
    exact ⟨_, pss_cons (ps_set (i := 1) sc_key.nd rfl (Or.inl rfl) (pe_def D_pick (hr.mono (by omega)) (by rfl) (pa_cons (pv 0) (pa_cons pe_int pa_nil))))
      (pss_cons (ps_if (pt_cmpR op_eq (pv 1) pe_int (nomark _))
      (pss_one (ps_ret (pe_ix ix_list (pe_lst (pa_cons pe_str (pa_cons pe_str (pa_cons pe_str (pa_cons pe_str (pa_cons pe_str (pa_cons pe_str (pa_cons pe_str (pa_cons pe_str (pa_cons pe_str (pa_cons pe_str pa_nil))))))))))) (pe_def D_pick (hr.mono (by omega)) (by rfl) (pa_cons (pv 0) (pa_cons pe_int pa_nil))) (fun _ _ => rfl))))
      pss_nil)
      (pss_cons (ps_if (pt_cmpR op_eq (pv 1) pe_int (nomark _))
      (pss_one (ps_ret (pe_op op_add_str pe_str (pe_ix ix_str pe_str (pe_def D_pick (hr.mono (by omega)) (by rfl) (pa_cons (pv 0) (pa_cons pe_int pa_nil))) (fun _ _ => rfl)))))
      pss_nil)
      (pss_one (ps_ret (pe_join pe_str (pe_lc (own := [("_law_k", 2)]) (g := gName 2) (tt := tYes) rfl sc_key.nd (pi_range1 (by rfl) B.range (pa_cons (pe_op op_add pe_int (pe_def D_pick (hr.mono (by omega)) (by rfl) (pa_cons (pv 0) (pa_cons pe_int pa_nil)))) pa_nil)) (blkOk_by (own := [("_law_k", 2)]) (N := ["_law_draw", "_law_way", "_law_k"]) (sc := defScope s_key) (by decide +kernel)) (fun _ _ _ _ _ => pg_name (i := 2) sc_key.nd rfl (Or.inl rfl)) (fun _ _ _ _ _ => pts_nil) (fun _ _ _ _ _ => pe_ix ix_str pe_str (pe_def D_pick (hr.mono (by omega)) (by rfl) (pa_cons (pv 0) (pa_cons pe_int pa_nil))) (fun _ _ => rfl)))))))), spU_run h rfl (by decide) (sx_seq (sx_set (ex_call (ax_cons (ex_var 0) (ax_cons (ex_c _) ax_nil))))
      (sx_seq (sx_clean [2] (sx_if (tx_test (ex_op (ex_var 1) (ex_c _) rx_eq)) (sx_ret (ex_op (ex_lst (ax_cons (ex_c _) (ax_cons (ex_c _) (ax_cons (ex_c _) (ax_cons (ex_c _) (ax_cons (ex_c _) (ax_cons (ex_c _) (ax_cons (ex_c _) (ax_cons (ex_c _) (ax_cons (ex_c _) (ax_cons (ex_c _) ax_nil))))))))))) (ex_call (ax_cons (ex_var 0) (ax_cons (ex_c _) ax_nil))) rx_ixL)) sx_next))
      (sx_seq (sx_clean [1, 2] (sx_if (tx_test (ex_op (ex_var 1) (ex_c _) rx_eq)) (sx_ret (ex_op (ex_c _) (ex_op (ex_c _) (ex_call (ax_cons (ex_var 0) (ax_cons (ex_c _) ax_nil))) rx_ixS) rx_catS)) sx_next))
      (sx_ret (ex_join (ex_c _) (ex_lcR1 (ax_cons (ex_op (ex_c _) (ex_call (ax_cons (ex_var 0) (ax_cons (ex_c _) ax_nil))) rx_add) ax_nil) (gxw_name 2) tx_yes (ex_op (ex_c _) (ex_call (ax_cons (ex_var 0) (ax_cons (ex_c _) ax_nil))) rx_ixS)))))))⟩)
abbrev L1_spans : DS := sClean [3, 4, 5, 6, 7, 8] (sSeq (sSet 4 (dseq (dseq (dVar 0) some) (dCall F_key 1)))
  (sIf (tOf (dseq (dVar 4) (dseq (dVar 2) (dInS true)))) (sDrop (dseq (dVar 2) (dseq (dChk okL) (dseq (dseq (dVar 4) some) dAppend)))) ((fun e => some (.nx e)))))
abbrev L2_spans : DS := sClean [3, 4, 7, 8] (sIf (tAn (tOf (dseq (dseq (dseq (dVar 7) (dseq (dVar 8) some)) (dNode .tup 2)) (dseq (dseq (dseq (dLeaf (.str "")) (dseq (dLeaf (.str "a")) some)) (dNode .tup 2)) (dEqD true)))) (tOo (tOf (dVar 6)) (tOf (dseq (dseq (dseq (dVar 0) (dseq (dLeaf (.int 3)) some)) (dCall F_pick 2)) (dseq (dLeaf (.int 0)) (dS2 fGt)))))) (sDrop (dseq (dVar 5) (dseq (dChk okL) (dseq (dseq (dseq (dseq (dVar 7) (dseq (dVar 8) some)) (dNode .tup 2)) some) dAppend)))) ((fun e => some (.nx e))))
def F_spans : Fn := runF 2 9 (sSeq (sSet 2 (dseq some (dNode .lst 0)))
  (sSeq (sClean [3, 4, 5, 6, 7, 8] (sForR1 (dseq (dseq (dseq (dVar 0) (dseq (dVar 1) some)) (dCall F_pick 2)) some) ((fun e => e.put 3)) L1_spans))
  (sSeq (sSet 2 (dseq (dseq (dseq (dseq (dLeaf (.str "")) some) (dNode .lst 1)) (dseq (dseq (dseq (dVar 2) some) (dSortS)) (dCat))) (dseq (dseq (dseq (dLeaf (.str "")) some) (dNode .lst 1)) (dCat))))
  (sSeq (sSet 5 (dseq some (dNode .lst 0)))
  (sSeq (sSet 6 (dseq (dseq (dseq (dVar 0) (dseq (dLeaf (.int 2)) some)) (dCall F_pick 2)) (dseq (dLeaf (.int 0)) (dS2 fEq))))
  (sSeq (sClean [2, 3, 4, 6, 7, 8] (sForZ (dseq (dVar 2) (dseq (dseq (dVar 2) (dseq (dseq (dLeaf (.int 1)) dInt) (dseq some (dSlL true false)))) some)) (gTupD 2 (dseq ((fun e => e.put 7)) (dseq ((fun e => e.put 8)) some))) L2_spans))
  (sRet (dVar 5))))))))
theorem ok_spans {f : Addr} {fd : FuncData} (F : Fun K "_law_spans" "_law_spans" s_spans f fd) (B : Blt mg) (D_pick : DefOk P w K mg base 1 "_law_pick" ["_law_draw", "_law_many"] (spU K F_pick)) (D_key : DefOk P w K mg base 2 "_law_key" ["_law_draw"] (spU K F_key)) : FnOk P w K mg base CX0 3 f fd ["_law_draw", "_law_most"] (spU K F_spans) :=
  F.ok sc_spans (fun vs H Q E h => spU_len h) (fun cdv A outer s H vs Q E hr h => by
    have hu := hu_of hr
    exact ⟨_, pss_cons (ps_set (i := 2) sc_spans.nd rfl (Or.inl rfl) (pe_lst pa_nil))
      (pss_cons (ps_for PassesOwn.never rfl (pi_range1 (by rfl) B.range (pa_cons (pe_def D_pick (hr.mono (by omega)) (by rfl) (pa_cons (pv 0) (pa_cons (pv 1) pa_nil))) pa_nil)) (pg_name (i := 3) sc_spans.nd rfl (Or.inl rfl))
      (pss_cons (ps_set (i := 4) sc_spans.nd rfl (Or.inl rfl) (pe_def D_key (hr.mono (by omega)) (by rfl) (pa_cons (pv 0) pa_nil)))
      (pss_one (ps_if (pt_cmpR op_notIn_seq (pv 4) (pv 2) (by rfl))
      (pss_one (ps_expr (pe_bm PySem.F.plainAttrs_list PySem.F.slot_list_append PySem.F.type_list_append mt_append (pv 2) (pa_cons (pv 4) pa_nil))))
      pss_nil))))
      (pss_cons (ps_set (i := 2) sc_spans.nd rfl (Or.inl rfl) (pe_op op_cat (pe_op op_cat (pe_lst (pa_cons pe_str pa_nil)) (pe_callB cr_sortedS (by rfl) B.sorted (by decide +kernel) (pa_cons (pv 2) pa_nil))) (pe_lst (pa_cons pe_str pa_nil))))
      (pss_cons (ps_set (i := 5) sc_spans.nd rfl (Or.inl rfl) (pe_lst pa_nil))
      (pss_cons (ps_set (i := 6) sc_spans.nd rfl (Or.inl rfl) (pe_cmpR op_eq (pe_def D_pick (hr.mono (by omega)) (by rfl) (pa_cons (pv 0) (pa_cons pe_int pa_nil))) pe_int (nomark _)))
      (pss_cons (ps_for PassesOwn.never rfl (RZ.pi_zipA (by rfl) B.zip (pa_cons (pv 2) (pa_cons (pe_slice sl_list (pv 2) (po_some pe_int) po_none) pa_nil))) (pg_tup rfl (pgs_cons (pg_name (i := 7) sc_spans.nd rfl (Or.inl rfl)) (pgs_cons (pg_name (i := 8) sc_spans.nd rfl (Or.inl rfl)) pgs_nil)))
      (pss_one (ps_if (PW.pt (pw_and (pt_cmpR (op_neD hr.units) (pe_tup (pa_cons (pv 7) (pa_cons (pv 8) pa_nil))) (pe_tup (pa_cons pe_str (pa_cons pe_str pa_nil))) (nomark _)) (pw_and1 (PW.pt (pw_or (pt_val (pv 6)) (pw_or1 (pt_cmpR op_gt (pe_def D_pick (hr.mono (by omega)) (by rfl) (pa_cons (pv 0) (pa_cons pe_int pa_nil))) pe_int (nomark _))))))))
      (pss_one (ps_expr (pe_bm PySem.F.plainAttrs_list PySem.F.slot_list_append PySem.F.type_list_append mt_append (pv 5) (pa_cons (pe_tup (pa_cons (pv 7) (pa_cons (pv 8) pa_nil))) pa_nil))))
      pss_nil)))
      (pss_one (ps_ret (pv 5)))))))), spU_run h rfl (by decide) (sx_seq (sx_set (ex_lst ax_nil))
      (sx_seq (sx_clean [3, 4, 5, 6, 7, 8] (sx_forR1 (ax_cons (ex_call (ax_cons (ex_var 0) (ax_cons (ex_var 1) ax_nil))) ax_nil) (gx_name 3) (sx_clean [3, 4, 5, 6, 7, 8] (sx_seq (sx_set (ex_call (ax_cons (ex_var 0) ax_nil)))
      (sx_if (tx_test (ex_op (ex_var 4) (ex_var 2) rx_ninS)) (sx_drop (ex_bm (ex_var 2) (ax_cons (ex_var 4) ax_nil) rxm_append)) sx_next)))))
      (sx_seq (sx_set (ex_op (ex_op (ex_lst (ax_cons (ex_c _) ax_nil)) (ex_cb (ax_cons (ex_var 2) ax_nil) rxn_sortS) rx_cat) (ex_lst (ax_cons (ex_c _) ax_nil)) rx_cat))
      (sx_seq (sx_set (ex_lst ax_nil))
      (sx_seq (sx_set (ex_op (ex_call (ax_cons (ex_var 0) (ax_cons (ex_c _) ax_nil))) (ex_c _) rx_eq))
      (sx_seq (sx_clean [2, 3, 4, 6, 7, 8] (sx_forZ (ax_cons (ex_var 2) (ax_cons (ex_slL (ex_var 2) (ox_some (ex_c _)) ox_none) ax_nil)) (gx_tup (gxs_cons (gx_name 7) (gxs_cons (gx_name 8) gxs_nil))) (sx_clean [3, 4, 7, 8] (sx_if (tx_and (tx_test (ex_op (ex_tup (ax_cons (ex_var 7) (ax_cons (ex_var 8) ax_nil))) (ex_tup (ax_cons (ex_c _) (ax_cons (ex_c _) ax_nil))) rx_neD)) (tx_or (tx_B (ex_var 6)) (tx_test (ex_op (ex_call (ax_cons (ex_var 0) (ax_cons (ex_c _) ax_nil))) (ex_c _) rx_gt)))) (sx_drop (ex_bm (ex_var 5) (ax_cons (ex_tup (ax_cons (ex_var 7) (ax_cons (ex_var 8) ax_nil))) ax_nil) rxm_append)) sx_next))))
      (sx_ret (ex_var 5))))))))⟩)
abbrev L1_asked : DS := sClean [3, 4, 5, 6] (sDrop (dseq (dVar 2) (dseq (dChk okL) (dseq (dseq (dLcS okT [6] (dseq (dseq (dVar 3) (dseq (dVar 4) some)) (dNode .tup 2)) ((fun e => e.put 6)) (tOf (dseq (dVar 6) (dseq (dLeaf (.str "")) (dS2 fNe)))) (dVar 6)) some) dExt))))
def F_asked : Fn := runF 2 7 (sSeq (sSet 2 (dLcR1 [5] (dseq (dseq (dLeaf (.int 1)) (dseq (dseq (dseq (dVar 0) (dseq (dLeaf (.int 6)) some)) (dCall F_pick 2)) (dS2 fAdd))) some) ((fun e => e.put 5)) (fun e => some (true, e)) (dseq (dseq (dVar 0) some) (dCall F_key 1))))
  (sSeq (sClean [3, 4, 5, 6] (sForS okL (dVar 1) (gTupD 2 (dseq ((fun e => e.put 3)) (dseq ((fun e => e.put 4)) some))) L1_asked))
  (sRet (dVar 2))))
theorem ok_asked {f : Addr} {fd : FuncData} (F : Fun K "_law_asked" "_law_asked" s_asked f fd) (B : Blt mg) (D_pick : DefOk P w K mg base 1 "_law_pick" ["_law_draw", "_law_many"] (spU K F_pick)) (D_key : DefOk P w K mg base 2 "_law_key" ["_law_draw"] (spU K F_key)) : FnOk P w K mg base CX0 3 f fd ["_law_draw", "_law_spans_here"] (spU K F_asked) :=
  F.ok sc_asked (fun vs H Q E h => spU_len h) (fun cdv A outer s H vs Q E hr h => by
    have hu := hu_of hr
    exact ⟨_, pss_cons (ps_setLc (i := 2) (own := [("_law_k", 5)]) (g := gName 5) (tt := tYes) rfl sc_asked.nd rfl rfl (sw_true rfl rfl rfl (by decide +kernel)) (pi_range1 (by rfl) B.range (pa_cons (pe_op op_add pe_int (pe_def D_pick (hr.mono (by omega)) (by rfl) (pa_cons (pv 0) (pa_cons pe_int pa_nil)))) pa_nil)) (blkOk_by (own := [("_law_k", 5)]) (N := ["_law_draw", "_law_spans_here", "_law_keys", "_law_low", "_law_high", "_law_k", "_law_key_here"]) (sc := defScope s_asked) (by decide +kernel)) (fun _ _ _ _ _ => pg_name (i := 5) sc_asked.nd rfl (Or.inl rfl)) (fun _ _ _ _ _ => pts_nil) (fun _ _ _ _ _ => pe_def D_key (hr.mono (by omega)) (by rfl) (pa_cons (pv 0) pa_nil)))
      (pss_cons (ps_for PassesOwn.never rfl (pi_list (pv 1)) (pg_tup rfl (pgs_cons (pg_name (i := 3) sc_asked.nd rfl (Or.inl rfl)) (pgs_cons (pg_name (i := 4) sc_asked.nd rfl (Or.inl rfl)) pgs_nil)))
      (pss_one (ps_expr (pe_bm PySem.F.plainAttrs_list PySem.F.slot_list_extend PySem.F.type_list_extend mt_extend (pv 2) (pa_cons (pe_lc (own := [("_law_key_here", 6)]) (g := gName 6) rfl sc_asked.nd (pi_tup (pe_tup (pa_cons (pv 3) (pa_cons (pv 4) pa_nil)))) (blkOk_by (own := [("_law_key_here", 6)]) (N := ["_law_draw", "_law_spans_here", "_law_keys", "_law_low", "_law_high", "_law_k", "_law_key_here"]) (sc := defScope s_asked) (by decide +kernel)) (fun _ _ _ _ _ => pg_name (i := 6) sc_asked.nd rfl (Or.inl rfl)) (fun _ _ _ _ _ => pts_one (pt_cmpR op_ne (pv 6) pe_str (nomark _))) (fun _ _ _ _ _ => pv 6)) pa_nil)))))
      (pss_one (ps_ret (pv 2)))), spU_run h rfl (by decide) (sx_seq (sx_set (ex_lcR1 (ax_cons (ex_op (ex_c _) (ex_call (ax_cons (ex_var 0) (ax_cons (ex_c _) ax_nil))) rx_add) ax_nil) (gxw_name 5) tx_yes (ex_call (ax_cons (ex_var 0) ax_nil))))
      (sx_seq (sx_clean [3, 4, 5, 6] (sx_forL (ex_var 1) (gx_tup (gxs_cons (gx_name 3) (gxs_cons (gx_name 4) gxs_nil))) (sx_clean [3, 4, 5, 6] (sx_drop (ex_bm (ex_var 2) (ax_cons (ex_lcT (ex_tup (ax_cons (ex_var 3) (ax_cons (ex_var 4) ax_nil))) (gxw_name 6) (tx_test (ex_op (ex_var 6) (ex_c _) rx_ne)) (ex_var 6)) ax_nil) rxm_ext)))))
      (sx_ret (ex_var 2))))⟩)
def F_has_key : Fn := runF 2 4 (sSeq (sDo (dseq (dVar 0) (gTupD 2 (dseq ((fun e => e.put 2)) (dseq ((fun e => e.put 3)) some)))))
  (sRet (dAnd (dseq (dVar 2) (dseq (dVar 1) (dS2 fLeS))) (dOr (dseq (dVar 3) (dseq (dLeaf (.str "")) (dS2 fEq))) (dseq (dVar 1) (dseq (dVar 3) (dS2 fLtS)))))))
theorem ok_has_key {f : Addr} {fd : FuncData} (F : Fun K "has_key" "has_key" s_has_key f fd) (B : Blt mg) : FnOk P w K mg base CX0 1 f fd ["span", "key"] (spU K F_has_key) :=
  F.ok sc_has_key (fun vs H Q E h => spU_len h) (fun cdv A outer s H vs Q E hr h => by
    have hu := hu_of hr
    exact ⟨_, pss_cons (ps_asg (pv 0) (pg_tup rfl (pgs_cons (pg_name (i := 2) sc_has_key.nd rfl (Or.inl rfl)) (pgs_cons (pg_name (i := 3) sc_has_key.nd rfl (Or.inl rfl)) pgs_nil))))
      (pss_one (ps_ret (pe_and (pe_cmpR op_le_str (pv 2) (pv 1) (nomark _)) (pe_one (pe_or (pe_cmpR op_eq (pv 3) pe_str (nomark _)) (pe_one (pe_cmpR op_lt_str (pv 1) (pv 3) (nomark _)))))))), spU_run h rfl (by decide) (sx_seq (sx_asg (gx_tup (gxs_cons (gx_name 2) (gxs_cons (gx_name 3) gxs_nil))) (ex_var 0))
      (sx_ret (ex_andV (ex_op (ex_var 2) (ex_var 1) rx_leS) (ex_orV (ex_op (ex_var 3) (ex_c _) rx_eq) (ex_op (ex_var 1) (ex_var 3) rx_ltS)))))⟩)
abbrev L1_span_with : DS := sClean [2] (sIf (tOf (dseq (dseq (dVar 2) (dseq (dVar 1) some)) (dCall F_has_key 2))) (sRet (dVar 2)) ((fun e => some (.nx e))))
def F_span_with : Fn := runF 2 3 (sSeq (sClean [2] (sForS okL (dVar 0) ((fun e => e.put 2)) L1_span_with))
  (sRet (dLeaf .non)))
theorem ok_span_with {f : Addr} {fd : FuncData} (F : Fun K "span_with" "span_with" s_span_with f fd) (B : Blt mg) (D_has_key : DefOk P w K mg base 1 "has_key" ["span", "key"] (spU K F_has_key)) : FnOk P w K mg base CX0 2 f fd ["spans", "key"] (spU K F_span_with) :=
  F.ok sc_span_with (fun vs H Q E h => spU_len h) (fun cdv A outer s H vs Q E hr h => by
    have hu := hu_of hr
    exact ⟨_, pss_cons (ps_for PassesOwn.never rfl (pi_list (pv 0)) (pg_name (i := 2) sc_span_with.nd rfl (Or.inl rfl))
      (pss_one (ps_if (pt_val (pe_def D_has_key (hr.mono (by omega)) (by rfl) (pa_cons (pv 2) (pa_cons (pv 1) pa_nil))))
      (pss_one (ps_ret (pv 2)))
      pss_nil)))
      (pss_one (ps_ret pe_non)), spU_run h rfl (by decide) (sx_seq (sx_clean [2] (sx_forL (ex_var 0) (gx_name 2) (sx_clean [2] (sx_if (tx_B (ex_call (ax_cons (ex_var 2) (ax_cons (ex_var 1) ax_nil)))) (sx_ret (ex_var 2)) sx_next))))
      (sx_ret (ex_c _)))⟩)
def F_share_key : Fn := runF 2 3 (sSeq (sSet 2 (dseq (dseq (dseq (dVar 0) (dseq (dLeaf (.int 0)) (dIx okT))) (dseq (dseq (dVar 1) (dseq (dLeaf (.int 0)) (dIx okT))) (dseq (dLeaf (.str "a")) some))) (dS3 fMaxS3)))
  (sRet (dAnd (dseq (dseq (dVar 0) (dseq (dVar 2) some)) (dCall F_has_key 2)) (dseq (dseq (dVar 1) (dseq (dVar 2) some)) (dCall F_has_key 2)))))
theorem ok_share_key {f : Addr} {fd : FuncData} (F : Fun K "share_key" "share_key" s_share_key f fd) (B : Blt mg) (h_LEAST_KEY : mg "LEAST_KEY" = some (.str "a" tk_LEAST_KEY)) (D_has_key : DefOk P w K mg base 1 "has_key" ["span", "key"] (spU K F_has_key)) : FnOk P w K mg base CX0 2 f fd ["one", "other"] (spU K F_share_key) :=
  F.ok sc_share_key (fun vs H Q E h => spU_len h) (fun cdv A outer s H vs Q E hr h => by
    have hu := hu_of hr
    exact ⟨_, pss_cons (ps_set (i := 2) sc_share_key.nd rfl (Or.inl rfl) (pe_callB (call_max3S rfl) (by rfl) B.max (by decide +kernel) (pa_cons (pe_ix ix_tup (pv 0) pe_int (fun _ _ => rfl)) (pa_cons (pe_ix ix_tup (pv 1) pe_int (fun _ _ => rfl)) (pa_cons (pe_glob (v := .str "a") rfl h_LEAST_KEY ⟨_, rfl⟩) pa_nil)))))
      (pss_one (ps_ret (pe_and (pe_def D_has_key (hr.mono (by omega)) (by rfl) (pa_cons (pv 0) (pa_cons (pv 2) pa_nil))) (pe_one (pe_def D_has_key (hr.mono (by omega)) (by rfl) (pa_cons (pv 1) (pa_cons (pv 2) pa_nil))))))), spU_run h rfl (by decide) (sx_seq (sx_set (ex_cb (ax_cons (ex_op (ex_var 0) (ex_c _) rx_ixT) (ax_cons (ex_op (ex_var 1) (ex_c _) rx_ixT) (ax_cons (ex_c _) ax_nil))) rxn_maxS3))
      (sx_ret (ex_andV (ex_call (ax_cons (ex_var 0) (ax_cons (ex_var 2) ax_nil))) (ex_call (ax_cons (ex_var 1) (ax_cons (ex_var 2) ax_nil))))))⟩)
def F_clashes (P4 : Addr) : Fn := runF 2 3 (sRet (dGen okL true P4 [2] (dVar 0) (fun e => e.put 2) (dseq (dseq (dVar 2) (dseq (dVar 1) some)) (dCall F_share_key 2))))
theorem ok_clashes {f c P4 : Addr} {fd : FuncData} (F : FunC K "clashes" "clashes" s_clashes f fd c) (TB_clashes : LamX.TabB base mg c P4) (B : Blt mg) (D_share_key : DefOk P w K mg base 2 "share_key" ["one", "other"] (spU K F_share_key)) : FnOk P w K mg base CX0 4 f fd ["spans", "span"] (spU K (F_clashes P4)) :=
  F.ok sc_clashes (fun vs H Q E h => spU_len h) (fun A outer s H vs Q E hr h => by
    have hu := hu_of hr
    exact ⟨_, pss_one (ps_ret (pe_anyG (k := 2) (own := [("other", 2)]) (g := gName 2) (hr.mono (by omega)) rfl sc_clashes.nd (by rfl) B.any TB_clashes rfl (pi_list (pv 0)) (blkOk_by (own := [("other", 2)]) (N := ["spans", "span", "other"]) (sc := defScope s_clashes) (by decide +kernel)) (by decide +kernel) (fun _ _ _ _ _ _ _ => pg_name (i := 2) sc_clashes.nd rfl (Or.inl rfl)) (fun _ _ _ _ _ _ _ hr => pe_def D_share_key (hr.mono (by omega)) (by rfl) (pa_cons (pv 2) (pa_cons (pv 1) pa_nil))))), spU_run h rfl (by decide) (sx_ret (ex_genL (ex_var 0) (gxw_name 2) (ex_call (ax_cons (ex_var 2) (ax_cons (ex_var 1) ax_nil)))))⟩)
abbrev L1_all_kept : DS := sClean [2, 3] (sSeq (sClean [2] (sIf (tOf (dseq (dVar 2) (dseq (dVar 1) (dS2 fGtS)))) (sRet (dLeaf (.bl false))) ((fun e => some (.nx e)))))
  (sSeq (sClean [2] (sIf (tOf (dseq (dVar 3) (dseq (dLeaf (.str "")) (dS2 fEq)))) (sRet (dLeaf (.bl true))) ((fun e => some (.nx e)))))
  (sSet 1 (dseq (dseq (dVar 1) (dseq (dVar 3) some)) (dS2 fMaxS2)))))
def F_all_kept : Fn := runF 1 4 (sSeq (sSet 1 (dLeaf (.str "a")))
  (sSeq (sClean [1, 2, 3] (sForS okL (dVar 0) (gTupD 2 (dseq ((fun e => e.put 2)) (dseq ((fun e => e.put 3)) some))) L1_all_kept))
  (sRet (dLeaf (.bl false)))))
theorem ok_all_kept {f : Addr} {fd : FuncData} (F : Fun K "all_kept" "all_kept" s_all_kept f fd) (B : Blt mg) (h_LEAST_KEY : mg "LEAST_KEY" = some (.str "a" tk_LEAST_KEY)) : FnOk P w K mg base CX0 1 f fd ["spans"] (spU K F_all_kept) :=
  F.ok sc_all_kept (fun vs H Q E h => spU_len h) (fun cdv A outer s H vs Q E hr h => by
    have hu := hu_of hr
    exact ⟨_, pss_cons (ps_set (i := 1) sc_all_kept.nd rfl (Or.inl rfl) (pe_glob (v := .str "a") rfl h_LEAST_KEY ⟨_, rfl⟩))
      (pss_cons (ps_for PassesOwn.never rfl (pi_list (pv 0)) (pg_tup rfl (pgs_cons (pg_name (i := 2) sc_all_kept.nd rfl (Or.inl rfl)) (pgs_cons (pg_name (i := 3) sc_all_kept.nd rfl (Or.inl rfl)) pgs_nil)))
      (pss_cons (ps_if (pt_cmpR op_gt_str (pv 2) (pv 1) (nomark _))
      (pss_one (ps_ret pe_bl))
      pss_nil)
      (pss_cons (ps_if (pt_cmpR op_eq (pv 3) pe_str (nomark _))
      (pss_one (ps_ret pe_bl))
      pss_nil)
      (pss_one (ps_set (i := 1) sc_all_kept.nd rfl (Or.inl rfl) (pe_callB (call_max2S rfl) (by rfl) B.max (by decide +kernel) (pa_cons (pv 1) (pa_cons (pv 3) pa_nil))))))))
      (pss_one (ps_ret pe_bl))), spU_run h rfl (by decide) (sx_seq (sx_set (ex_c _))
      (sx_seq (sx_clean [1, 2, 3] (sx_forL (ex_var 0) (gx_tup (gxs_cons (gx_name 2) (gxs_cons (gx_name 3) gxs_nil))) (sx_clean [2, 3] (sx_seq (sx_clean [2] (sx_if (tx_test (ex_op (ex_var 2) (ex_var 1) rx_gtS)) (sx_ret (ex_c _)) sx_next))
      (sx_seq (sx_clean [2] (sx_if (tx_test (ex_op (ex_var 3) (ex_c _) rx_eq)) (sx_ret (ex_c _)) sx_next))
      (sx_set (ex_cb (ax_cons (ex_var 1) (ax_cons (ex_var 3) ax_nil)) rxn_maxS2)))))))
      (sx_ret (ex_c _))))⟩)
def F_seen (P4 : Addr) : Fn := runF 3 6 (sSeq (sSet 3 (dLcS okL [4] (dVar 1) ((fun e => e.put 4)) (fun e => some (true, e)) (dseq (dseq (dseq (dVar 0) (dseq (dVar 4) some)) (dCall F_span_with 2)) (dseq (dLeaf .non) (dIsN true)))))
  (sRet (dseq (dseq (dVar 3) (dseq (dseq (dseq (dVar 0) some) (dCall F_all_kept 1)) (dseq (dLcS okL [5] (dVar 2) ((fun e => e.put 5)) (fun e => some (true, e)) (dseq (dseq (dVar 0) (dseq (dVar 5) some)) (dCall (F_clashes P4) 2))) some))) (dNode .lst 3))))
theorem ok_seen {P4 : Addr} {f : Addr} {fd : FuncData} (F : Fun K "_law_seen" "_law_seen" s_seen f fd) (B : Blt mg) (D_span_with : DefOk P w K mg base 2 "span_with" ["spans", "key"] (spU K F_span_with)) (D_clashes : DefOk P w K mg base 4 "clashes" ["spans", "span"] (spU K (F_clashes P4))) (D_all_kept : DefOk P w K mg base 1 "all_kept" ["spans"] (spU K F_all_kept)) : FnOk P w K mg base CX0 5 f fd ["_law_spans_here", "_law_keys", "_law_others"] (spU K (F_seen P4)) :=
  F.ok sc_seen (fun vs H Q E h => spU_len h) (fun cdv A outer s H vs Q E hr h => by
    have hu := hu_of hr
    exact ⟨_, pss_cons (ps_setLc (i := 3) (own := [("_law_key_here", 4)]) (g := gName 4) (tt := tYes) rfl sc_seen.nd rfl rfl (sw_true rfl rfl rfl (by decide +kernel)) (pi_list (pv 1)) (blkOk_by (own := [("_law_key_here", 4)]) (N := ["_law_spans_here", "_law_keys", "_law_others", "_law_kept", "_law_key_here", "_law_other"]) (sc := defScope s_seen) (by decide +kernel)) (fun _ _ _ _ _ => pg_name (i := 4) sc_seen.nd rfl (Or.inl rfl)) (fun _ _ _ _ _ => pts_nil) (fun _ _ _ _ _ => pe_cmpR op_notN (pe_def D_span_with (hr.mono (by omega)) (by rfl) (pa_cons (pv 0) (pa_cons (pv 4) pa_nil))) pe_non (nomark _)))
      (pss_one (ps_ret (pe_lst (pa_cons (pv 3) (pa_cons (pe_def D_all_kept (hr.mono (by omega)) (by rfl) (pa_cons (pv 0) pa_nil)) (pa_cons (pe_lc (own := [("_law_other", 5)]) (g := gName 5) (tt := tYes) rfl sc_seen.nd (pi_list (pv 2)) (blkOk_by (own := [("_law_other", 5)]) (N := ["_law_spans_here", "_law_keys", "_law_others", "_law_kept", "_law_key_here", "_law_other"]) (sc := defScope s_seen) (by decide +kernel)) (fun _ _ _ _ _ => pg_name (i := 5) sc_seen.nd rfl (Or.inl rfl)) (fun _ _ _ _ _ => pts_nil) (fun _ _ _ _ _ => pe_def D_clashes (hr.mono (by omega)) (by rfl) (pa_cons (pv 0) (pa_cons (pv 5) pa_nil)))) pa_nil)))))), spU_run h rfl (by decide) (sx_seq (sx_set (ex_lcL (ex_var 1) (gxw_name 4) tx_yes (ex_op (ex_call (ax_cons (ex_var 0) (ax_cons (ex_var 4) ax_nil))) (ex_c _) (rx_isN (neg := true)))))
      (sx_ret (ex_lst (ax_cons (ex_var 3) (ax_cons (ex_call (ax_cons (ex_var 0) ax_nil)) (ax_cons (ex_lcL (ex_var 2) (gxw_name 5) tx_yes (ex_call (ax_cons (ex_var 0) (ax_cons (ex_var 5) ax_nil)))) ax_nil))))))⟩)
def F_can_cut : Fn := runF 2 2 (sRet (dAnd (dseq (dseq (dVar 0) (dseq (dVar 1) some)) (dCall F_has_key 2)) (dseq (dseq (dseq (dseq (dVar 0) (dseq (dLeaf (.int 0)) (dIx okT))) (dseq (dLeaf (.str "a")) some)) (dS2 fMaxS2)) (dseq (dVar 1) (dS2 fLtS)))))
theorem ok_can_cut {f : Addr} {fd : FuncData} (F : Fun K "can_cut" "can_cut" s_can_cut f fd) (B : Blt mg) (h_LEAST_KEY : mg "LEAST_KEY" = some (.str "a" tk_LEAST_KEY)) (D_has_key : DefOk P w K mg base 1 "has_key" ["span", "key"] (spU K F_has_key)) : FnOk P w K mg base CX0 2 f fd ["span", "key"] (spU K F_can_cut) :=
  F.ok sc_can_cut (fun vs H Q E h => spU_len h) (fun cdv A outer s H vs Q E hr h => by
    have hu := hu_of hr
    exact ⟨_, pss_one (ps_ret (pe_and (pe_def D_has_key (hr.mono (by omega)) (by rfl) (pa_cons (pv 0) (pa_cons (pv 1) pa_nil))) (pe_one (pe_cmpR op_lt_str (pe_callB (call_max2S rfl) (by rfl) B.max (by decide +kernel) (pa_cons (pe_ix ix_tup (pv 0) pe_int (fun _ _ => rfl)) (pa_cons (pe_glob (v := .str "a") rfl h_LEAST_KEY ⟨_, rfl⟩) pa_nil))) (pv 1) (nomark _))))), spU_run h rfl (by decide) (sx_ret (ex_andV (ex_call (ax_cons (ex_var 0) (ax_cons (ex_var 1) ax_nil))) (ex_op (ex_cb (ax_cons (ex_op (ex_var 0) (ex_c _) rx_ixT) (ax_cons (ex_c _) ax_nil)) rxn_maxS2) (ex_var 1) rx_ltS)))⟩)
abbrev L1_cut_at : DS := sClean [3] (sIf (tOf (dseq (dseq (dVar 3) (dseq (dVar 1) some)) (dCall F_can_cut 2))) (sSeq (sDrop (dseq (dVar 2) (dseq (dChk okL) (dseq (dseq (dseq (dseq (dseq (dVar 3) (dseq (dLeaf (.int 0)) (dIx okT))) (dseq (dVar 1) some)) (dNode .tup 2)) some) dAppend))))
  (sDrop (dseq (dVar 2) (dseq (dChk okL) (dseq (dseq (dseq (dseq (dVar 1) (dseq (dseq (dVar 3) (dseq (dLeaf (.int 1)) (dIx okT))) some)) (dNode .tup 2)) some) dAppend))))) (sDrop (dseq (dVar 2) (dseq (dChk okL) (dseq (dseq (dVar 3) some) dAppend)))))
def F_cut_at : Fn := runF 2 4 (sSeq (sSet 2 (dseq some (dNode .lst 0)))
  (sSeq (sClean [3] (sForS okL (dVar 0) ((fun e => e.put 3)) L1_cut_at))
  (sRet (dVar 2))))
theorem ok_cut_at {f : Addr} {fd : FuncData} (F : Fun K "cut_at" "cut_at" s_cut_at f fd) (B : Blt mg) (D_can_cut : DefOk P w K mg base 2 "can_cut" ["span", "key"] (spU K F_can_cut)) : FnOk P w K mg base CX0 3 f fd ["spans", "key"] (spU K F_cut_at) :=
  F.ok sc_cut_at (fun vs H Q E h => spU_len h) (fun cdv A outer s H vs Q E hr h => by
    have hu := hu_of hr
    exact ⟨_, pss_cons (ps_set (i := 2) sc_cut_at.nd rfl (Or.inl rfl) (pe_lst pa_nil))
      (pss_cons (ps_for PassesOwn.never rfl (pi_list (pv 0)) (pg_name (i := 3) sc_cut_at.nd rfl (Or.inl rfl))
      (pss_one (ps_if (pt_val (pe_def D_can_cut (hr.mono (by omega)) (by rfl) (pa_cons (pv 3) (pa_cons (pv 1) pa_nil))))
      (pss_cons (ps_expr (pe_bm PySem.F.plainAttrs_list PySem.F.slot_list_append PySem.F.type_list_append mt_append (pv 2) (pa_cons (pe_tup (pa_cons (pe_ix ix_tup (pv 3) pe_int (fun _ _ => rfl)) (pa_cons (pv 1) pa_nil))) pa_nil)))
      (pss_one (ps_expr (pe_bm PySem.F.plainAttrs_list PySem.F.slot_list_append PySem.F.type_list_append mt_append (pv 2) (pa_cons (pe_tup (pa_cons (pv 1) (pa_cons (pe_ix ix_tup (pv 3) pe_int (fun _ _ => rfl)) pa_nil))) pa_nil)))))
      (pss_one (ps_expr (pe_bm PySem.F.plainAttrs_list PySem.F.slot_list_append PySem.F.type_list_append mt_append (pv 2) (pa_cons (pv 3) pa_nil)))))))
      (pss_one (ps_ret (pv 2)))), spU_run h rfl (by decide) (sx_seq (sx_set (ex_lst ax_nil))
      (sx_seq (sx_clean [3] (sx_forL (ex_var 0) (gx_name 3) (sx_clean [3] (sx_if (tx_B (ex_call (ax_cons (ex_var 3) (ax_cons (ex_var 1) ax_nil)))) (sx_seq (sx_drop (ex_bm (ex_var 2) (ax_cons (ex_tup (ax_cons (ex_op (ex_var 3) (ex_c _) rx_ixT) (ax_cons (ex_var 1) ax_nil))) ax_nil) rxm_append))
      (sx_drop (ex_bm (ex_var 2) (ax_cons (ex_tup (ax_cons (ex_var 1) (ax_cons (ex_op (ex_var 3) (ex_c _) rx_ixT) ax_nil))) ax_nil) rxm_append))) (sx_drop (ex_bm (ex_var 2) (ax_cons (ex_var 3) ax_nil) rxm_append))))))
      (sx_ret (ex_var 2))))⟩)
def F_least : Fn := runF 1 1 (sRet (dseq (dseq (dseq (dseq (dVar 0) (dseq (dLeaf (.int 0)) (dIx okT))) (dseq (dLeaf (.str "a")) some)) (dNode .lst 2)) (dseq (dseq (dseq (dseq (dseq (dVar 0) (dseq (dLeaf (.int 0)) (dIx okT))) (dseq (dLeaf (.str "")) (dS2 fEq))) some) (dS1 fInt1)) (dIx okL))))
theorem ok_least {f : Addr} {fd : FuncData} (F : Fun K "_law_least" "_law_least" s_least f fd) (B : Blt mg) : FnOk P w K mg base CX0 1 f fd ["_law_span"] (spU K F_least) :=
  F.ok sc_least (fun vs H Q E h => spU_len h) (fun cdv A outer s H vs Q E hr h => by
    have hu := hu_of hr
    exact ⟨_, pss_one (ps_ret (pe_ix ix_list (pe_lst (pa_cons (pe_ix ix_tup (pv 0) pe_int (fun _ _ => rfl)) (pa_cons pe_str pa_nil))) (pe_callTy call_int1 (by rfl) B.int (by decide +kernel) (pa_cons (pe_cmpR op_eq (pe_ix ix_tup (pv 0) pe_int (fun _ _ => rfl)) pe_str (nomark _)) pa_nil)) (fun _ _ => rfl))), spU_run h rfl (by decide) (sx_ret (ex_op (ex_lst (ax_cons (ex_op (ex_var 0) (ex_c _) rx_ixT) (ax_cons (ex_c _) ax_nil))) (ex_cb (ax_cons (ex_op (ex_op (ex_var 0) (ex_c _) rx_ixT) (ex_c _) rx_eq) ax_nil) rxn_int1) rx_ixL))⟩)
abbrev L1_fine : DS := sClean [1, 2, 3] (sIf (tOo (tOf (dseq (dseq (dVar 1) (dseq (dLeaf (.int 1)) (dIx okT))) (dseq (dLeaf (.str "")) (dS2 fEq)))) (tOf (dseq (dseq (dVar 1) (dseq (dLeaf (.int 1)) (dIx okT))) (dseq (dseq (dVar 2) (dseq (dLeaf (.int 0)) (dIx okT))) (dS2 fGtS))))) (sRet (dLeaf (.bl false))) ((fun e => some (.nx e))))
def F_fine : Fn := runF 1 4 (sSeq (sClean [1, 2, 3] (sForZ (dseq (dVar 0) (dseq (dseq (dVar 0) (dseq (dseq (dLeaf (.int 1)) dInt) (dseq some (dSlL true false)))) some)) (gTupD 2 (dseq ((fun e => e.put 1)) (dseq ((fun e => e.put 2)) some))) L1_fine))
  (sRet (dseq (dseq (dLcS okL [3] (dVar 0) ((fun e => e.put 3)) (fun e => some (true, e)) (dOr (dseq (dseq (dVar 3) (dseq (dLeaf (.int 1)) (dIx okT))) (dseq (dLeaf (.str "")) (dS2 fEq))) (dseq (dseq (dseq (dVar 3) some) (dCall F_least 1)) (dseq (dseq (dVar 3) (dseq (dLeaf (.int 1)) (dIx okT))) (dS2 fLtS))))) some) (dAll))))
theorem ok_fine {f : Addr} {fd : FuncData} (F : Fun K "_law_fine" "_law_fine" s_fine f fd) (B : Blt mg) (D_least : DefOk P w K mg base 1 "_law_least" ["_law_span"] (spU K F_least)) : FnOk P w K mg base CX0 2 f fd ["_law_spans_here"] (spU K F_fine) :=
  F.ok sc_fine (fun vs H Q E h => spU_len h) (fun cdv A outer s H vs Q E hr h => by
    have hu := hu_of hr
    exact ⟨_, pss_cons (ps_for PassesOwn.never rfl (RZ.pi_zipA (by rfl) B.zip (pa_cons (pv 0) (pa_cons (pe_slice sl_list (pv 0) (po_some pe_int) po_none) pa_nil))) (pg_tup rfl (pgs_cons (pg_name (i := 1) sc_fine.nd rfl (Or.inl rfl)) (pgs_cons (pg_name (i := 2) sc_fine.nd rfl (Or.inl rfl)) pgs_nil)))
      (pss_one (ps_if (PW.pt (pw_or (pt_cmpR op_eq (pe_ix ix_tup (pv 1) pe_int (fun _ _ => rfl)) pe_str (nomark _)) (pw_or1 (pt_cmpR op_gt_str (pe_ix ix_tup (pv 1) pe_int (fun _ _ => rfl)) (pe_ix ix_tup (pv 2) pe_int (fun _ _ => rfl)) (nomark _)))))
      (pss_one (ps_ret pe_bl))
      pss_nil)))
      (pss_one (ps_ret (pe_callB (cr_all rfl) (by rfl) B.all (by decide +kernel) (pa_cons (pe_lc (own := [("_law_span", 3)]) (g := gName 3) (tt := tYes) rfl sc_fine.nd (pi_list (pv 0)) (blkOk_by (own := [("_law_span", 3)]) (N := ["_law_spans_here", "_law_one", "_law_other", "_law_span"]) (sc := defScope s_fine) (by decide +kernel)) (fun _ _ _ _ _ => pg_name (i := 3) sc_fine.nd rfl (Or.inl rfl)) (fun _ _ _ _ _ => pts_nil) (fun _ _ _ _ _ => pe_or (pe_cmpR op_eq (pe_ix (ix_tupK (K := K) rfl) (pv 3) pe_int (fun _ _ => rfl)) pe_str (nomark _)) (pe_one (pe_cmpR op_lt_str (pe_def D_least (hr.mono (by omega)) (by rfl) (pa_cons (pv 3) pa_nil)) (pe_ix (ix_tupK (K := K) rfl) (pv 3) pe_int (fun _ _ => rfl)) (nomark _))))) pa_nil)))), spU_run h rfl (by decide) (sx_seq (sx_clean [1, 2, 3] (sx_forZ (ax_cons (ex_var 0) (ax_cons (ex_slL (ex_var 0) (ox_some (ex_c _)) ox_none) ax_nil)) (gx_tup (gxs_cons (gx_name 1) (gxs_cons (gx_name 2) gxs_nil))) (sx_clean [1, 2, 3] (sx_if (tx_or (tx_test (ex_op (ex_op (ex_var 1) (ex_c _) rx_ixT) (ex_c _) rx_eq)) (tx_test (ex_op (ex_op (ex_var 1) (ex_c _) rx_ixT) (ex_op (ex_var 2) (ex_c _) rx_ixT) rx_gtS))) (sx_ret (ex_c _)) sx_next))))
      (sx_ret (ex_cb (ax_cons (ex_lcL (ex_var 0) (gxw_name 3) tx_yes (ex_orV (ex_op (ex_op (ex_var 3) (ex_c _) rx_ixT) (ex_c _) rx_eq) (ex_op (ex_call (ax_cons (ex_var 3) ax_nil)) (ex_op (ex_var 3) (ex_c _) rx_ixT) rx_ltS))) ax_nil) rxn_all)))⟩)
abbrev L1_joined_at : DS := sClean [3] (sIf (tAn (tTru (dVar 2)) (tAn (tOf (dseq (dseq (dseq (dVar 2) (dseq (dseq (dLeaf (.int 1)) (dS1 fNeg)) (dIx okL))) (dseq (dLeaf (.int 1)) (dIx okT))) (dseq (dVar 1) (dS2 fEq)))) (tOf (dseq (dseq (dVar 3) (dseq (dLeaf (.int 0)) (dIx okT))) (dseq (dVar 1) (dS2 fEq)))))) (sDo (dseq (dseq (dseq (dseq (dseq (dVar 2) (dseq (dseq (dLeaf (.int 1)) (dS1 fNeg)) (dIx okL))) (dseq (dLeaf (.int 0)) (dIx okT))) (dseq (dseq (dVar 3) (dseq (dLeaf (.int 1)) (dIx okT))) some)) (dNode .tup 2)) (dseq (dVar 2) (dseq (dseq (dLeaf (.int 1)) (dS1 fNeg)) dSetL)))) (sDrop (dseq (dVar 2) (dseq (dChk okL) (dseq (dseq (dVar 3) some) dAppend)))))
def F_joined_at : Fn := runF 2 4 (sSeq (sSet 2 (dseq some (dNode .lst 0)))
  (sSeq (sClean [3] (sForS okL (dVar 0) ((fun e => e.put 3)) L1_joined_at))
  (sRet (dVar 2))))
theorem ok_joined_at {f : Addr} {fd : FuncData} (F : Fun K "joined_at" "joined_at" s_joined_at f fd) (B : Blt mg) : FnOk P w K mg base CX0 1 f fd ["spans", "key"] (spU K F_joined_at) :=
  F.ok sc_joined_at (fun vs H Q E h => spU_len h) (fun cdv A outer s H vs Q E hr h => by
    have hu := hu_of hr
    exact ⟨_, pss_cons (ps_set (i := 2) sc_joined_at.nd rfl (Or.inl rfl) (pe_lst pa_nil))
      (pss_cons (ps_for PassesOwn.never rfl (pi_list (pv 0)) (pg_name (i := 3) sc_joined_at.nd rfl (Or.inl rfl))
      (pss_one (ps_if (PW.pt (pw_and (pt_truth (pv 2) (by intro _; rfl)) (pw_and (pt_cmpR op_eq (pe_ix ix_tup (pe_ix ix_list (pv 2) (pe_un un_neg pe_int) (fun _ _ => rfl)) pe_int (fun _ _ => rfl)) (pv 1) (nomark _)) (pw_and1 (pt_cmpR op_eq (pe_ix ix_tup (pv 3) pe_int (fun _ _ => rfl)) (pv 1) (nomark _))))))
      (pss_one (ps_asg (pe_tup (pa_cons (pe_ix ix_tup (pe_ix ix_list (pv 2) (pe_un un_neg pe_int) (fun _ _ => rfl)) pe_int (fun _ _ => rfl)) (pa_cons (pe_ix ix_tup (pv 3) pe_int (fun _ _ => rfl)) pa_nil))) (pg_sub (pv 2) (pe_un un_neg pe_int) set_list)))
      (pss_one (ps_expr (pe_bm PySem.F.plainAttrs_list PySem.F.slot_list_append PySem.F.type_list_append mt_append (pv 2) (pa_cons (pv 3) pa_nil)))))))
      (pss_one (ps_ret (pv 2)))), spU_run h rfl (by decide) (sx_seq (sx_set (ex_lst ax_nil))
      (sx_seq (sx_clean [3] (sx_forL (ex_var 0) (gx_name 3) (sx_clean [3] (sx_if (tx_and (tx_tru (ex_var 2)) (tx_and (tx_test (ex_op (ex_op (ex_op (ex_var 2) (ex_un (ex_c _) rx_neg) rx_ixL) (ex_c _) rx_ixT) (ex_var 1) rx_eq)) (tx_test (ex_op (ex_op (ex_var 3) (ex_c _) rx_ixT) (ex_var 1) rx_eq)))) (sx_setL (ex_tup (ax_cons (ex_op (ex_op (ex_var 2) (ex_un (ex_c _) rx_neg) rx_ixL) (ex_c _) rx_ixT) (ax_cons (ex_op (ex_var 3) (ex_c _) rx_ixT) ax_nil))) (ex_var 2) (ex_un (ex_c _) rx_neg)) (sx_drop (ex_bm (ex_var 2) (ax_cons (ex_var 3) ax_nil) rxm_append))))))
      (sx_ret (ex_var 2))))⟩)
abbrev L1_law (P4 : Addr) : DS := sClean [1, 8, 9, 10, 11, 12] (sSeq (sSet 9 (dseq (dseq (dVar 6) (dseq (dVar 8) some)) (dCall F_cut_at 2)))
  (sSeq (sClean [1, 6, 8, 10, 11, 12] (sIf (tOf (dseq (dVar 9) (dseq (dVar 6) (dEqD true)))) (sSeq (sDrop (dseq (dVar 7) (dseq (dChk okL) (dseq (dseq (dVar 8) some) dAppend))))
  (sIf (tOo (tOf (dseq (dVar 8) (dseq (dLcS okL [12] (dVar 9) ((fun e => e.put 12)) (fun e => some (true, e)) (dseq (dVar 12) (dseq (dLeaf (.int 0)) (dIx okT)))) (dInS true)))) (tOf (dseq (dseq (dseq (dVar 9) some) (dLen)) (dseq (dseq (dseq (dseq (dVar 6) some) (dLen)) (dseq (dLeaf (.int 1)) (dS2 fAdd))) (dS2 fNe))))) (sRet (dLeaf (.bl false))) ((fun e => some (.nx e))))) ((fun e => some (.nx e)))))
  (sSeq (sSet 6 (dVar 9))
  (sIf (tOo (tNt (tOf (dseq (dseq (dVar 6) some) (dCall F_fine 1)))) (tOf (dseq (dseq (dseq (dVar 6) (dseq (dVar 3) (dseq (dVar 4) some))) (dCall (F_seen P4) 3)) (dseq (dVar 5) (dEqD true))))) (sRet (dLeaf (.bl false))) ((fun e => some (.nx e)))))))
abbrev L2_law (P4 : Addr) : DS := sClean [1, 8, 9, 10, 11, 12] (sSeq (sSet 6 (dseq (dseq (dVar 6) (dseq (dVar 8) some)) (dCall F_joined_at 2)))
  (sIf (tOo (tNt (tOf (dseq (dseq (dVar 6) some) (dCall F_fine 1)))) (tOf (dseq (dseq (dseq (dVar 6) (dseq (dVar 3) (dseq (dVar 4) some))) (dCall (F_seen P4) 3)) (dseq (dVar 5) (dEqD true))))) (sRet (dLeaf (.bl false))) ((fun e => some (.nx e)))))
abbrev L3_law (P4 : Addr) : DS := sClean [1, 7, 8, 9, 10, 11, 12] (sSeq (sSet 6 (dseq (dseq (dVar 6) (dseq (dseq (dseq (dseq (dVar 10) (dseq (dLeaf (.str "m")) some)) (dNode .lst 2)) (dseq (dseq (dseq (dseq (dVar 10) (dseq (dLeaf (.str "")) (dS2 fEq))) some) (dS1 fInt1)) (dIx okL))) some)) (dCall F_joined_at 2)))
  (sIf (tOo (tNt (tOf (dseq (dseq (dVar 6) some) (dCall F_fine 1)))) (tOf (dseq (dseq (dseq (dVar 6) (dseq (dVar 3) (dseq (dVar 4) some))) (dCall (F_seen P4) 3)) (dseq (dVar 5) (dEqD true))))) (sRet (dLeaf (.bl false))) ((fun e => some (.nx e)))))
def F_law (P4 : Addr) : Fn := runF 1 13 (sSeq (sSet 1 (dseq (dseq (dVar 0) some) (dCall F_drawn 1)))
  (sSeq (sSet 2 (dseq (dseq (dVar 1) (dseq (dLeaf (.int 8)) some)) (dCall F_spans 2)))
  (sSeq (sSet 3 (dseq (dseq (dVar 1) (dseq (dVar 2) some)) (dCall F_asked 2)))
  (sSeq (sSet 4 (dseq (dseq (dVar 1) (dseq (dLeaf (.int 4)) some)) (dCall F_spans 2)))
  (sSeq (sSet 5 (dseq (dseq (dVar 2) (dseq (dVar 3) (dseq (dVar 4) some))) (dCall (F_seen P4) 3)))
  (sSeq (sSet 6 (dVar 2))
  (sSeq (sSet 7 (dseq some (dNode .lst 0)))
  (sSeq (sClean [1, 8, 9, 10, 11, 12] (sForS okL (dVar 3) ((fun e => e.put 8)) (L1_law P4)))
  (sSeq (sClean [1, 7, 8, 9, 10, 11, 12] (sForV (dVar 7) ((fun e => e.put 8)) (L2_law P4)))
  (sSeq (sClean [1, 7, 8, 9, 10, 11, 12] (sIf (tOf (dseq (dVar 6) (dseq (dVar 2) (dEqD true)))) (sRet (dLeaf (.bl false))) ((fun e => some (.nx e)))))
  (sSeq (sClean [1, 2, 3, 4, 5, 6, 7, 8, 9, 10, 11, 12] (sForS okL (dVar 2) (gTupD 2 (dseq ((fun e => e.put 10)) (dseq ((fun e => e.put 11)) some))) (L3_law P4)))
  (sRet (dLeaf (.bl true))))))))))))))
theorem ok_law {P4 : Addr} {f : Addr} {fd : FuncData} (F : Fun K "law" "law" s_law f fd) (B : Blt mg) (D_drawn : DefOk P w K mg base 1 "_law_drawn" ["_law_script"] (spU K F_drawn)) (D_spans : DefOk P w K mg base 3 "_law_spans" ["_law_draw", "_law_most"] (spU K F_spans)) (D_asked : DefOk P w K mg base 3 "_law_asked" ["_law_draw", "_law_spans_here"] (spU K F_asked)) (D_seen : DefOk P w K mg base 5 "_law_seen" ["_law_spans_here", "_law_keys", "_law_others"] (spU K (F_seen P4))) (D_cut_at : DefOk P w K mg base 3 "cut_at" ["spans", "key"] (spU K F_cut_at)) (D_fine : DefOk P w K mg base 2 "_law_fine" ["_law_spans_here"] (spU K F_fine)) (D_joined_at : DefOk P w K mg base 1 "joined_at" ["spans", "key"] (spU K F_joined_at)) : FnOk P w K mg base CX0 6 f fd ["_law_script"] (spU K (F_law P4)) :=
  F.ok sc_law (fun vs H Q E h => spU_len h) (fun cdv A outer s H vs Q E hr h => by
    have hu := hu_of hr
    exact ⟨_, pss_cons (ps_set (i := 1) sc_law.nd rfl (Or.inl rfl) (pe_def D_drawn (hr.mono (by omega)) (by rfl) (pa_cons (pv 0) pa_nil)))
      (pss_cons (ps_set (i := 2) sc_law.nd rfl (Or.inl rfl) (pe_def D_spans (hr.mono (by omega)) (by rfl) (pa_cons (pv 1) (pa_cons pe_int pa_nil))))
      (pss_cons (ps_set (i := 3) sc_law.nd rfl (Or.inl rfl) (pe_def D_asked (hr.mono (by omega)) (by rfl) (pa_cons (pv 1) (pa_cons (pv 2) pa_nil))))
      (pss_cons (ps_set (i := 4) sc_law.nd rfl (Or.inl rfl) (pe_def D_spans (hr.mono (by omega)) (by rfl) (pa_cons (pv 1) (pa_cons pe_int pa_nil))))
      (pss_cons (ps_set (i := 5) sc_law.nd rfl (Or.inl rfl) (pe_def D_seen (hr.mono (by omega)) (by rfl) (pa_cons (pv 2) (pa_cons (pv 3) (pa_cons (pv 4) pa_nil)))))
      (pss_cons (ps_set (i := 6) sc_law.nd rfl (Or.inl rfl) (pv 2))
      (pss_cons (ps_set (i := 7) sc_law.nd rfl (Or.inl rfl) (pe_lst pa_nil))
      (pss_cons (ps_for PassesOwn.never rfl (pi_list (pv 3)) (pg_name (i := 8) sc_law.nd rfl (Or.inl rfl))
      (pss_cons (ps_set (i := 9) sc_law.nd rfl (Or.inl rfl) (pe_def D_cut_at (hr.mono (by omega)) (by rfl) (pa_cons (pv 6) (pa_cons (pv 8) pa_nil))))
      (pss_cons (ps_if (pt_cmpR (op_neD hr.units) (pv 9) (pv 6) (nomark _))
      (pss_cons (ps_expr (pe_bm PySem.F.plainAttrs_list PySem.F.slot_list_append PySem.F.type_list_append mt_append (pv 7) (pa_cons (pv 8) pa_nil)))
      (pss_one (ps_if (PW.pt (pw_or (pt_cmpR op_notIn_seq (pv 8) (pe_lc (own := [("_law_span", 12)]) (g := gName 12) (tt := tYes) rfl sc_law.nd (pi_list (pv 9)) (blkOk_by (own := [("_law_span", 12)]) (N := ["_law_script", "_law_draw", "_law_spans_here", "_law_keys", "_law_others", "_law_due", "_law_now", "_law_cut", "_law_key_here", "_law_made", "_law_low", "_law_high", "_law_span"]) (sc := defScope s_law) (by decide +kernel)) (fun _ _ _ _ _ => pg_name (i := 12) sc_law.nd rfl (Or.inl rfl)) (fun _ _ _ _ _ => pts_nil) (fun _ _ _ _ _ => pe_ix (ix_tupK (K := K) rfl) (pv 12) pe_int (fun _ _ => rfl))) (by rfl)) (pw_or1 (pt_cmpR op_ne (pe_callB call_len_seq (by rfl) B.len (by decide +kernel) (pa_cons (pv 9) pa_nil)) (pe_op op_add (pe_callB call_len_seq (by rfl) B.len (by decide +kernel) (pa_cons (pv 6) pa_nil)) pe_int) (nomark _)))))
      (pss_one (ps_ret pe_bl))
      pss_nil)))
      pss_nil)
      (pss_cons (ps_set (i := 6) sc_law.nd rfl (Or.inl rfl) (pv 9))
      (pss_one (ps_if (PW.pt (pw_or (pt_not (pt_val (pe_def D_fine (hr.mono (by omega)) (by rfl) (pa_cons (pv 6) pa_nil)))) (pw_or1 (pt_cmpR (op_neD hr.units) (pe_def D_seen (hr.mono (by omega)) (by rfl) (pa_cons (pv 6) (pa_cons (pv 3) (pa_cons (pv 4) pa_nil)))) (pv 5) (nomark _)))))
      (pss_one (ps_ret pe_bl))
      pss_nil))))))
      (pss_cons (ps_for PassesOwn.never rfl (RT.pi_revA (by rfl) B.reversed (pv 7)) (pg_name (i := 8) sc_law.nd rfl (Or.inl rfl))
      (pss_cons (ps_set (i := 6) sc_law.nd rfl (Or.inl rfl) (pe_def D_joined_at (hr.mono (by omega)) (by rfl) (pa_cons (pv 6) (pa_cons (pv 8) pa_nil))))
      (pss_one (ps_if (PW.pt (pw_or (pt_not (pt_val (pe_def D_fine (hr.mono (by omega)) (by rfl) (pa_cons (pv 6) pa_nil)))) (pw_or1 (pt_cmpR (op_neD hr.units) (pe_def D_seen (hr.mono (by omega)) (by rfl) (pa_cons (pv 6) (pa_cons (pv 3) (pa_cons (pv 4) pa_nil)))) (pv 5) (nomark _)))))
      (pss_one (ps_ret pe_bl))
      pss_nil))))
      (pss_cons (ps_if (pt_cmpR (op_neD hr.units) (pv 6) (pv 2) (nomark _))
      (pss_one (ps_ret pe_bl))
      pss_nil)
      (pss_cons (ps_for PassesOwn.never rfl (pi_list (pv 2)) (pg_tup rfl (pgs_cons (pg_name (i := 10) sc_law.nd rfl (Or.inl rfl)) (pgs_cons (pg_name (i := 11) sc_law.nd rfl (Or.inl rfl)) pgs_nil)))
      (pss_cons (ps_set (i := 6) sc_law.nd rfl (Or.inl rfl) (pe_def D_joined_at (hr.mono (by omega)) (by rfl) (pa_cons (pv 6) (pa_cons (pe_ix ix_list (pe_lst (pa_cons (pv 10) (pa_cons pe_str pa_nil))) (pe_callTy call_int1 (by rfl) B.int (by decide +kernel) (pa_cons (pe_cmpR op_eq (pv 10) pe_str (nomark _)) pa_nil)) (fun _ _ => rfl)) pa_nil))))
      (pss_one (ps_if (PW.pt (pw_or (pt_not (pt_val (pe_def D_fine (hr.mono (by omega)) (by rfl) (pa_cons (pv 6) pa_nil)))) (pw_or1 (pt_cmpR (op_neD hr.units) (pe_def D_seen (hr.mono (by omega)) (by rfl) (pa_cons (pv 6) (pa_cons (pv 3) (pa_cons (pv 4) pa_nil)))) (pv 5) (nomark _)))))
      (pss_one (ps_ret pe_bl))
      pss_nil))))
      (pss_one (ps_ret pe_bl)))))))))))), spU_run h rfl (by decide) (sx_seq (sx_set (ex_call (ax_cons (ex_var 0) ax_nil)))
      (sx_seq (sx_set (ex_call (ax_cons (ex_var 1) (ax_cons (ex_c _) ax_nil))))
      (sx_seq (sx_set (ex_call (ax_cons (ex_var 1) (ax_cons (ex_var 2) ax_nil))))
      (sx_seq (sx_set (ex_call (ax_cons (ex_var 1) (ax_cons (ex_c _) ax_nil))))
      (sx_seq (sx_set (ex_call (ax_cons (ex_var 2) (ax_cons (ex_var 3) (ax_cons (ex_var 4) ax_nil)))))
      (sx_seq (sx_set (ex_var 2))
      (sx_seq (sx_set (ex_lst ax_nil))
      (sx_seq (sx_clean [1, 8, 9, 10, 11, 12] (sx_forL (ex_var 3) (gx_name 8) (sx_clean [1, 8, 9, 10, 11, 12] (sx_seq (sx_set (ex_call (ax_cons (ex_var 6) (ax_cons (ex_var 8) ax_nil))))
      (sx_seq (sx_clean [1, 6, 8, 10, 11, 12] (sx_if (tx_test (ex_op (ex_var 9) (ex_var 6) rx_neD)) (sx_seq (sx_drop (ex_bm (ex_var 7) (ax_cons (ex_var 8) ax_nil) rxm_append))
      (sx_if (tx_or (tx_test (ex_op (ex_var 8) (ex_lcL (ex_var 9) (gxw_name 12) tx_yes (ex_op (ex_var 12) (ex_c _) rx_ixT)) rx_ninS)) (tx_test (ex_op (ex_cb (ax_cons (ex_var 9) ax_nil) rxn_len) (ex_op (ex_cb (ax_cons (ex_var 6) ax_nil) rxn_len) (ex_c _) rx_add) rx_ne))) (sx_ret (ex_c _)) sx_next)) sx_next))
      (sx_seq (sx_set (ex_var 9))
      (sx_if (tx_or (tx_not (tx_B (ex_call (ax_cons (ex_var 6) ax_nil)))) (tx_test (ex_op (ex_call (ax_cons (ex_var 6) (ax_cons (ex_var 3) (ax_cons (ex_var 4) ax_nil)))) (ex_var 5) rx_neD))) (sx_ret (ex_c _)) sx_next)))))))
      (sx_seq (sx_clean [1, 7, 8, 9, 10, 11, 12] (sx_forV (ex_var 7) (gx_name 8) (sx_clean [1, 8, 9, 10, 11, 12] (sx_seq (sx_set (ex_call (ax_cons (ex_var 6) (ax_cons (ex_var 8) ax_nil))))
      (sx_if (tx_or (tx_not (tx_B (ex_call (ax_cons (ex_var 6) ax_nil)))) (tx_test (ex_op (ex_call (ax_cons (ex_var 6) (ax_cons (ex_var 3) (ax_cons (ex_var 4) ax_nil)))) (ex_var 5) rx_neD))) (sx_ret (ex_c _)) sx_next)))))
      (sx_seq (sx_clean [1, 7, 8, 9, 10, 11, 12] (sx_if (tx_test (ex_op (ex_var 6) (ex_var 2) rx_neD)) (sx_ret (ex_c _)) sx_next))
      (sx_seq (sx_clean [1, 2, 3, 4, 5, 6, 7, 8, 9, 10, 11, 12] (sx_forL (ex_var 2) (gx_tup (gxs_cons (gx_name 10) (gxs_cons (gx_name 11) gxs_nil))) (sx_clean [1, 7, 8, 9, 10, 11, 12] (sx_seq (sx_set (ex_call (ax_cons (ex_var 6) (ax_cons (ex_op (ex_lst (ax_cons (ex_var 10) (ax_cons (ex_c _) ax_nil))) (ex_cb (ax_cons (ex_op (ex_var 10) (ex_c _) rx_eq) ax_nil) rxn_int1) rx_ixL) ax_nil))))
      (sx_if (tx_or (tx_not (tx_B (ex_call (ax_cons (ex_var 6) ax_nil)))) (tx_test (ex_op (ex_call (ax_cons (ex_var 6) (ax_cons (ex_var 3) (ax_cons (ex_var 4) ax_nil)))) (ex_var 5) rx_neD))) (sx_ret (ex_c _)) sx_next)))))
      (sx_ret (ex_c _)))))))))))))⟩)
end
end FB
namespace FB
open PySem PySem.Spec PyProof.Rows L2
/-- kept from being tried where something is looked for -/
structure Hid (p : Prop) : Prop where
  h : p
theorem of_wV {m n : Nat} {d : DS} [D : HS d] {fz st : List U} {args : List Sl} {r : Sl} {u : U} (hm : args.length = m) (h : natK st.length fun np => padK args (n - m) fun sl => D.w ⟨np, fz, st, sl, []⟩ (endK fun r' st' => r' = r ∧ ∃ rest, st' = u :: rest)) : ∃ rest, runF m n d fz st args = some (r, u :: rest) := by
  obtain ⟨_, _, h1, rfl, rest, rfl⟩ := of_w hm h
  exact ⟨rest, h1⟩
theorem of_wL {m n : Nat} {d : DS} [D : HS d] {fz st : List U} {args : List Sl} {u v : U} (hm : args.length = m) (h : natK st.length fun np => padK args (n - m) fun sl => D.w ⟨np, fz, st, sl, []⟩ (endK fun r' st' => ∃ j rest, r' = .ref (j + 1) [] ∧ st' = u :: rest ∧ rest[j]? = some v)) : ∃ j rest, runF m n d fz st args = some (.ref (j + 1) [], u :: rest) ∧ rest[j]? = some v := by
  obtain ⟨_, _, h1, j, rest, rfl, rfl, h2⟩ := of_w hm h
  exact ⟨j, rest, h1, h2⟩
theorem of_wP {m n : Nat} {d : DS} [D : HS d] {fz st : List U} {args : List Sl} {r : Sl} (hm : args.length = m) (h : natK st.length fun np => padK args (n - m) fun sl => D.w ⟨np, fz, st, sl, []⟩ (endK fun r' _ => r' = r)) : ∃ st', runF m n d fz st args = some (r, st') := by
  obtain ⟨_, st', h1, rfl⟩ := of_w hm h
  exact ⟨st', h1⟩
def setLastU : List U → U → List U
  | [], _ => []
  | [_], u => [u]
  | x :: y :: r, u => x :: setLastU (y :: r) u
def Env.nl (e : Env) (us : List U) : Env := ⟨e.np, e.fz, setLastU e.st (.node .lst us), e.sl, e.tp⟩
theorem lcW_map {vs : List Nat} {b : DX} {t : DT} {x : DX} [B : HX b] [T : HT t] [X : HX x] {K : Env → Prop} {α : Type} {its : List Sl} {e : Env} (xs : List α) (f : α → Sl) (p : α → Bool) (g : α → U) (N : Nat) (he : e = e.nl []) (hi : its = xs.map f) (hl : xs.length ≤ N) (h : ∀ us a, a ∈ xs → us.length + 1 ≤ N → pushK (e.nl us) (f a) fun e0 => B.w e0 fun e1 => T.w e1 fun c e2 => c = p a ∧ (p a = true → X.w e2 fun e3 => wAppK e3 fun e4 => e4.wipe vs = e.nl (us ++ [g a])) ∧ (p a = false → e2.wipe vs = e.nl us)) (hk : K (e.nl ((xs.filter p).map g))) : lcW vs b t x its e K :=
  lcW_pure e.nl he xs f p g N hi hl h hk
theorem filter_yes {α : Type} (l : List α) : l.filter (fun _ => true) = l := List.filter_eq_self.mpr fun _ _ => rfl
theorem map_val {α : Type} (l : List α) (f : α → U) : (l.map f).map Sl.val = l.map fun a => .val (f a) := by rw [List.map_map]; rfl
def pln : Nat → U → Bool
  | _, .leaf (.int _) => true
  | _, .leaf (.str _) => true
  | _, .leaf (.bl _) => true
  | n + 1, .node .tup us => us.all (pln n)
  | _, _ => false
theorem pln_nd {n : Nat} {k : Kd} {us : List U} (h : pln n (.node k us) = true) : ∃ m, n = m + 1 ∧ k = .tup ∧ us.all (pln m) = true := by
  cases n with
  | zero => cases k <;> cases h
  | succ m =>
    cases k with
    | tup => exact ⟨m, rfl, rfl, h⟩
    | lst => cases h
    | fls => cases h
    | dic ks => cases h
    | fdi ks => cases h
    | dit ks => cases h
    | tul => cases h
    | fdt ks => cases h
    | ins C fs => cases h
    | tab P => cases h
theorem pln_imm {n : Nat} : ∀ {u : U}, pln n u = true → u.imm = true := by
  induction n with
  | zero =>
    intro u h
    cases u with
    | leaf v => rw [U.imm]
    | node k us => obtain ⟨m, e, _⟩ := pln_nd h; cases e
  | succ n ih =>
    intro u h
    cases u with
    | leaf v => rw [U.imm]
    | node k us =>
      obtain ⟨m, e, rfl, h1⟩ := pln_nd h
      clear h
      have h := h1
      clear h1
      obtain rfl : n = m := by omega
      have : U.immL us = true := by
        clear e
        revert h
        induction us with
        | nil => intro _; rw [U.immL]
        | cons v r ih2 =>
          intro h
          rw [List.all_cons, Bool.and_eq_true] at h
          rw [U.immL, ih h.1, ih2 h.2]
          rfl
      rw [U.imm, this]
      rfl
structure LU where
  u : U
  p : pln 9 u = true
instance (x : LU) : Imm x.u := ⟨pln_imm x.p⟩
end FB
namespace FB
open PySem PySem.Spec PyProof.Rows L2
abbrev Sp := Str × Str
abbrev snU (s : Sp) : U := .node .tup [.leaf (.str s.1), .leaf (.str s.2)]
abbrev lsU (ss : List Sp) : U := .node .lst (ss.map snU)
def hasK (s : Sp) (k : Str) : Bool := !ltS k s.1 && (decide (s.2 = "") || ltS k s.2)
def optU : Option Sp → U
  | none => .leaf .non
  | some s => snU s
def canCut (s : Sp) (k : Str) : Bool := hasK s k && ltS (maxS s.1 "a") k
def cutAt (ss : List Sp) (k : Str) : List Sp := ss.flatMap fun s => if canCut s k = true then [(s.1, k), (k, s.2)] else [s]
theorem take_succ_at {α : Type} {l : List α} {i : Nat} {x : α} (h : l[i]? = some x) : l.take (i + 1) = l.take i ++ [x] := by
  rw [List.take_succ, h]
  rfl
theorem cutAt_snoc (ss : List Sp) (s : Sp) (k : Str) : cutAt (ss ++ [s]) k = cutAt ss k ++ (if canCut s k = true then [(s.1, k), (k, s.2)] else [s]) := by
  unfold cutAt
  rw [List.flatMap_append]
  simp
theorem cutAt_len (ss : List Sp) (k : Str) : (cutAt ss k).length ≤ 2 * ss.length := by
  induction ss with
  | nil => exact Nat.le_refl _
  | cons s r ih =>
    unfold cutAt at ih ⊢
    rw [List.flatMap_cons, List.length_append, List.length_cons]
    have h1 : (if canCut s k = true then [(s.1, k), (k, s.2)] else [s]).length ≤ 2 := by split <;> simp
    omega
theorem find_first {α : Type} {p : α → Bool} : ∀ {l : List α} {i : Nat} {x : α}, l[i]? = some x → (∀ y ∈ l.take i, p y = false) → p x = true → l.find? p = some x
  | [], _, _, h, _, _ => by cases h
  | y :: r, 0, x, h, _, hp => by
    obtain rfl := Option.some.inj h
    rw [List.find?_cons, hp]
  | y :: r, i + 1, x, h, hn, hp => by
    rw [List.find?_cons, hn y (by simp)]
    exact find_first (l := r) (by simpa using h) (fun z hz => hn z (by rw [List.take_succ_cons]; exact List.mem_cons_of_mem _ hz)) hp
section
theorem f_has_key (fz : List U) (s : Sp) (k : Str) : ∃ st', F_has_key fz [] [.val (snU s), .val (.leaf (.str k))] = some (.val (.leaf (.bl (hasK s k))), st') := by
  unfold F_has_key hasK
  refine of_wP rfl ?_
  walk_at "wgo"
  walk_at "wc"
  · intro h
    walk_at "wgo"
    rw [show ltS k s.1 = false from decide_eq_false h]
    walk_at "wc"
    · intro h2
      walk_at "wgo"
      rw [decide_eq_true h2]
      rfl
    · intro h2
      walk_at "wgo"
      rw [decide_eq_false h2]
      rfl
  · intro h
    walk_at "wgo"
    rw [show ltS k s.1 = true from decide_eq_true h]
    rfl
theorem f_span_with (fz : List U) (ss : List Sp) (k : Str) : ∃ rest, F_span_with fz [lsU ss] [.ref 0 [], .val (.leaf (.str k))] = some (.val (optU (ss.find? (hasK · k))), lsU ss :: rest) := by
  unfold F_span_with
  refine of_wV rfl ?_
  walk_at "wgo"
  refine loopW_run _ (fun i e => e = ⟨1, fz ++ [lsU ss], [.leaf .non], [.fref fz.length [], .val (.leaf (.str k)), .no], []⟩ ∧ ∀ s ∈ ss.take i, hasK s k = false) ⟨rfl, fun s hs => (by cases hs)⟩ ?_ ?_
  · rintro i x e hx ⟨rfl, hno⟩
    obtain ⟨s, hs, rfl⟩ := map_at hx
    obtain ⟨_, p1⟩ := f_has_key (fz ++ [lsU ss]) s k
    replace p1 := Hid.mk p1
    walk_at "wgo"
    refine callW_mk p1.h ?_
    walk_at "wgo"
    walk_at "wc"
    · intro h
      walk_at "wgo"
      refine ⟨?_, _, rfl⟩
      rw [find_first hs hno h]
      rfl
    · intro h
      walk_at "wgo"
      refine ⟨rfl, fun z hz => ?_⟩
      rw [take_succ_at hs] at hz
      rcases List.mem_append.mp hz with hz | hz
      · exact hno z hz
      · rw [List.mem_singleton.mp hz]
        exact h
  · rintro e ⟨rfl, hno⟩
    walk_at "wgo"
    refine ⟨?_, _, rfl⟩
    rw [List.length_map, List.length_map, List.take_length] at hno
    rw [List.find?_eq_none.mpr fun z hz => by rw [hno z hz]; decide]
    rfl
theorem f_can_cut (fz : List U) (s : Sp) (k : Str) : ∃ st', F_can_cut fz [] [.val (snU s), .val (.leaf (.str k))] = some (.val (.leaf (.bl (canCut s k))), st') := by
  obtain ⟨_, p1⟩ := f_has_key fz s k
  replace p1 := Hid.mk p1
  unfold F_can_cut canCut
  refine of_wP rfl ?_
  walk_at "wgo"
  refine callW_mk p1.h ?_
  walk_at "wgo"
  walk_at "wc"
  · intro h
    rw [h]
    walk_at "wgo"
    rfl
  · intro h
    rw [h]
    walk_at "wgo"
    rfl
theorem f_cut_at (fz : List U) (ss : List Sp) (k : Str) (hl : ss.length ≤ 1000) : ∃ j rest, F_cut_at fz [lsU ss] [.ref 0 [], .val (.leaf (.str k))] = some (.ref (j + 1) [], lsU ss :: rest) ∧ rest[j]? = some (lsU (cutAt ss k)) := by
  unfold F_cut_at
  refine of_wL rfl ?_
  walk_at "wgo"
  refine loopW_run _ (fun i e => e = ⟨1, fz ++ [lsU ss], [.leaf .non, lsU (cutAt (ss.take i) k)], [.fref fz.length [], .val (.leaf (.str k)), .ref 1 [], .no], []⟩) rfl ?_ ?_
  · rintro i x e hx rfl
    obtain ⟨s, hs, rfl⟩ := map_at hx
    obtain ⟨_, p1⟩ := f_can_cut (fz ++ [lsU ss]) s k
    replace p1 := Hid.mk p1
    have hi : i < ss.length := (List.getElem?_eq_some_iff.mp hs).1
    have h1 := cutAt_len (ss.take i) k
    rw [List.length_take] at h1
    have h2 : ((cutAt (ss.take i) k).map snU).length + 1 < 100000 := by rw [List.length_map]; omega
    have e1 : cutAt (ss.take (i + 1)) k = cutAt (ss.take i) k ++ (if canCut s k = true then [(s.1, k), (k, s.2)] else [s]) := by rw [take_succ_at hs, cutAt_snoc]
    unfold lsU
    rw [e1]
    generalize cutAt (ss.take i) k = done at h2 ⊢
    walk_at "wgo"
    refine callW_mk p1.h ?_
    walk_at "wgo"
    walk_at "wc"
    · intro h
      rw [if_pos h, List.map_append]
      walk_at "wgo"
      refine need_mk (by rw [List.length_append]; exact h2) ?_
      walk_at "wgo"
      rw [List.append_assoc]
      rfl
    · intro h
      rw [if_neg (by rw [h]; decide), List.map_append]
      walk_at "wgo"
      rfl
  · rintro e rfl
    rw [List.length_map, List.length_map, List.take_length]
    walk_at "wgo"
    exact ⟨0, _, rfl, rfl, rfl⟩
def joinS (k : Str) (acc : List Sp) (s : Sp) : List Sp := match acc.getLast? with
  | some l => if l.2 = k ∧ s.1 = k then acc.dropLast ++ [(l.1, s.2)] else acc ++ [s]
  | none => acc ++ [s]
def joinAt (ss : List Sp) (k : Str) : List Sp := ss.foldl (joinS k) []
theorem joinS_len (k : Str) (acc : List Sp) (s : Sp) : (joinS k acc s).length ≤ acc.length + 1 := by
  unfold joinS
  split
  · split
    · rw [List.length_append, List.length_dropLast]
      simp only [List.length_singleton]
      omega
    · simp
  · simp
theorem joinAt_len (ss : List Sp) (k : Str) : (joinAt ss k).length ≤ ss.length := by
  have : ∀ (ss acc : List Sp), (ss.foldl (joinS k) acc).length ≤ acc.length + ss.length := by
    intro ss
    induction ss with
    | nil => exact fun acc => Nat.le_refl _
    | cons s r ih =>
      intro acc
      have h1 := ih (joinS k acc s)
      have h2 := joinS_len k acc s
      rw [List.foldl_cons, List.length_cons]
      omega
  have h := this ss []
  unfold joinAt
  simpa using h
theorem joinAt_snoc {ss : List Sp} {i : Nat} {s : Sp} (k : Str) (h : ss[i]? = some s) : joinAt (ss.take (i + 1)) k = joinS k (joinAt (ss.take i) k) s := by
  unfold joinAt
  rw [take_succ_at h, List.foldl_append]
  rfl
theorem f_joined_at (fz : List U) (ss : List Sp) (k : Str) (hl : ss.length ≤ 1000) : ∃ j rest, F_joined_at fz [lsU ss] [.ref 0 [], .val (.leaf (.str k))] = some (.ref (j + 1) [], lsU ss :: rest) ∧ rest[j]? = some (lsU (joinAt ss k)) := by
  unfold F_joined_at
  refine of_wL rfl ?_
  walk_at "wgo"
  refine loopW_run _ (fun i e => e = ⟨1, fz ++ [lsU ss], [.leaf .non, lsU (joinAt (ss.take i) k)], [.fref fz.length [], .val (.leaf (.str k)), .ref 1 [], .no], []⟩) rfl ?_ ?_
  · rintro i x e hx rfl
    obtain ⟨s, hs, rfl⟩ := map_at hx
    have hi : i < ss.length := (List.getElem?_eq_some_iff.mp hs).1
    have h1 := joinAt_len (ss.take i) k
    rw [List.length_take] at h1
    unfold lsU
    rw [joinAt_snoc k hs]
    have h2 : ((joinAt (ss.take i) k).map snU).length + 1 < 100000 := by rw [List.length_map]; omega
    generalize joinAt (ss.take i) k = acc at h2 ⊢
    have app : joinS k acc s = acc ++ [s] → (joinS k acc s).map snU = acc.map snU ++ [snU s] := fun h => by rw [h, List.map_append]; rfl
    rcases List.eq_nil_or_concat acc with rfl | ⟨acc', l, rfl⟩
    · walk_at "wgo"
      rfl
    · rw [List.concat_eq_append] at app h2 ⊢
      have hlast : (acc' ++ [l]).getLast? = some l := by simp
      have hix : ixU ((acc' ++ [l]).map snU) (-1) = some (acc'.length, snU l) := ixU_neg (n := acc'.length) (by rw [List.map_append, List.getElem?_append_right (by simp)]; simp) (by decide) (by simp; omega)
      have hne : (!((acc' ++ [l]).map snU).isEmpty) = true := by simp
      have hin : ixN ((acc' ++ [l]).map snU).length (-1) = some acc'.length := by
        obtain ⟨n, h1, h2⟩ := Option.bind_eq_some_iff.mp (show (ixN ((acc' ++ [l]).map snU).length (-1)).bind _ = some (acc'.length, snU l) from hix)
        obtain ⟨u, h3, h4⟩ := Option.map_eq_some_iff.mp h2
        rw [h1, (Prod.mk.inj h4).1]
      walk_at "wgo"
      refine optW_mk hix ?_
      walk_at "wgo"
      walk_at "wc"
      · intro g1
        walk_at "wgo"
        walk_at "wc"
        · intro g2
          have e1 : (joinS k (acc' ++ [l]) s).map snU = ((acc' ++ [l]).map snU).set acc'.length (snU (l.1, s.2)) := by
            unfold joinS
            rw [hlast]
            dsimp only
            rw [if_pos ⟨g1, g2⟩, List.dropLast_concat, List.map_append, List.map_append, List.set_append_right _ _ (by simp)]
            simp
          rw [e1]
          walk_at "wgo"
          refine optW_mk hix ?_
          walk_at "wgo"
          refine optW_mk hin ?_
          walk_at "wgo"
        · intro g2
          rw [app (by unfold joinS; rw [hlast]; dsimp only; rw [if_neg fun z => g2 z.2])]
          walk_at "wgo"
      · intro g1
        rw [app (by unfold joinS; rw [hlast]; dsimp only; rw [if_neg fun z => g1 z.1])]
        walk_at "wgo"
  · rintro e rfl
    rw [List.length_map, List.length_map, List.take_length]
    walk_at "wgo"
    exact ⟨0, _, rfl, rfl, rfl⟩
end
end FB
namespace FB
open PySem PySem.Spec PyProof.Rows L2
def shareS (s t : Sp) : Bool := hasK s (maxS (maxS s.1 t.1) "a") && hasK t (maxS (maxS s.1 t.1) "a")
def clashS (ss : List Sp) (t : Sp) : Bool := ss.any (shareS · t)
theorem any_yes {α : Type} {f : α → Bool} {l : List α} {i : Nat} {x : α} (h : l[i]? = some x) (hf : f x = true) : l.any f = true := by
  rw [List.any_eq_true]
  exact ⟨x, List.mem_of_getElem? h, hf⟩
section
variable {P4 : Addr}
theorem f_share_key (fz : List U) (s t : Sp) : ∃ st', F_share_key fz [] [.val (snU s), .val (snU t)] = some (.val (.leaf (.bl (shareS s t))), st') := by
  obtain ⟨_, p1⟩ := f_has_key fz s (maxS (maxS s.1 t.1) "a")
  replace p1 := Hid.mk p1
  obtain ⟨_, p2⟩ := f_has_key fz t (maxS (maxS s.1 t.1) "a")
  replace p2 := Hid.mk p2
  unfold F_share_key shareS
  refine of_wP rfl ?_
  walk_at "wgo"
  refine callW_mk p1.h ?_
  walk_at "wgo"
  cases hasK s (maxS (maxS s.1 t.1) "a") with
  | false =>
    walk_at "wgo"
    rfl
  | true =>
    walk_at "wgo"
    refine callW_mk p2.h ?_
    walk_at "wgo"
    rfl
theorem g_clashes (fz : List U) (ss : List Sp) (t : Sp) (ht : fz.any (isTab P4) = true) : ∃ rest, F_clashes P4 fz [lsU ss] [.ref 0 [], .val (snU t)] = some (.val (.leaf (.bl (clashS ss t))), lsU ss :: rest) := by
  unfold F_clashes
  refine of_wV rfl ?_
  walk_at "wgo"
  refine genW_run _ (fun k => match ss[k]? with | some s => shareS s t | none => false) (fun i e => e = ⟨1, fz ++ [lsU ss], [.leaf .non], [.fref fz.length [], .val (snU t), .no], []⟩ ∧ ∀ s ∈ ss.take i, shareS s t = false) ⟨rfl, fun o h => (by cases h)⟩ ?_ ?_
  · rintro i x e hx ⟨rfl, hy⟩
    obtain ⟨s, hs, rfl⟩ := map_at hx
    have hstep : shareS s t = false → ∀ z ∈ ss.take (i + 1), shareS z t = false := fun h z hz => by
      rw [take_succ_at hs] at hz
      rcases List.mem_append.mp hz with hz | hz
      · exact hy z hz
      · rw [List.mem_singleton.mp hz]; exact h
    dsimp only
    rw [hs]
    dsimp only
    obtain ⟨_, p2⟩ := f_share_key (fz ++ [lsU ss]) s t
    replace p2 := Hid.mk p2
    walk_at "wgo"
    refine callW_mk p2.h ?_
    walk_at "wgo"
    refine ⟨rfl, fun h e4 he => ?_, fun h => ?_⟩
    · have e2 : clashS ss t = true := any_yes hs h
      rw [e2, he]
      unfold Env.wipe
      dsimp only [wipeSl]
      walk_at "wgo"
      exact ⟨rfl, _, rfl⟩
    · walk_at "wgo"
      exact ⟨rfl, hstep (by revert h; cases shareS s t <;> simp)⟩
  · rintro e ⟨rfl, hy⟩
    rw [List.length_map, List.length_map, List.take_length] at hy
    have e2 : clashS ss t = false := List.any_eq_false.mpr fun z hz => by rw [hy z hz]; decide
    rw [e2]
    walk_at "wgo"
    exact ⟨rfl, _, rfl⟩
end
end FB
namespace FB
open PySem PySem.Spec PyProof.Rows L2
def joinL (k : Str) (L : List Sp2) : List Sp2 := L.foldl (jstep k) []
theorem cutL_id {k : Str} {c : Str → Str → Bool} : ∀ {zs : List Sp2}, (∀ z ∈ zs, c z.1 z.2 = false) → cutL k c zs = zs
  | [], _ => rfl
  | z :: r, h => by
    have e : cutL k c (z :: r) = (if c z.1 z.2 = true then [(z.1, k), (k, z.2)] else [z]) ++ cutL k c r := rfl
    rw [e, if_neg (by rw [h z List.mem_cons_self]; decide), cutL_id fun y hy => h y (List.mem_cons_of_mem _ hy)]
    rfl
theorem can_has {l h k : Str} (e : canB l h k = true) : hasB l h k = true := by
  unfold canB at e
  exact (Bool.and_eq_true_iff.mp e).1
def ownsB (zs : List Sp2) (k : Str) : Bool := zs.any fun z => hasB z.1 z.2 k
theorem has_inv {l h k : Str} (e : hasB l h k = true) : ltS k l = false ∧ (h = "" ∨ ltS k h = true) := by
  unfold hasB at e
  rw [Bool.and_eq_true, Bool.or_eq_true] at e
  obtain ⟨e1, e2⟩ := e
  refine ⟨by simpa using e1, ?_⟩
  rcases e2 with e2 | e2
  · exact .inl (V.str.inj (of_decide_eq_true e2))
  · exact .inr e2
theorem le_ltS {a b c : Str} (h : ltS b a = false) (h' : ltS b c = true) : ltS a c = true := by
  rcases lt_of_nlt h h' with e | e
  · exact e
  · rw [e]; exact h'
theorem lt_leS {a b c : Str} (h : ltS a b = true) (h' : ltS c b = false) : ltS a c = true := by
  by_cases e : b = c
  · rw [← e]; exact h
  · exact ltS_trans h (ltS_tri h' e)
section
variable {L A B : List Sp2} {z e b : Sp2} {k x : Str}
theorem Good.parts (g : Good (A ++ z :: B)) : (∀ p ∈ A, p.2 ≠ ("" : Str) ∧ ltS z.1 p.2 = false) ∧ (∀ q ∈ B, z.2 ≠ ("" : Str) ∧ ltS q.1 z.2 = false) ∧ (∀ p ∈ A, ∀ q ∈ B, p.2 ≠ ("" : Str) ∧ ltS q.1 p.2 = false) := by
  obtain ⟨_, h2, h3⟩ := List.pairwise_append.mp g.pw
  exact ⟨fun p hp => h3 p hp z List.mem_cons_self, (List.pairwise_cons.mp h2).1, fun p hp q hq => h3 p hp q (List.mem_cons_of_mem _ hq)⟩
theorem Good.lows (g : Good L) : L.Pairwise (fun p q => ltS p.1 q.1 = true) := by
  refine List.Pairwise.imp_of_mem (fun {p q} hp _ h => ?_) g.pw
  rcases g.up p hp with e | e
  · exact absurd e h.1
  · exact lt_leS e h.2
theorem lows_nodup (h : L.Pairwise (fun p q => ltS p.1 q.1 = true)) : L.Nodup := List.Pairwise.imp (fun {p q} h e => by rw [e, ltS_irrefl] at h; cases h) h
theorem Good.nodup (g : Good L) : L.Nodup := lows_nodup g.lows
theorem Good.one (g : Good (A ++ z :: B)) (hz : hasB z.1 z.2 k = true) : ∀ y ∈ A ++ B, hasB y.1 y.2 k = false := fun y hy => by
  obtain ⟨h1, h2, _⟩ := g.parts
  obtain ⟨z1, z2⟩ := has_inv hz
  rcases List.mem_append.mp hy with m | m
  · obtain ⟨n, l⟩ := h1 y m
    refine has_no2 n ?_
    cases e : ltS k y.2 with
    | false => rfl
    | true => rw [le_ltS z1 e] at l; cases l
  · obtain ⟨n, l⟩ := h2 y m
    rcases z2 with z2 | z2
    · exact absurd z2 n
    · exact has_no1 (lt_leS z2 l)
theorem cutL_append {c : Str → Str → Bool} : cutL k c (A ++ B) = cutL k c A ++ cutL k c B := by
  unfold cutL
  rw [List.map_append, List.flatten_append]
theorem cut_at_one (g : Good (A ++ z :: B)) (hc : canB z.1 z.2 k = true) : cutL k (fun l h => canB l h k) (A ++ z :: B) = A ++ (z.1, k) :: (k, z.2) :: B := by
  have no : ∀ y ∈ A ++ B, canB y.1 y.2 k = false := fun y hy => by
    cases e : canB y.1 y.2 k with
    | false => rfl
    | true => have := can_has e; rw [g.one (can_has hc) y hy] at this; cases this
  rw [show A ++ z :: B = A ++ ([z] ++ B) by rfl, cutL_append, cutL_append, cutL_id (zs := A) fun y hy => no y (List.mem_append_left _ hy), cutL_id (zs := B) fun y hy => no y (List.mem_append_right _ hy)]
  have : cutL k (fun l h => canB l h k) [z] = [(z.1, k), (k, z.2)] := by
    show (if canB z.1 z.2 k = true then [(z.1, k), (k, z.2)] else [z]) ++ [] = _
    rw [if_pos hc]
    rfl
  rw [this]
  rfl
theorem can_low (hz : KeyOr z.1) (hc : canB z.1 z.2 k = true) : ltS z.1 k = true := by
  unfold canB at hc
  obtain ⟨h1, h2⟩ := Bool.and_eq_true_iff.mp hc
  rw [max_a hz] at h2
  unfold leastS at h2
  split at h2
  · rename_i e
    rw [e]
    exact ltS_trans lt_empty_a h2
  · exact h2
theorem Good.cut (g : Good (A ++ z :: B)) (hk : k ≠ "") (hz : KeyOr z.1) (hc : canB z.1 z.2 k = true) : Good (A ++ (z.1, k) :: (k, z.2) :: B) := by
  obtain ⟨pA, pzB, pAB⟩ := List.pairwise_append.mp g.pw
  obtain ⟨pz, pB⟩ := List.pairwise_cons.mp pzB
  obtain ⟨h1, h2, h3⟩ := g.parts
  have lk := can_low hz hc
  obtain ⟨_, hh⟩ := has_inv (can_has hc)
  refine ⟨List.pairwise_append.mpr ⟨pA, List.pairwise_cons.mpr ⟨fun q hq => ⟨hk, ?_⟩, List.pairwise_cons.mpr ⟨pz, pB⟩⟩, fun p hp q hq => ?_⟩, fun p hp => ?_⟩
  · rcases List.mem_cons.mp hq with rfl | hq
    · exact ltS_irrefl _
    · obtain ⟨n, l⟩ := h2 q hq
      cases e : ltS q.1 k with
      | false => rfl
      | true =>
        rcases hh with hh | hh
        · exact absurd hh n
        · rw [ltS_trans e hh] at l; cases l
  · obtain ⟨n, l⟩ := h1 p hp
    rcases List.mem_cons.mp hq with rfl | hq
    · exact ⟨n, l⟩
    · rcases List.mem_cons.mp hq with rfl | hq
      · refine ⟨n, ?_⟩
        cases e : ltS k p.2 with
        | false => rfl
        | true => rw [ltS_trans lk e] at l; cases l
      · exact h3 p hp q hq
  · rcases List.mem_append.mp hp with m | m
    · exact g.up p (by simp [m])
    · rcases List.mem_cons.mp m with rfl | m
      · exact .inr lk
      · rcases List.mem_cons.mp m with rfl | m
        · exact hh
        · exact g.up p (by simp [m])
theorem join_parts (g : Good L) (hk : k ≠ "") (he : e ∈ L) (hb : b ∈ L) (e2 : e.2 = k) (b1 : b.1 = k) : ∃ A B, L = A ++ e :: b :: B := by
  have eup : ltS e.1 k = true := by
    rcases g.up e he with h | h
    · exact absurd (e2.symm.trans h) hk
    · rw [← e2]; exact h
  have bup := g.up b hb
  obtain ⟨A, R, rfl⟩ := List.append_of_mem he
  obtain ⟨h1, h2, _⟩ := g.parts
  rcases List.mem_append.mp hb with m | m
  · obtain ⟨n, l⟩ := h1 b m
    rcases bup with h | h
    · exact absurd h n
    · rw [b1] at h
      rw [ltS_trans eup h] at l
      cases l
  · rcases List.mem_cons.mp m with m | m
    · rw [← m, b1, ltS_irrefl] at eup
      cases eup
    · obtain ⟨M, B, rfl⟩ := List.append_of_mem m
      cases M with
      | nil => exact ⟨A, B, rfl⟩
      | cons q M =>
        exfalso
        obtain ⟨_, l⟩ := h2 q (by simp)
        have g2 := (List.pairwise_append.mp g.pw).2.1
        have g3 := (List.pairwise_cons.mp g2).2
        have g4 := (List.pairwise_cons.mp g3).1 b (by simp)
        rcases g.up q (by simp) with h | h
        · exact g4.1 h
        · have := lt_leS h g4.2
          rw [b1] at this
          rw [e2, this] at l
          cases l
theorem join_rest (g : Good (A ++ e :: b :: B)) (hk : k ≠ "") (e2 : e.2 = k) (b1 : b.1 = k) : (∀ p ∈ A ++ B, p.1 ≠ k ∧ p.2 ≠ k) ∧ e.1 ≠ k ∧ b.2 ≠ k ∧ ltS e.1 k = true ∧ (b.2 = "" ∨ ltS k b.2 = true) := by
  have eup : ltS e.1 k = true := by
    rcases g.up e (by simp) with h | h
    · exact absurd (e2.symm.trans h) hk
    · rw [← e2]; exact h
  have bup : b.2 = "" ∨ ltS k b.2 = true := by
    rcases g.up b (by simp) with h | h
    · exact .inl h
    · rw [b1] at h; exact .inr h
  obtain ⟨h1, h2, h3⟩ := g.parts
  have g2 : Good ((A ++ [e]) ++ b :: B) := by rw [List.append_assoc]; exact g
  obtain ⟨_, k2, _⟩ := g2.parts
  refine ⟨fun p hp => ?_, ltS_ne eup, fun z => ?_, eup, bup⟩
  · rcases List.mem_append.mp hp with m | m
    · obtain ⟨n, l⟩ := h1 p m
      have pu : ltS p.1 p.2 = true := by
        rcases g.up p (by simp [m]) with h | h
        · exact absurd h n
        · exact h
      refine ⟨ltS_ne (ltS_trans (lt_leS pu l) eup), fun z => ?_⟩
      rw [z, eup] at l
      cases l
    · obtain ⟨n, l⟩ := k2 p m
      have kb : ltS k b.2 = true := by
        rcases bup with h | h
        · exact absurd h n
        · exact h
      have kp : ltS k p.1 = true := lt_leS kb l
      refine ⟨(ltS_ne kp).symm, fun z => ?_⟩
      rcases g.up p (by simp [m]) with h | h
      · exact hk (z.symm.trans h)
      · rw [z] at h
        rw [ltS_asymm kp] at h
        cases h
  · rcases bup with h | h
    · exact hk (z.symm.trans h)
    · rw [z, ltS_irrefl] at h
      cases h
theorem join_at_one (g : Good (A ++ e :: b :: B)) (hk : k ≠ "") (e2 : e.2 = k) (b1 : b.1 = k) : joinL k (A ++ e :: b :: B) = A ++ (e.1, b.2) :: B := by
  obtain ⟨hr, he1, hb2, _, _⟩ := join_rest g hk e2 b1
  unfold joinL
  rw [List.foldl_append, jfold_low A [] fun z hz => (hr z (List.mem_append_left _ hz)).1, List.nil_append]
  show List.foldl (jstep k) (jstep k (jstep k A e) b) B = _
  rw [jstep_low he1, jstep_yes ⟨e2, b1⟩, jfold_low B _ fun z hz => (hr z (List.mem_append_right _ hz)).1, List.append_assoc]
  rfl
theorem Good.join (g : Good (A ++ e :: b :: B)) (hk : k ≠ "") (e2 : e.2 = k) (b1 : b.1 = k) : Good (A ++ (e.1, b.2) :: B) := by
  obtain ⟨hr, he1, hb2, eup, bup⟩ := join_rest g hk e2 b1
  obtain ⟨pA, pR, pAR⟩ := List.pairwise_append.mp g.pw
  obtain ⟨pe, pbB⟩ := List.pairwise_cons.mp pR
  obtain ⟨pb, pB⟩ := List.pairwise_cons.mp pbB
  refine ⟨List.pairwise_append.mpr ⟨pA, List.pairwise_cons.mpr ⟨pb, pB⟩, fun p hp q hq => ?_⟩, fun p hp => ?_⟩
  · rcases List.mem_cons.mp hq with rfl | hq
    · exact pAR p hp e List.mem_cons_self
    · exact pAR p hp q (by simp [hq])
  · rcases List.mem_append.mp hp with m | m
    · exact g.up p (by simp [m])
    · rcases List.mem_cons.mp m with rfl | m
      · rcases bup with h | h
        · exact .inl h
        · exact .inr (ltS_trans eup h)
      · exact g.up p (by simp [m])
theorem own_cut (lk : ltS z.1 k = true) (hk : k ≠ "") (hh : z.2 = "" ∨ ltS k z.2 = true) : hasB z.1 z.2 x = (hasB z.1 k x || hasB k z.2 x) := by
  cases c : ltS x k with
  | true =>
    have h2 : hasB k z.2 x = false := has_no1 c
    rw [h2, Bool.or_false]
    cases c1 : ltS x z.1 with
    | true => rw [has_no1 c1, has_no1 c1]
    | false =>
      rw [has_yes c1 (.inr c)]
      refine has_yes c1 ?_
      rcases hh with h | h
      · exact .inl h
      · exact .inr (ltS_trans c h)
  | false =>
    rw [has_no2 hk c, Bool.false_or]
    have c1 : ltS x z.1 = false := by
      cases c1 : ltS x z.1 with
      | false => rfl
      | true => rw [ltS_trans c1 lk] at c; cases c
    by_cases c2 : z.2 = "" ∨ ltS x z.2 = true
    · rw [has_yes c1 c2, has_yes c c2]
    · have n : z.2 ≠ "" := fun e => c2 (.inl e)
      have l : ltS x z.2 = false := Bool.eq_false_iff.mpr fun e => c2 (.inr e)
      rw [has_no2 n l, has_no2 n l]
theorem owns_append : ownsB (A ++ B) x = (ownsB A x || ownsB B x) := List.any_append
theorem owns_cons : ownsB (z :: B) x = (hasB z.1 z.2 x || ownsB B x) := List.any_cons
end
def shareB (p q : Sp2) : Bool := hasB p.1 p.2 (maxS (maxS p.1 q.1) "a") && hasB q.1 q.2 (maxS (maxS p.1 q.1) "a")
structure SpanOk (p : Sp2) : Prop where
  lo : KeyOr p.1
  hi : KeyOr p.2
  own : hasB p.1 p.2 (leastS p.1) = true
theorem least_key {l : Str} (h : KeyOr l) : IsKey (leastS l) := by
  unfold leastS
  split
  · exact a_key
  · rename_i e
    exact isKey_of h e
theorem max_least {a b : Str} (ha : KeyOr a) (hb : KeyOr b) : maxS (maxS a b) "a" = maxS (leastS a) (leastS b) := by
  by_cases ea : a = ""
  · subst ea
    by_cases eb : b = ""
    · subst eb
      decide +kernel
    · have kb := isKey_of hb eb
      have e1 : maxS "" b = b := if_pos (empty_lt eb)
      rw [e1, max_a hb]
      show leastS b = maxS "a" (leastS b)
      have e2 : leastS b = b := if_neg eb
      rw [e2]
      unfold maxS
      split
      · rfl
      · rename_i h
        apply Decidable.byContradiction
        intro hne
        exact h (ltS_tri (key_ge_a kb) fun e => hne e.symm)
  · have ka := isKey_of ha ea
    have e2 : leastS a = a := if_neg ea
    by_cases eb : b = ""
    · subst eb
      have e1 : maxS a "" = a := if_neg (by rw [no_lt_empty]; decide)
      rw [e1, e2]
      rfl
    · have e3 : leastS b = b := if_neg eb
      rw [e2, e3]
      have km : KeyOr (maxS a b) := by
        unfold maxS
        split
        · exact hb
        · exact ha
      have nm : maxS a b ≠ "" := by
        unfold maxS
        split
        · exact eb
        · exact ea
      rw [max_a km]
      exact if_neg nm
theorem has_parts {l h k : Str} (e : hasB l h k = true) : ltS k l = false ∧ (h = "" ∨ ltS k h = true) := by
  unfold hasB at e
  rw [Bool.and_eq_true, Bool.or_eq_true] at e
  obtain ⟨e1, e2⟩ := e
  refine ⟨by simpa using e1, ?_⟩
  rcases e2 with e2 | e2
  · exact .inl (V.str.inj (of_decide_eq_true e2))
  · exact .inr e2
theorem le_trans_lt {a b c : Str} (h : ltS b a = false) (h' : ltS b c = true) : ltS a c = true := by
  rcases lt_of_nlt h h' with e | e
  · exact e
  · rw [e]; exact h'
theorem least_le {l k : Str} (h : ltS k l = false) (hk : IsKey k) : ltS k (leastS l) = false := by
  unfold leastS
  split
  · exact key_ge_a hk
  · exact h
theorem least_ge (l : Str) : ltS (leastS l) l = false := by
  unfold leastS
  split
  · rename_i e
    rw [e]
    exact no_lt_empty _
  · exact ltS_irrefl _
theorem nlt_trans {a b c : Str} (h : ltS b a = false) (h' : ltS c b = false) : ltS c a = false := by
  cases e : ltS c a with
  | false => rfl
  | true =>
    by_cases e2 : a = b
    · rw [← e2, e] at h'
      cases h'
    · have := ltS_trans e (ltS_tri h e2)
      rw [this] at h'
      cases h'
theorem share_of_key {p q : Sp2} (hp : SpanOk p) (hq : SpanOk q) {k : Str} (hk : IsKey k) (h1 : hasB p.1 p.2 k = true) (h2 : hasB q.1 q.2 k = true) : shareB p q = true := by
  obtain ⟨a1, a2⟩ := has_parts h1
  obtain ⟨b1, b2⟩ := has_parts h2
  have c1 := least_le a1 hk
  have c2 := least_le b1 hk
  have cm : ltS k (maxS (leastS p.1) (leastS q.1)) = false := by
    unfold maxS
    split
    · exact c2
    · exact c1
  have up : ∀ {h : Str}, (h = "" ∨ ltS k h = true) → (h = "" ∨ ltS (maxS (leastS p.1) (leastS q.1)) h = true) := fun {h} z => z.imp id fun z => le_trans_lt cm z
  have m1 : ltS (maxS (leastS p.1) (leastS q.1)) (leastS p.1) = false := by
    unfold maxS
    split
    · rename_i e
      exact ltS_asymm e
    · exact ltS_irrefl _
  have m2 : ltS (maxS (leastS p.1) (leastS q.1)) (leastS q.1) = false := by
    unfold maxS
    split
    · exact ltS_irrefl _
    · rename_i e
      exact Bool.eq_false_iff.mpr e
  unfold shareB
  rw [max_least hp.lo hq.lo, has_yes (nlt_trans (least_ge _) m1) (up a2), has_yes (nlt_trans (least_ge _) m2) (up b2)]
  rfl
theorem span_ok {l h : Str} (hl : KeyOr l) (hh : KeyOr h) (hn : (l, h) ≠ (("" : Str), ("a" : Str))) (up : h = "" ∨ ltS l h = true) : SpanOk (l, h) := by
  refine ⟨hl, hh, ?_⟩
  show hasB l h (leastS l) = true
  by_cases e : l = ""
  · subst e
    refine has_yes (no_lt_empty _) ?_
    by_cases e2 : h = ""
    · exact .inl e2
    · refine .inr (ltS_tri (key_ge_a (isKey_of hh e2)) fun e3 => hn ?_)
      have e3 : ("a" : Str) = h := e3
      rw [← e3]
  · have e2 : leastS l = l := if_neg e
    rw [e2]
    exact has_yes (ltS_irrefl _) up
theorem hasK_B (s : Sp2) (k : Str) : hasK s k = hasB s.1 s.2 k := by
  unfold hasK hasB
  rw [show decide (V.str s.2 = V.str "") = decide (s.2 = "") by simp]
theorem canCut_B (s : Sp2) (k : Str) : canCut s k = canB s.1 s.2 k := by
  unfold canCut canB
  rw [hasK_B]
theorem cutAt_L (ss : List Sp2) (k : Str) : cutAt ss k = cutL k (fun l h => canB l h k) ss := by
  unfold cutAt cutL
  congr 1
  funext s
  rw [canCut_B]
theorem joinAt_L (ss : List Sp2) (k : Str) : joinAt ss k = joinL k ss := rfl
end FB
namespace FB
open PySem PySem.Spec PyProof.Rows L2
def abc : Str := "abcdefghijklmnopqrstuvwxyz"
theorem abc_at : ∀ j : Nat, j < 26 → abc.cps.toList[j]? = some (97 + j) := by decide +kernel
theorem letter {v : Int} (h0 : 0 ≤ v) (h1 : v < 26) : ∃ c : Nat, atI abc.cps.toList v = some c ∧ 97 ≤ c ∧ c ≤ 122 := by
  obtain ⟨j, rfl⟩ : ∃ j : Nat, v = (j : Int) := ⟨v.toNat, (Int.toNat_of_nonneg h0).symm⟩
  exact ⟨97 + j, atI_nat (abc_at j (by omega)), by omega, by omega⟩
def Letter (y : Str) : Prop := ∃ c : Nat, y = ⟨#[c]⟩ ∧ 97 ≤ c ∧ c ≤ 122
theorem join_letters : ∀ ys : List Str, (∀ y ∈ ys, Letter y) → (Str.join ⟨#[]⟩ ys).length = ys.length ∧ ∀ c ∈ (Str.join ⟨#[]⟩ ys).cps.toList, 97 ≤ c ∧ c ≤ 122
  | [], _ => ⟨rfl, fun c hc => by simp [Str.join, Str.empty] at hc⟩
  | y :: r, h => by
    obtain ⟨c, rfl, h1, h2⟩ := h y (by simp)
    obtain ⟨e1, e2⟩ := join_letters r fun y hy => h y (by simp [hy])
    have ej : Str.join ⟨#[]⟩ (⟨#[c]⟩ :: r) = (⟨#[c]⟩ : Str) ++ Str.join ⟨#[]⟩ r := join_nil_cons _ _
    rw [ej]
    have ec : ((⟨#[c]⟩ : Str) ++ Str.join ⟨#[]⟩ r).cps = #[c] ++ (Str.join ⟨#[]⟩ r).cps := rfl
    refine ⟨?_, fun x hx => ?_⟩
    · show ((⟨#[c]⟩ : Str) ++ Str.join ⟨#[]⟩ r).cps.size = _
      rw [ec]
      have : (Str.join ⟨#[]⟩ r).cps.size = r.length := e1
      simp [this]
      omega
    · rw [ec] at hx
      have : x = c ∨ x ∈ (Str.join ⟨#[]⟩ r).cps.toList := by simpa using hx
      rcases this with q | q
      · omega
      · exact e2 x q
theorem sum_letters : ∀ ys : List Str, (∀ y ∈ ys, Letter y) → (ys.map (·.length)).sum = ys.length
  | [], _ => rfl
  | y :: r, h => by
    obtain ⟨c, rfl, _⟩ := h y (by simp)
    have ih := sum_letters r fun y hy => h y (by simp [hy])
    rw [List.map_cons, List.sum_cons, ih, List.length_cons]
    show 1 + r.length = r.length + 1
    omega
theorem txt_join (ys : List Str) : Txt.join ("" : Str) ys = Str.join ⟨#[]⟩ ys := by
  have h := join_plain_closes ("" : Str) ys
  exact (beq_iff_eq.mp h)
end FB
namespace FB
open PySem PySem.Spec PyProof.Rows L2
def SpT (s : Sp) : Prop := PyData.strOk s.1 = true ∧ PyData.strOk s.2 = true
def intU' (c : Int) : U := .leaf (.int c)
instance (c : Int) : Imm (intU' c) := ⟨by unfold intU'; rw [U.imm]⟩
structure Dr where
  cells : List Int
  at' : Int
  left : Int
  num : Int
  dg : Bool
def drV (c : List Int) (a l n : Int) (b : Bool) : U := .node (.dic [.inr "cells", .inr "at", .inr "left", .inr "number", .inr "digits"]) [.node .lst (c.map intU'), .leaf (.int a), .leaf (.int l), .leaf (.int n), .leaf (.bl b)]
def drU (d : Dr) : U := drV d.cells d.at' d.left d.num d.dg
structure DOk (d : Dr) (n : Nat) : Prop where
  ne : 0 < d.cells.length
  le : d.cells.length ≤ 64
  lo : 0 ≤ d.at'
  hi : d.at' ≤ n
  dgo : d.dg = true → d.at' < d.cells.length
theorem DOk.mono {d : Dr} {n m : Nat} (h : DOk d n) (hm : n ≤ m) : DOk d m := ⟨h.ne, h.le, h.lo, by have := h.hi; omega, h.dgo⟩
theorem ints_at {l : List Int} {i : Int} (h0 : 0 ≤ i) (h1 : i < l.length) : ∃ n x, ixU (l.map intU') i = some (n, intU' x) := by
  refine ⟨i.toNat, l[i.toNat]'(by omega), ixU_some (n := i.toNat) ?_ (by omega)⟩
  rw [List.getElem?_map, List.getElem?_eq_getElem (by omega)]
  rfl
theorem strs_at {l : List Str} {i : Int} (h0 : 0 ≤ i) (h1 : i < l.length) : ∃ n x, ixU (l.map fun z => U.leaf (.str z)) i = some (n, .leaf (.str x)) ∧ x ∈ l := by
  refine ⟨i.toNat, l[i.toNat]'(by omega), ixU_some (n := i.toNat) ?_ (by omega), List.getElem_mem _⟩
  rw [List.getElem?_map, List.getElem?_eq_getElem (by omega)]
  rfl
theorem abc_ix {v : Int} (h0 : 0 ≤ v) (h1 : v < 26) : ∃ y, fIxS (.str abc) (.int v) = some (.str y) ∧ Letter y := by
  obtain ⟨c, h2, h3, h4⟩ := letter h0 h1
  refine ⟨⟨#[c]⟩, ?_, c, rfl, h3, h4⟩
  show (if abc.length < 100000 then (atI abc.cps.toList v).map (fun c => V.str ⟨#[c]⟩) else none) = _
  rw [if_pos (Nat.lt_of_le_of_lt (show abc.length ≤ 26 by decide +kernel) (by decide)), h2]
  rfl
theorem lv_strs (l : List Str) : lvU strsV (l.map fun z => U.leaf (.str z)) = some l := by
  have h1 : leavesU (l.map fun z => U.leaf (.str z)) = some (l.map V.str) := by
    induction l with
    | nil => rfl
    | cons x r ih => rw [List.map_cons, leavesU, ih]; rfl
  have h2 : strsV (l.map V.str) = some l := by
    clear h1
    induction l with
    | nil => rfl
    | cons x r ih => rw [List.map_cons, strsV, ih]; rfl
  unfold lvU
  rw [h1]
  exact h2
theorem datL_ints : ∀ l : List Int, U.datL (l.map intU') = some (l.map PyData.int)
  | [] => by rw [List.map_nil, U.datL]; rfl
  | s :: r => by
    rw [List.map_cons, U.datL, datL_ints r]
    simp [U.dat, intU']
theorem eqvU_ints {l : List Int} {kk : Kd} (hk : kk = .fls ∨ kk = .lst) : eqvU (.node kk (l.map intU')) (.node .lst []) = some l.isEmpty := by
  unfold eqvU
  have h1 : (U.node kk (l.map intU')).dat = some (.list (l.map PyData.int)) := by
    rcases hk with rfl | rfl
    · rw [U.dat, datL_ints]; rfl
    · rw [U.dat, datL_ints]; rfl
  have h2 : (U.node .lst []).dat = some (.list []) := by rw [U.dat, U.datL]; rfl
  have hs : ∀ l : List Int, SeqAt.shaped (.list (l.map PyData.int)) = true := fun l => by
    have a : PyData.canLayAll0 (l.map PyData.int) = true := by
      induction l with
      | nil => rw [List.map_nil, PyData.canLayAll0]
      | cons s r ih => rw [List.map_cons, PyData.canLayAll0, ih, PyData.canLay0]; rfl
    have b : PyData.depthAll (l.map PyData.int) ≤ 1 := by
      clear a
      induction l with
      | nil => rw [List.map_nil, PyData.depthAll]; omega
      | cons s r ih => rw [List.map_cons, PyData.depthAll, PyData.depth]; omega
    unfold SeqAt.shaped
    rw [PyData.canLay0, a, decide_eq_true (by rw [PyData.depth]; omega)]
    rfl
  rw [h1, h2, Option.bind_some, Option.bind_some, if_pos ⟨hs l, hs []⟩]
  cases l with
  | nil => simp [PyData.eqv, PyData.eqvAll]
  | cons s r => simp [PyData.eqv, PyData.eqvAll]
theorem d_drawn (fz : List U) (j : Nat) (kk : Kd) (ns : List Int) (hj : look1 fz j [] = some (.node kk (ns.map intU'))) (hk : kk = .fls ∨ kk = .lst) (hl : ns.length ≤ 63) : ∃ i st' d, F_drawn fz [] [.fref j []] = some (.ref i [], st') ∧ st'[i]? = some (drU d) ∧ DOk d 0 := by
  have key : ∃ r st', F_drawn fz [] [.fref j []] = some (r, st') ∧ ∃ i d, r = .ref i [] ∧ st'[i]? = some (drU d) ∧ DOk d 0 := by
    unfold F_drawn
    refine of_w rfl ?_
    walk_at "wgo"
    refine optW_mk hj ?_
    have he := eqvU_ints (l := ns) hk
    rcases hk with rfl | rfl
    all_goals
      walk_at "wgo"
      refine optW_mk hj ?_
      walk_at "wgo"
      refine optW_mk he ?_
      walk_at "wgo"
      cases ns with
      | nil =>
        walk_at "wgo"
        exact ⟨_, ⟨[0], 0, 60, _, _⟩, rfl, rfl, by decide, by decide, Int.le_refl _, Int.le_refl _, fun _ => by decide⟩
      | cons c r =>
        rw [show (List.replicate (if (c :: r).isEmpty = true then 1 else 0 : Int).toNat [U.leaf (V.int 0)]).flatten = [] from rfl, List.append_nil]
        have hlm : ((c :: r).map intU').length < 100000 := by rw [List.length_map]; omega
        walk_at "wgo"
        exact ⟨_, ⟨c :: r, 0, 60, _, _⟩, rfl, rfl, Nat.succ_pos _, by dsimp only; omega, Int.le_refl _, Int.le_refl _, fun _ => by dsimp only [List.length_cons]; omega⟩
  obtain ⟨_, st', h, i, d, rfl, h2, h3⟩ := key
  exact ⟨i, st', d, h, h2, h3⟩
theorem sorted_keys {l : List Str} (h : l.Nodup) : (sortS l).Pairwise fun a b => ltS a b = true := by
  have h1 := sortS_srt l
  have h2 : (sortS l).Nodup := (sortS_perm l).nodup_iff.mpr h
  have h3 := h1.and h2
  exact h3.imp fun ⟨a, b⟩ => ltS_tri a b
/-- spans as they are drawn -/
structure SpsOk (ss : List Sp) : Prop where
  good : Good ss
  lo : ∀ s ∈ ss, KeyOr s.1
  hi : ∀ s ∈ ss, KeyOr s.2
  na : ∀ s ∈ ss, s ≠ (("" : Str), ("a" : Str))
theorem SpsOk.spt {ss : List Sp} (h : SpsOk ss) : ∀ s ∈ ss, SpT s := fun s hs => ⟨(h.lo s hs).ok, (h.hi s hs).ok⟩
theorem SpsOk.sub {ss ts : List Sp} (h : SpsOk ss) (s : ts.Sublist ss) : SpsOk ts := ⟨h.good.sub s, fun x hx => h.lo x (s.subset hx), fun x hx => h.hi x (s.subset hx), fun x hx => h.na x (s.subset hx)⟩
end FB
namespace FB
open PySem PySem.Spec PyProof.Rows L2
def SemW (d : DS) (e : Env) (K : Out → Prop) : Prop := ∃ o, d e = some o ∧ K o
theorem semW {d : DS} [D : HS d] {e : Env} {K : Out → Prop} (h : D.w e K) : SemW d e K := D.ok _ _ h
theorem seqJ {a b : DS} [A : HS a] {e : Env} {K : Out → Prop} {α : Type} (E : α → Env) (P : α → Prop) (h : A.w e (fun o => ∃ x, o = .nx (E x) ∧ P x)) (h2 : ∀ x, P x → SemW b (E x) K) : SemW (sSeq a b) e K := by
  obtain ⟨_, h1, x, rfl, hp⟩ := A.ok _ _ h
  obtain ⟨o, h3, h4⟩ := h2 x hp
  exact ⟨o, by unfold sSeq; rw [h1]; exact h3, h4⟩
theorem of_sem {m n : Nat} {d : DS} {fz st : List U} {args : List Sl} {K : Sl → List U → Prop} (hm : args.length = m) (h : natK st.length fun np => padK args (n - m) fun sl => SemW d ⟨np, fz, st, sl, []⟩ (endK K)) : ∃ r st', runF m n d fz st args = some (r, st') ∧ K r st' := by
  rw [natK_iff, padK_iff] at h
  obtain ⟨o, h1, h2⟩ := h
  unfold endK at h2
  unfold runF
  rw [if_pos hm, h1]
  split at h2
  · exact ⟨_, _, rfl, h2⟩
  · exact ⟨_, _, rfl, h2⟩
  · exact h2.elim
theorem seqO {a b : DS} [A : HS a] {e : Env} {K : Out → Prop} (h : A.w e (fun o => match o with | .nx e' => Hid (SemW b e' K) | .rt e' => K (.rt e') | .bk e' => K (.bk e') | .ct e' => K (.ct e'))) : SemW (sSeq a b) e K := by
  obtain ⟨o, h1, h2⟩ := A.ok _ _ h
  cases o with
  | nx e' =>
    obtain ⟨o, h3, h4⟩ := Hid.h h2
    exact ⟨o, by unfold sSeq; rw [h1]; exact h3, h4⟩
  | rt e' => exact ⟨_, by unfold sSeq; rw [h1], h2⟩
  | bk e' => exact ⟨_, by unfold sSeq; rw [h1], h2⟩
  | ct e' => exact ⟨_, by unfold sSeq; rw [h1], h2⟩
end FB
namespace FB
open PySem PySem.Spec PyProof.Rows L2
theorem semClean {vs : List Nat} {a : DS} {e : Env} {K : Out → Prop} (h : SemW a e fun o => match o with
    | .nx e1 => cleanK vs e1 fun e2 => K (.nx e2)
    | .ct e1 => cleanK vs e1 fun e2 => K (.ct e2)
    | .bk e1 => cleanK vs e1 fun e2 => K (.bk e2)
    | .rt e1 => K (.rt e1)) : SemW (sClean vs a) e K := by
  obtain ⟨o, h1, h2⟩ := h
  refine ⟨Out.clean vs o, by unfold sClean; rw [h1]; rfl, ?_⟩
  cases o with
  | nx e1 => exact cleanK_is h2
  | ct e1 => exact cleanK_is h2
  | bk e1 => exact cleanK_is h2
  | rt e1 => exact h2
theorem sem_mono {d : DS} {e : Env} {K1 K2 : Out → Prop} (h : SemW d e K1) (k : ∀ o, K1 o → K2 o) : SemW d e K2 := by
  obtain ⟨o, h1, h2⟩ := h
  exact ⟨o, h1, k o h2⟩
theorem loopW_runS {b : DX} {body : DS} [B : HX b] {K : Out → Prop} : ∀ (its : List Sl) (I : Nat → Env → Prop) {e : Env}, I 0 e → (∀ (k : Nat) (s : Sl) (e : Env), its[k]? = some s → I k e → pushK e s fun e0 => B.w e0 fun e1 => SemW body e1 fun o => match o with
    | .nx e' => I (k + 1) e'
    | .ct e' => I (k + 1) e'
    | .bk e' => K (.nx e')
    | .rt e' => K (.rt e')) → (∀ e', I its.length e' → K (.nx e')) → loopW b body its e K
  | [], I, e, h, _, hk => ⟨⟨.nx e, by rw [loopL], hk e h⟩⟩
  | s :: r, I, e, h, hs, hk => by
    have h0 := hs 0 s e rfl h
    obtain ⟨e1, h1, h2⟩ := B.ok _ _ (pushK_is h0)
    obtain ⟨o, h3, h4⟩ := h2
    have step : ∀ e', I 1 e' → loopW b body r e' K := fun e' h' => loopW_runS r (fun k => I (k + 1)) h' (fun k s e hm => hs (k + 1) s e (by simpa using hm)) hk
    cases o with
    | nx e' =>
      obtain ⟨o, h5, h6⟩ := loopW_is (step e' h4)
      exact ⟨⟨o, by rw [loopL, h1]; simp only [Option.bind_some, h3]; exact h5, h6⟩⟩
    | ct e' =>
      obtain ⟨o, h5, h6⟩ := loopW_is (step e' h4)
      exact ⟨⟨o, by rw [loopL, h1]; simp only [Option.bind_some, h3]; exact h5, h6⟩⟩
    | bk e' => exact ⟨⟨.nx e', by rw [loopL, h1]; simp only [Option.bind_some, h3], h4⟩⟩
    | rt e' => exact ⟨⟨.rt e', by rw [loopL, h1]; simp only [Option.bind_some, h3], h4⟩⟩
end FB
namespace FB
open PySem PySem.Spec PyProof.Rows L2
structure DOk7 (d : Dr) (n : Nat) : Prop where
  ne : 0 < d.cells.length
  le : d.cells.length ≤ 64
  lo : 0 ≤ d.at'
  hi : d.at' ≤ n
theorem DOk7.mono {d : Dr} {n m : Nat} (h : DOk7 d n) (hm : n ≤ m) : DOk7 d m := ⟨h.ne, h.le, h.lo, by have := h.hi; omega⟩
theorem DOk.to7 {d : Dr} {n : Nat} (h : DOk d n) : DOk7 d n := ⟨h.ne, h.le, h.lo, h.hi⟩
theorem d_pick (fz : List U) (d : Dr) {n : Nat} (ok : DOk7 d n) (hn : n ≤ 10 ^ 9) (m : Int) (h0 : 0 < m) (h1 : m < 2 ^ 59) : ∃ rest r d', F_pick fz [drU d] [.ref 0 [], .val (.leaf (.int m))] = some (.val (.leaf (.int r)), drU d' :: rest) ∧ DOk7 d' (n + 1) ∧ 0 ≤ r ∧ r < m := by
  obtain ⟨hne, hle, hlo, hhi⟩ := ok
  obtain ⟨cells, at', left, num, dg⟩ := d
  dsimp only at hne hle hlo hhi ⊢
  have key : ∃ r st', F_pick fz [drV cells at' left num dg] [.ref 0 [], .val (.leaf (.int m))] = some (r, st') ∧ ∃ rest r' a l nu b, r = .val (.leaf (.int r')) ∧ st' = drV cells a l nu b :: rest ∧ (0 ≤ a ∧ a ≤ n + 1) ∧ 0 ≤ r' ∧ r' < m := by
    unfold F_pick
    refine of_w rfl ?_
    unfold drV
    have hz : decide ((0 : Int) < (((cells.map intU').length : Nat) : Int)) = true := by rw [List.length_map]; exact decide_eq_true (by omega)
    have hix : ∀ i : Int, ∃ k x, ixU (cells.map intU') (i % (((cells.map intU').length : Nat) : Int)) = some (k, intU' x) := fun i => by
      rw [List.length_map]
      exact ints_at (Int.emod_nonneg _ (by omega)) (Int.emod_lt_of_pos _ (by omega))
    obtain ⟨k, x, hx⟩ := hix (at' + 1)
    walk_at "wgo"
    cases dg with
    | true =>
      walk_at "wgo"
      walk_at "wc"
      · intro _
        walk_at "wgo"
        refine optW_mk hx ?_
        unfold intU'
        walk_at "wgo"
        exact ⟨_, _, _, _, _, _, rfl, rfl, ⟨by omega, by omega⟩, Int.emod_nonneg _ (by omega), Int.emod_lt_of_pos _ h0⟩
      · intro _
        walk_at "wgo"
        exact ⟨_, _, _, _, _, _, rfl, rfl, ⟨by omega, by omega⟩, Int.emod_nonneg _ (by omega), Int.emod_lt_of_pos _ h0⟩
    | false =>
      walk_at "wgo"
      refine optW_mk hx ?_
      generalize hk1 : (2147483647 : Int) = k1
      have hk1' : 0 < k1 := by omega
      have hk1'' : k1 ≤ 2147483647 := by omega
      clear hk1
      generalize hk2 : (2147483629 : Int) = k2
      have hk2' : 0 < k2 := by omega
      clear hk2
      generalize hk3 : (1999999973 : Int) = k3
      have hk3' : 0 < k3 := by omega
      clear hk3
      unfold intU'
      walk_at "wgo"
      have hm0 := Int.emod_nonneg ((x % k2 + (at' + 1) * (at' + 1) * 7919 + 11) * 48271) (show k1 ≠ 0 by omega)
      have hm1 := Int.emod_lt_of_pos ((x % k2 + (at' + 1) * (at' + 1) * 7919 + 11) * 48271) hk1'
      generalize (x % k2 + (at' + 1) * (at' + 1) * 7919 + 11) * 48271 % k1 = q at hm0 hm1 ⊢
      refine need_mk (by
        rw [Bool.or_eq_true]
        left
        unfold small64
        simp
        omega) ?_
      walk_at "wgo"
      exact ⟨_, _, _, _, _, _, rfl, rfl, ⟨by omega, by omega⟩, Int.emod_nonneg _ (by omega), Int.emod_lt_of_pos _ h0⟩
  obtain ⟨_, _, h, rest, r', a, l, nu, b, rfl, rfl, ⟨h1, h2⟩, h3, h4⟩ := key
  exact ⟨rest, r', ⟨cells, a, l, nu, b⟩, h, ⟨hne, hle, h1, by dsimp only; omega⟩, h3, h4⟩
def keys10 : List Str := ["a", "b", "aa", "ab", "m", "mm", "z", "zzzzzzzz", "azzzzzzz", "aaaaaaaa"]
theorem keys10_ok : ∀ z ∈ keys10, IsKey z := by
  unfold IsKey
  decide +kernel
theorem d_key (fz : List U) (d : Dr) {n : Nat} (ok : DOk7 d n) (hn : n ≤ 9 * 10 ^ 8) : ∃ rest k d', F_key fz [drU d] [.ref 0 []] = some (.val (.leaf (.str k)), drU d' :: rest) ∧ DOk7 d' (n + 10) ∧ IsKey k := by
  have key : ∃ r st', F_key fz [drU d] [.ref 0 []] = some (r, st') ∧ ∃ rest k d', r = .val (.leaf (.str k)) ∧ st' = drU d' :: rest ∧ DOk7 d' (n + 10) ∧ IsKey k := by
    obtain ⟨_, r1, d1, p1, k1, l1, u1⟩ := d_pick fz d ok (by omega) 3 (by decide) (by decide)
    replace p1 := Hid.mk p1
    unfold F_key
    refine of_w rfl ?_
    walk_at "wgo"
    refine callW_mk p1.h ?_
    walk_at "wgo"
    walk_at "wc"
    · intro h
      obtain ⟨_, r2, d2, p2, k2, l2, u2⟩ := d_pick fz d1 k1 (by omega) 10 (by decide) (by decide)
      replace p2 := Hid.mk p2
      walk_at "wgo"
      refine callW_mk p2.h ?_
      walk_at "wgo"
      obtain ⟨i, x, h3, h4⟩ := strs_at (l := keys10) l2 u2
      refine optW_mk h3 ?_
      walk_at "wgo"
      exact ⟨_, _, _, rfl, rfl, k2.mono (by omega), keys10_ok x h4⟩
    · intro h
      walk_at "wgo"
      walk_at "wc"
      · intro h2
        obtain ⟨_, r2, d2, p2, k2, l2, u2⟩ := d_pick fz d1 k1 (by omega) 26 (by decide) (by decide)
        replace p2 := Hid.mk p2
        obtain ⟨y, hy3, hy4⟩ := abc_ix l2 u2
        walk_at "wgo"
        refine callW_mk p2.h ?_
        walk_at "wgo"
        refine optW_mk hy3 ?_
        walk_at "wgo"
        obtain ⟨c, rfl, h97, h122⟩ := hy4
        refine optW_mk (x := .str ⟨#[107, c]⟩) rfl ?_
        walk_at "wgo"
        refine ⟨_, _, d2, rfl, rfl, k2.mono (by omega), (by show 0 < 2; omega), (by show 2 ≤ 8; omega), fun z hz => ?_⟩
        have hz : z ∈ [107, c] := hz
        simp only [List.mem_cons, List.not_mem_nil, or_false] at hz
        rcases hz with rfl | rfl <;> omega
      · intro h2
        obtain ⟨_, r2, d2, p2, k2, l2, u2⟩ := d_pick fz d1 k1 (by omega) 8 (by decide) (by decide)
        replace p2 := Hid.mk p2
        walk_at "wgo"
        refine callW_mk p2.h ?_
        walk_at "wgo"
        have hln : (rngSl 0 (1 + r2).toNat).length = (1 + r2).toNat := rng_len _
        refine lcW_run _ (fun i e => ∃ (d3 : Dr) (ys : List Str), e = ⟨1, fz, [drU d3, .node .lst (ys.map fun z => .leaf (.str z))], [.ref 0 [], .no, .no], [.ref 1 [], .val (.leaf (.str ""))]⟩ ∧ DOk7 d3 (n + 2 + i) ∧ ys.length = i ∧ ∀ y ∈ ys, Letter y) ⟨d2, [], rfl, k2.mono (by omega), rfl, fun y h => by cases h⟩ ?_ ?_
        · rintro i x e hx ⟨d3, ys, rfl, k3, hy1, hy2⟩
          have hi := (List.getElem?_eq_some_iff.mp hx).1
          rw [hln] at hi
          obtain ⟨_, rfl⟩ := rng_at hx
          obtain ⟨_, r4, d4, p4, k4, l4, u4⟩ := d_pick fz d3 k3 (by omega) 26 (by decide) (by decide)
          replace p4 := Hid.mk p4
          obtain ⟨y, hy3, hy4⟩ := abc_ix l4 u4
          walk_at "wgo"
          refine callW_mk p4.h ?_
          walk_at "wgo"
          refine optW_mk hy3 ?_
          walk_at "wgo"
          refine ⟨d4, ys ++ [y], by rw [List.map_append]; rfl, k4.mono (by omega), by rw [List.length_append, hy1]; rfl, fun z hz => ?_⟩
          rcases List.mem_append.mp hz with hz | hz
          · exact hy2 z hz
          · rw [List.mem_singleton.mp hz]; exact hy4
        · rintro e ⟨d3, ys, rfl, k3, hy1, hy2⟩
          rw [hln] at hy1 k3
          walk_at "wgo"
          refine optW_mk (lv_strs ys) ?_
          walk_at "wgo"
          have e0 : (Str.ofString "").length = 0 := rfl
          refine need_mk (by rw [sum_letters ys hy2, e0]; omega) ?_
          walk_at "wgo"
          refine ⟨_, _, d3, rfl, rfl, k3.mono (by omega), ?_⟩
          obtain ⟨j1, j2⟩ := join_letters ys hy2
          have e1 : Txt.join ("" : Str) ys = Str.join ⟨#[]⟩ ys := txt_join ys
          show IsKey (Txt.join ("" : Str) ys)
          rw [e1]
          exact ⟨by omega, by omega, j2⟩
  obtain ⟨_, _, h, rest, k, d', rfl, rfl, h2, h3⟩ := key
  exact ⟨rest, k, d', h, h2, h3⟩
end FB
namespace FB
open PySem PySem.Spec PyProof.Rows L2
theorem eqv_sp (a b c d : Str) : PyData.eqv (.tuple [.str a, .str b]) (.tuple [.str c, .str d]) = (decide (a = c) && decide (b = d)) := by
  simp [PyData.eqv, PyData.eqvAll]
  rfl
theorem eqvU_sp {s t : Sp} (hs : SpT s) (ht : SpT t) : eqvU (snU s) (snU t) = some (decide (s = t)) := by
  have k : ∀ x : Sp, SpT x → SeqAt.shaped (.tuple [.str x.1, .str x.2]) = true := fun x hx => by
    unfold SeqAt.shaped
    rw [decide_eq_true (by simp [PyData.depth, PyData.depthAll])]
    simp [PyData.canLay0, PyData.canLayAll0, hx.1, hx.2]
  have d : ∀ x : Sp, (snU x).dat = some (.tuple [.str x.1, .str x.2]) := fun x => by
    simp [U.dat, U.datL]
  unfold eqvU
  rw [d s, d t, Option.bind_some, Option.bind_some, if_pos ⟨k s hs, k t ht⟩, eqv_sp]
  obtain ⟨a, b⟩ := s
  obtain ⟨c, e⟩ := t
  congr 1
  rw [Bool.eq_iff_iff]
  simp
theorem strsU_txt (l : List Str) : strsU (l.map fun z => U.leaf (.str z)) = some l := by
  have h1 : leavesU (l.map fun z => U.leaf (.str z)) = some (l.map V.str) := by
    induction l with
    | nil => rfl
    | cons x r ih => rw [List.map_cons, leavesU, ih]; rfl
  have h2 : strsV (l.map V.str) = some l := by
    clear h1
    induction l with
    | nil => rfl
    | cons x r ih => rw [List.map_cons, strsV, ih]; rfl
  unfold strsU
  rw [h1]
  exact h2
theorem zip_nexts : ∀ bs : List Str, bs.zip (bs.drop 1) = nexts bs
  | [] => rfl
  | [x] => rfl
  | x :: y :: r => by
    have := zip_nexts (y :: r)
    show (x, y) :: (y :: r).zip r = (x, y) :: nexts (y :: r)
    rw [← this]
    rfl
theorem cut_tail {α : Type} (xs : List α) : cutU xs (some 1) none = xs.drop 1 := by
  unfold cutU HT.sIx
  cases xs with
  | nil => rfl
  | cons x r => simp
theorem zip_its (bs : List Str) : zipSl (bs.map fun z => U.leaf (V.str z)) (cutU (bs.map fun z => U.leaf (V.str z)) (some 1) none) = (nexts bs).map fun p => .val (snU p) := by
  rw [cut_tail, ← List.map_drop, zipSl_map, zip_nexts]
theorem sps_sub7 {ys : List Str} (so : ys.Pairwise fun a b => ltS a b = true) (hk : ∀ k ∈ ys, IsKey k) {ss : List Sp} (hs : ss.Sublist (nexts (("" : Str) :: (ys ++ [("" : Str)])))) (hn : ∀ s ∈ ss, s ≠ (("" : Str), ("a" : Str))) : SpsOk ss := by
  have hne : ∀ y ∈ ys, y ≠ ("" : Str) := fun y hy e => by
    have := hk y hy
    rw [e] at this
    exact absurd this.1 (by decide)
  have hall := full_keys hk
  exact ⟨(good_nexts "" ys (List.pairwise_cons.mpr ⟨fun y hy => empty_lt (hne y hy), so⟩) hne).sub hs, fun s h => hall _ (nexts_mem _ s (hs.subset h)).1, fun s h => hall _ (nexts_mem _ s (hs.subset h)).2, hn⟩
theorem d_spans (fz : List U) (d : Dr) {n : Nat} (ok : DOk7 d n) (hn : n ≤ 8 * 10 ^ 8) (m : Int) (h0 : 0 < m) (h1 : m ≤ 20) : ∃ j rest ss d', F_spans fz [drU d] [.ref 0 [], .val (.leaf (.int m))] = some (.ref (j + 1) [], drU d' :: rest) ∧ rest[j]? = some (lsU ss) ∧ DOk7 d' (n + 400) ∧ SpsOk ss ∧ ss.length ≤ 20 := by
  have key : ∃ r st', F_spans fz [drU d] [.ref 0 [], .val (.leaf (.int m))] = some (r, st') ∧ ∃ j rest ss d', r = .ref (j + 1) [] ∧ st' = drU d' :: rest ∧ rest[j]? = some (lsU ss) ∧ DOk7 d' (n + 400) ∧ SpsOk ss ∧ ss.length ≤ 20 := by
    obtain ⟨_, r1, d1, p1, k1, l1, u1⟩ := d_pick fz d ok (by omega) m h0 (by omega)
    replace p1 := Hid.mk p1
    unfold F_spans
    refine of_sem rfl ?_
    refine seqO ?_
    walk_at "wgo"
    refine Hid.mk (seqJ (α := Dr × List Str) (fun x => ⟨1, fz, [drU x.1, .node .lst (x.2.map fun z => .leaf (.str z))], [.ref 0 [], .val (.leaf (.int m)), .ref 1 [], .no, .no, .no, .no, .no, .no], []⟩) (fun x => DOk7 x.1 (n + 300) ∧ x.2.Nodup ∧ x.2.length ≤ 19 ∧ ∀ k ∈ x.2, IsKey k) ?_ ?_)
    · walk_at "wgo"
      refine callW_mk p1.h ?_
      walk_at "wgo"
      refine loopW_run _ (fun i e => ∃ (d3 : Dr) (ys : List Str), e = ⟨1, fz, [drU d3, .node .lst (ys.map fun z => .leaf (.str z))], [.ref 0 [], .val (.leaf (.int m)), .ref 1 [], .no, .no, .no, .no, .no, .no], []⟩ ∧ DOk7 d3 (n + 1 + 10 * i) ∧ ys.Nodup ∧ ys.length ≤ i ∧ ∀ k ∈ ys, IsKey k) ⟨d1, [], rfl, k1, List.nodup_nil, Nat.le_refl _, fun k h => by cases h⟩ ?_ ?_
      · rintro i x e hx ⟨d3, ys, rfl, k3, hy1, hy2, hy3⟩
        obtain ⟨hi, rfl⟩ := rng_at hx
        obtain ⟨_, k, d4, p4, k4, hk4⟩ := d_key fz d3 k3 (by omega)
        replace p4 := Hid.mk p4
        walk_at "wgo"
        refine callW_mk p4.h ?_
        walk_at "wgo"
        refine optW_mk (inU_strs ys) ?_
        cases hc : ys.contains k with
        | true =>
          walk_at "wgo"
          exact ⟨d4, ys, rfl, k4.mono (by omega), hy1, by omega, hy3⟩
        | false =>
          have hn : k ∉ ys := fun h => by
            have := List.contains_iff_mem.mpr h
            rw [this] at hc
            cases hc
          walk_at "wgo"
          refine ⟨d4, ys ++ [k], by rw [List.map_append]; rfl, k4.mono (by omega), nodup_snoc hy1 hn, by rw [List.length_append, List.length_singleton]; omega, fun z hz => ?_⟩
          rcases List.mem_append.mp hz with hz | hz
          · exact hy3 z hz
          · rw [List.mem_singleton.mp hz]; exact hk4
      · rintro e ⟨d3, ys, rfl, k3, hy1, hy2, hy3⟩
        rw [rng_len] at k3 hy2
        walk_at "wgo"
        exact ⟨(d3, ys), rfl, k3.mono (by omega), hy1, by show ys.length ≤ 19; omega, hy3⟩
    rintro ⟨d2, ks⟩ ⟨k2, nd, hl, hks⟩
    dsimp only at k2 nd hl hks ⊢
    refine seqO ?_
    walk_at "wgo"
    refine optW_mk (strsU_txt ks) ?_
    refine need_mk ⟨nd, by omega⟩ ?_
    have hsl : (sortS ks).length ≤ 19 := by rw [(sortS_perm ks).length_eq]; exact hl
    walk_at "wgo"
    rw [show [U.leaf (V.str "")] ++ ((sortS ks).map fun z => U.leaf (V.str z)) ++ [U.leaf (V.str "")] = (("" : Str) :: (sortS ks ++ [("" : Str)])).map fun z => U.leaf (V.str z) by
      rw [List.map_cons, List.map_append]
      rfl]
    have hsk : ∀ k ∈ sortS ks, IsKey k := fun k h => hks k ((sortS_perm ks).mem_iff.mp h)
    have hso := sorted_keys nd
    have hsub := fun (ss : List Sp) h1 h2 => sps_sub7 (ss := ss) hso hsk h1 h2
    have hall := full_keys hsk
    have hbl : (("" : Str) :: (sortS ks ++ [("" : Str)])).length ≤ 21 := by simp; omega
    generalize (("" : Str) :: (sortS ks ++ [("" : Str)])) = bs at hsub hbl hall ⊢
    refine Hid.mk (seqO ?_)
    walk_at "wgo"
    obtain ⟨_, r5, d5, p5, k5, l5, u5⟩ := d_pick fz d2 k2 (by omega) 2 (by decide) (by decide)
    replace p5 := Hid.mk p5
    refine Hid.mk (seqO ?_)
    walk_at "wgo"
    refine callW_mk p5.h ?_
    walk_at "wgo"
    refine Hid.mk (semW ?_)
    walk_at "wgo"
    rw [zip_its]
    have hnl := nexts_len bs
    refine loopW_run _ (fun i e => ∃ (d3 : Dr) (ss : List Sp), e = ⟨1, fz ++ [.node .lst (cutU (bs.map fun z => U.leaf (V.str z)) (some 1) none)] ++ [.node .lst (bs.map fun z => U.leaf (V.str z))], [drU d3, .node .lst (ks.map fun z => U.leaf (V.str z)), .node .lst [.leaf (.str "")], .node .lst ((sortS ks).map fun z => U.leaf (V.str z)), .node .lst ([.leaf (.str "")] ++ (sortS ks).map fun z => U.leaf (V.str z)), .node .lst [.leaf (.str "")], .leaf .non, .node .lst (ss.map snU), .leaf .non], [.ref 0 [], .val (.leaf (.int m)), .fref (fz ++ [U.node .lst (cutU (bs.map fun z => U.leaf (V.str z)) (some 1) none)]).length [], .no, .no, .ref 7 [], .val (.leaf (.bl (decide (r5 = 0)))), .no, .no], []⟩ ∧ DOk7 d3 (n + 301 + i) ∧ ss.Sublist ((nexts bs).take i) ∧ ∀ s ∈ ss, s ≠ (("" : Str), ("a" : Str))) ⟨d5, [], rfl, k5, List.Sublist.refl _, fun s h => by cases h⟩ ?_ ?_
    · rintro i x e hx ⟨d3, ss, rfl, k3, hs, hn⟩
      rw [List.getElem?_map] at hx
      obtain ⟨s, hs2, rfl⟩ := Option.map_eq_some_iff.mp hx
      have hi := (List.getElem?_eq_some_iff.mp hs2).1
      have hsl := hs.length_le
      rw [List.length_take] at hsl
      obtain ⟨_, r6, d6, p6, k6, l6, u6⟩ := d_pick (fz ++ [.node .lst (cutU (bs.map fun z => U.leaf (V.str z)) (some 1) none)] ++ [.node .lst (bs.map fun z => U.leaf (V.str z))]) d3 k3 (by omega) 3 (by decide) (by decide)
      replace p6 := Hid.mk p6
      have hst : ss.Sublist ((nexts bs).take (i + 1)) := by rw [take_succ_at hs2]; exact hs.trans (List.sublist_append_left ..)
      have hmem := nexts_mem bs s (List.mem_of_getElem? hs2)
      have hT : SpT s := ⟨(hall _ hmem.1).ok, (hall _ hmem.2).ok⟩
      walk_at "wgo"
      refine optW_mk (eqvU_sp hT (t := (("" : Str), ("a" : Str))) ⟨by decide +kernel, by decide +kernel⟩) ?_
      by_cases he : s = (("" : Str), ("a" : Str))
      · rw [decide_eq_true he]
        walk_at "wgo"
        exact ⟨d3, ss, rfl, k3.mono (by omega), hst, hn⟩
      · rw [decide_eq_false he]
        have hput : (ss ++ [s]).Sublist ((nexts bs).take (i + 1)) := by rw [take_succ_at hs2]; exact hs.append (List.Sublist.refl _)
        have hn2 : ∀ t ∈ ss ++ [s], t ≠ (("" : Str), ("a" : Str)) := fun t ht => by
          rcases List.mem_append.mp ht with h | h
          · exact hn t h
          · rw [List.mem_singleton.mp h]; exact he
        walk_at "wgo"
        cases hz : decide (r5 = 0) with
        | true =>
          walk_at "wgo"
          exact ⟨d3, ss ++ [s], by rw [List.map_append]; rfl, k3.mono (by omega), hput, hn2⟩
        | false =>
          walk_at "wgo"
          refine callW_mk p6.h ?_
          walk_at "wgo"
          walk_at "wc"
          · intro _
            walk_at "wgo"
            exact ⟨d6, ss ++ [s], by rw [List.map_append]; rfl, k6.mono (by omega), hput, hn2⟩
          · intro _
            walk_at "wgo"
            exact ⟨d6, ss, rfl, k6.mono (by omega), hst, hn⟩
    · rintro e ⟨d3, ss, rfl, k3, hs, hn⟩
      rw [List.length_map] at k3 hs
      rw [List.take_length] at hs
      have hsl := hs.length_le
      walk_at "wgo"
      exact ⟨0, _, ss, d3, rfl, rfl, rfl, k3.mono (by omega), hsub ss hs hn, by omega⟩
  obtain ⟨_, _, h, j, rest, ss, d', rfl, rfl, h2, h3, h4, h5⟩ := key
  exact ⟨j, rest, ss, d', h, h2, h3, h4, h5⟩
end FB
namespace FB
open PySem PySem.Spec PyProof.Rows L2
theorem d_asked (fz : List U) (d : Dr) {n : Nat} (ok : DOk7 d n) (hn : n ≤ 8 * 10 ^ 8) (ss : List Sp) (hs : SpsOk ss) (hl : ss.length ≤ 30) : ∃ j rest, ∃ ks : List Str, ∃ d', F_asked fz [drU d, lsU ss] [.ref 0 [], .ref 1 []] = some (.ref (j + 2) [], drU d' :: lsU ss :: rest) ∧ rest[j]? = some (.node .lst (ks.map fun z => .leaf (.str z))) ∧ DOk7 d' (n + 400) ∧ (ks.length ≤ 100 ∧ 0 < ks.length) ∧ ∀ k ∈ ks, IsKey k := by
  have key : ∃ r st', F_asked fz [drU d, lsU ss] [.ref 0 [], .ref 1 []] = some (r, st') ∧ ∃ j rest, ∃ ks : List Str, ∃ d', r = .ref (j + 2) [] ∧ st' = drU d' :: lsU ss :: rest ∧ rest[j]? = some (.node .lst (ks.map fun z => .leaf (.str z))) ∧ DOk7 d' (n + 400) ∧ (ks.length ≤ 100 ∧ 0 < ks.length) ∧ ∀ k ∈ ks, IsKey k := by
    obtain ⟨_, r1, d1, p1, k1, l1, u1⟩ := d_pick fz d ok (by omega) 6 (by decide) (by decide)
    replace p1 := Hid.mk p1
    unfold F_asked
    refine of_sem rfl ?_
    dsimp only [natK, padK, noK, List.length]
    refine Hid.mk (seqJ (α := Dr × List Str) (fun x => ⟨2, fz, [drU x.1, lsU ss, .node .lst (x.2.map fun z => .leaf (.str z))], [.ref 0 [], .ref 1 [], .ref 2 [], .no, .no, .no, .no], []⟩) (fun x => DOk7 x.1 (n + 100) ∧ (x.2.length ≤ 20 ∧ 0 < x.2.length) ∧ ∀ k ∈ x.2, IsKey k) ?_ ?_) |> Hid.h
    · walk_at "wgo"
      refine callW_mk p1.h ?_
      walk_at "wgo"
      have hln : (rngSl 0 (1 + r1).toNat).length = (1 + r1).toNat := rng_len _
      refine lcW_run _ (fun i e => ∃ (d3 : Dr) (ys : List Str), e = ⟨2, fz, [drU d3, lsU ss, .node .lst (ys.map fun z => .leaf (.str z))], [.ref 0 [], .ref 1 [], .no, .no, .no, .no, .no], [.ref 2 []]⟩ ∧ DOk7 d3 (n + 1 + 10 * i) ∧ ys.length = i ∧ ∀ y ∈ ys, IsKey y) ⟨d1, [], rfl, k1, rfl, fun y h => by cases h⟩ ?_ ?_
      · rintro i x e hx ⟨d3, ys, rfl, k3, hy1, hy2⟩
        have hi := (List.getElem?_eq_some_iff.mp hx).1
        rw [hln] at hi
        obtain ⟨_, rfl⟩ := rng_at hx
        obtain ⟨_, k, d4, p4, k4, hk4⟩ := d_key fz d3 k3 (by omega)
        replace p4 := Hid.mk p4
        walk_at "wgo"
        refine callW_mk p4.h ?_
        walk_at "wgo"
        refine ⟨d4, ys ++ [k], by rw [List.map_append]; rfl, k4.mono (by omega), by rw [List.length_append, hy1]; rfl, fun z hz => ?_⟩
        rcases List.mem_append.mp hz with hz | hz
        · exact hy2 z hz
        · rw [List.mem_singleton.mp hz]; exact hk4
      · rintro e ⟨d3, ys, rfl, k3, hy1, hy2⟩
        rw [hln] at hy1 k3
        walk_at "wgo"
        exact ⟨(d3, ys), rfl, k3.mono (by omega), ⟨by show ys.length ≤ 20; omega, by show 0 < ys.length; omega⟩, hy2⟩
    rintro ⟨d2, ks⟩ ⟨k2, hl2, hks⟩
    dsimp only at k2 hl2 hks ⊢
    refine Hid.mk (semW ?_) |> Hid.h
    walk_at "wgo"
    refine loopW_run _ (fun i e => ∃ ys : List Str, e = ⟨2, fz ++ [lsU ss], [drU d2, .leaf .non, .node .lst (ys.map fun z => .leaf (.str z))], [.ref 0 [], .fref fz.length [], .ref 2 [], .no, .no, .no, .no], []⟩ ∧ (ys.length ≤ 20 + 2 * i ∧ 0 < ys.length) ∧ ∀ y ∈ ys, IsKey y) ⟨ks, rfl, ⟨by omega, hl2.2⟩, hks⟩ ?_ ?_
    · rintro i x e hx ⟨ys, rfl, hy1, hy2⟩
      obtain ⟨s, hs2, rfl⟩ := map_at hx
      have hi := (List.getElem?_eq_some_iff.mp hs2).1
      have hsm := List.mem_of_getElem? hs2
      walk_at "wgo"
      refine lcW_map [s.1, s.2] (fun k => .val (.leaf (.str k))) (fun k => decide (k ≠ "")) (fun k => .leaf (.str k)) 6000 rfl rfl (by show 2 ≤ 6000; omega) ?_ ?_
      · intro us k hk hu
        dsimp only [Env.nl, setLastU]
        walk_at "wgo"
        refine ⟨by by_cases h : k = "" <;> simp [h], fun _ => ?_, fun _ => rfl⟩
        walk_at "wgo"
        rfl
      dsimp only [Env.nl, setLastU]
      walk_at "wgo"
      have hfl : ([s.1, s.2].filter fun k : Str => decide (k ≠ "")).length ≤ 2 := Nat.le_trans (List.length_filter_le ..) (Nat.le_refl 2)
      refine need_mk (by rw [List.length_map, List.length_map]; omega) ?_
      walk_at "wgo"
      refine ⟨ys ++ ([s.1, s.2].filter fun k : Str => decide (k ≠ "")), by rw [List.map_append], ⟨by rw [List.length_append]; omega, by rw [List.length_append]; omega⟩, fun y hy => ?_⟩
      rcases List.mem_append.mp hy with hy | hy
      · exact hy2 y hy
      · obtain ⟨h1, h2⟩ := List.mem_filter.mp hy
        have hne : y ≠ "" := of_decide_eq_true h2
        have : KeyOr y := by
          simp only [List.mem_cons, List.not_mem_nil, or_false] at h1
          rcases h1 with rfl | rfl
          · exact hs.lo s hsm
          · exact hs.hi s hsm
        exact this.resolve_left hne
    · rintro e ⟨ys, rfl, hy1, hy2⟩
      rw [List.length_map, List.length_map] at hy1
      walk_at "wgo"
      exact ⟨0, _, ys, d2, rfl, rfl, rfl, k2.mono (by omega), ⟨by omega, by omega⟩, hy2⟩
  obtain ⟨_, _, h, j, rest, ks, d', rfl, rfl, h2, h3, h4, h5⟩ := key
  exact ⟨j, rest, ks, d', h, h2, h3, h4, h5⟩
/-- whether all keys from u on are kept -/
def akp : Str → List Sp → Bool
  | _, [] => false
  | u, s :: r => if ltS u s.1 = true then false else if s.2 = "" then true else akp (maxS u s.2) r
theorem f_all_kept (fz : List U) (ss : List Sp) : ∃ rest, F_all_kept fz [lsU ss] [.ref 0 []] = some (.val (.leaf (.bl (akp "a" ss))), lsU ss :: rest) := by
  unfold F_all_kept
  refine of_wV rfl ?_
  walk_at "wgo"
  refine loopW_run _ (fun i e => ∃ u : Str, e = ⟨1, fz ++ [lsU ss], [.leaf .non], [.fref fz.length [], .val (.leaf (.str u)), .no, .no], []⟩ ∧ akp u (ss.drop i) = akp "a" ss) ⟨"a", rfl, rfl⟩ ?_ ?_
  · rintro i x e hx ⟨u, rfl, hu⟩
    obtain ⟨s, hs, rfl⟩ := map_at hx
    have hd : ss.drop i = s :: ss.drop (i + 1) := by
      rw [List.drop_eq_getElem_cons (List.getElem?_eq_some_iff.mp hs).1, (List.getElem?_eq_some_iff.mp hs).2]
    rw [hd, akp] at hu
    walk_at "wgo"
    cases h1 : ltS u s.1 with
    | true =>
      rw [if_pos h1] at hu
      rw [← hu]
      walk_at "wgo"
      exact ⟨rfl, _, rfl⟩
    | false =>
      rw [h1, if_neg (by decide)] at hu
      walk_at "wgo"
      by_cases h2 : s.2 = ""
      · rw [if_pos h2] at hu
        rw [← hu, decide_eq_true h2]
        walk_at "wgo"
        exact ⟨rfl, _, rfl⟩
      · rw [if_neg h2] at hu
        rw [decide_eq_false h2]
        walk_at "wgo"
        exact ⟨_, rfl, hu⟩
  · rintro e ⟨u, rfl, hu⟩
    rw [List.length_map, List.length_map, List.drop_length, akp] at hu
    rw [← hu]
    walk_at "wgo"
    exact ⟨rfl, _, rfl⟩
def seenU (ss : List Sp) (ks : List Str) (os : List Sp) : U := .node .lst [.node .lst (ks.map fun k => .leaf (.bl (ownsB ss k))), .leaf (.bl (akp "a" ss)), .node .lst (os.map fun t => .leaf (.bl (clashS ss t)))]
theorem find_owns (ss : List Sp) (k : Str) : (ss.find? (hasK · k)).isSome = ownsB ss k := by
  unfold ownsB
  rw [Bool.eq_iff_iff, List.find?_isSome, List.any_eq_true]
  exact ⟨fun ⟨x, h1, h2⟩ => ⟨x, h1, by rw [← hasK_B]; exact h2⟩, fun ⟨x, h1, h2⟩ => ⟨x, h1, by rw [hasK_B]; exact h2⟩⟩
section
variable {P4 : Addr}
theorem f_seen (fz : List U) (ht : fz.any (isTab P4) = true) (ss os : List Sp) (ks : List Str) (h1 : ks.length ≤ 1000) (h2 : os.length ≤ 1000) : ∃ j rest, F_seen P4 fz [lsU ss, .node .lst (ks.map fun z => .leaf (.str z)), lsU os] [.ref 0 [], .ref 1 [], .ref 2 []] = some (.ref (j + 3) [], lsU ss :: .node .lst (ks.map fun z => .leaf (.str z)) :: lsU os :: rest) ∧ rest[j]? = some (seenU ss ks os) := by
  have key : ∃ r st', F_seen P4 fz [lsU ss, .node .lst (ks.map fun z => .leaf (.str z)), lsU os] [.ref 0 [], .ref 1 [], .ref 2 []] = some (r, st') ∧ ∃ j rest, r = .ref (j + 3) [] ∧ st' = lsU ss :: .node .lst (ks.map fun z => .leaf (.str z)) :: lsU os :: rest ∧ rest[j]? = some (seenU ss ks os) := by
    unfold F_seen
    refine of_sem rfl ?_
    dsimp only [natK, padK, noK, List.length]
    refine seqO ?_
    walk_at "wgo"
    refine lcW_map ks (fun k => .val (.leaf (.str k))) (fun _ => true) (fun k => .leaf (.bl (ownsB ss k))) 6000 rfl (by rw [List.map_map]; rfl) (by omega) ?_ ?_
    · intro us k hk hu
      obtain ⟨_, p1⟩ := f_span_with (fz ++ [.node .lst (ks.map fun z => .leaf (.str z))]) ss k
      replace p1 := Hid.mk p1
      have hf := find_owns ss k
      dsimp only [Env.nl, setLastU]
      walk_at "wgo"
      refine ⟨rfl, fun _ => ?_, fun h => by cases h⟩
      walk_at "wgo"
      refine callW_mk p1.h ?_
      rw [← hf]
      cases ss.find? (hasK · k) with
      | none =>
        walk_at "wgo"
        rfl
      | some z =>
        walk_at "wgo"
        rfl
    dsimp only [Env.nl, setLastU]
    rw [filter_yes]
    walk_at "wgo"
    obtain ⟨_, p2⟩ := f_all_kept fz ss
    replace p2 := Hid.mk p2
    refine Hid.mk (semW ?_)
    walk_at "wgo"
    refine callW_mk p2.h ?_
    walk_at "wgo"
    refine lcW_map os (fun t => .val (snU t)) (fun _ => true) (fun t => .leaf (.bl (clashS ss t))) 6000 rfl (map_val _ _) (by omega) ?_ ?_
    · intro us t ht2 hu
      obtain ⟨_, p3⟩ := g_clashes (P4 := P4) (fz ++ [lsU os]) ss t (by rw [List.any_append, ht]; rfl)
      replace p3 := Hid.mk p3
      dsimp only [Env.nl, setLastU]
      walk_at "wgo"
      refine ⟨rfl, fun _ => ?_, fun h => by cases h⟩
      walk_at "wgo"
      refine callW_mk p3.h ?_
      walk_at "wgo"
      rfl
    dsimp only [Env.nl, setLastU]
    rw [filter_yes]
    walk_at "wgo"
    exact ⟨2, _, rfl, rfl, rfl⟩
  obtain ⟨_, _, h, j, rest, rfl, rfl, h2⟩ := key
  exact ⟨j, rest, h, h2⟩
theorem f_seenF (fz : List U) (ht : fz.any (isTab P4) = true) (ss os : List Sp) (ks : List Str) {m : Nat} (hm : ∀ gs, look1 (fz ++ gs) m [] = some (.node .lst (ks.map fun z => .leaf (.str z)))) (h1 : ks.length ≤ 1000) (h2 : os.length ≤ 1000) : ∃ j rest, F_seen P4 fz [lsU ss, lsU os] [.ref 0 [], .fref m [], .ref 1 []] = some (.ref (j + 2) [], lsU ss :: lsU os :: rest) ∧ rest[j]? = some (seenU ss ks os) := by
  have key : ∃ r st', F_seen P4 fz [lsU ss, lsU os] [.ref 0 [], .fref m [], .ref 1 []] = some (r, st') ∧ ∃ j rest, r = .ref (j + 2) [] ∧ st' = lsU ss :: lsU os :: rest ∧ rest[j]? = some (seenU ss ks os) := by
    unfold F_seen
    refine of_sem rfl ?_
    dsimp only [natK, padK, noK, List.length]
    refine seqO ?_
    have hm0 : look1 fz m [] = some (.node .lst (ks.map fun z => .leaf (.str z))) := by
      have := hm []
      rw [List.append_nil] at this
      exact this
    have hne : ¬ m = fz.length := fun e => by
      unfold look1 at hm0
      obtain ⟨u, h1, _⟩ := Option.bind_eq_some_iff.mp hm0
      have := (List.getElem?_eq_some_iff.mp h1).1
      omega
    walk_at "wgo"
    refine optW_mk hm0 ?_
    walk_at "wgo"
    refine lcW_map ks (fun k => .val (.leaf (.str k))) (fun _ => true) (fun k => .leaf (.bl (ownsB ss k))) 6000 rfl (by rw [List.map_map]; rfl) (by omega) ?_ ?_
    · intro us k hk hu
      obtain ⟨_, p1⟩ := f_span_with fz ss k
      replace p1 := Hid.mk p1
      have hf := find_owns ss k
      dsimp only [Env.nl, setLastU]
      walk_at "wgo"
      refine ⟨rfl, fun _ => ?_, fun h => by cases h⟩
      walk_at "wgo"
      refine callW_mk p1.h ?_
      rw [← hf]
      cases ss.find? (hasK · k) with
      | none =>
        walk_at "wgo"
        rfl
      | some z =>
        walk_at "wgo"
        rfl
    dsimp only [Env.nl, setLastU]
    rw [filter_yes]
    walk_at "wgo"
    obtain ⟨_, p2⟩ := f_all_kept fz ss
    replace p2 := Hid.mk p2
    refine Hid.mk (semW ?_)
    walk_at "wgo"
    refine callW_mk p2.h ?_
    walk_at "wgo"
    refine lcW_map os (fun t => .val (snU t)) (fun _ => true) (fun t => .leaf (.bl (clashS ss t))) 6000 rfl (map_val _ _) (by omega) ?_ ?_
    · intro us t ht2 hu
      obtain ⟨_, p3⟩ := g_clashes (P4 := P4) (fz ++ [lsU os]) ss t (by rw [List.any_append, ht]; rfl)
      replace p3 := Hid.mk p3
      dsimp only [Env.nl, setLastU]
      walk_at "wgo"
      refine ⟨rfl, fun _ => ?_, fun h => by cases h⟩
      walk_at "wgo"
      refine callW_mk p3.h ?_
      walk_at "wgo"
      rfl
    dsimp only [Env.nl, setLastU]
    rw [filter_yes]
    walk_at "wgo"
    rw [if_neg hne]
    walk_at "wgo"
    exact ⟨2, _, rfl, rfl, rfl⟩
  obtain ⟨_, _, h, j, rest, rfl, rfl, h2⟩ := key
  exact ⟨j, rest, h, h2⟩
end
def leastK (s : Sp) : Str := if s.1 = "" then "a" else s.1
theorem f_least (fz : List U) (s : Sp) : ∃ st', F_least fz [] [.val (snU s)] = some (.val (.leaf (.str (leastK s))), st') := by
  unfold F_least leastK
  refine of_wP rfl ?_
  walk_at "wgo"
  by_cases h : s.1 = ""
  · rw [decide_eq_true h, if_pos h]
    refine optW_mk (ixU_some (n := 1) rfl rfl) ?_
    walk_at "wgo"
  · rw [decide_eq_false h, if_neg h]
    refine optW_mk (ixU_some (n := 0) rfl rfl) ?_
    walk_at "wgo"
def fineS (ss : List Sp) : Bool := ((ss.zip (ss.drop 1)).all fun p => !(decide (p.1.2 = "") || ltS p.2.1 p.1.2)) && ss.all fun s => decide (s.2 = "") || ltS (leastK s) s.2
theorem f_fine (fz : List U) (ss : List Sp) (hl : ss.length ≤ 1000) (hf : fineS ss = true) : ∃ rest, F_fine fz [lsU ss] [.ref 0 []] = some (.val (.leaf (.bl true)), lsU ss :: rest) := by
  unfold F_fine
  unfold fineS at hf
  rw [Bool.and_eq_true, List.all_eq_true, List.all_eq_true] at hf
  obtain ⟨hf1, hf2⟩ := hf
  refine of_wV rfl ?_
  walk_at "wgo"
  rw [show zipSl (ss.map snU) (cutU (ss.map snU) (some 1) none) = (ss.zip (ss.drop 1)).map fun p => .val (.node .tup [snU p.1, snU p.2]) by rw [cut_tail, ← List.map_drop, zipSl_map]]
  refine loopW_run _ (fun _ e => e = ⟨1, fz ++ [.node .lst (cutU (ss.map snU) (some 1) none)] ++ [lsU ss], [.leaf .non, .leaf .non], [.fref (fz ++ [U.node .lst (cutU (ss.map snU) (some 1) none)]).length [], .no, .no, .no], []⟩) rfl ?_ ?_
  · rintro i x e hx rfl
    rw [List.getElem?_map] at hx
    obtain ⟨p, hp, rfl⟩ := Option.map_eq_some_iff.mp hx
    have h1 := hf1 p (List.mem_of_getElem? hp)
    rw [Bool.not_eq_true', Bool.or_eq_false_iff] at h1
    obtain ⟨h1, h2⟩ := h1
    walk_at "wgo"
  · rintro e rfl
    walk_at "wgo"
    refine lcW_map ss (fun t => .val (snU t)) (fun _ => true) (fun _ => .leaf (.bl true)) 6000 rfl (map_val _ _) (by omega) ?_ ?_
    · intro us t ht2 hu
      obtain ⟨_, p3⟩ := f_least (fz ++ [lsU ss]) t
      replace p3 := Hid.mk p3
      have h2 := hf2 t ht2
      dsimp only [Env.nl, setLastU]
      walk_at "wgo"
      refine ⟨rfl, fun _ => ?_, fun h => by cases h⟩
      walk_at "wgo"
      cases h3 : decide (t.2 = "") with
      | true =>
        walk_at "wgo"
        rfl
      | false =>
        rw [h3, Bool.false_or] at h2
        walk_at "wgo"
        refine callW_mk p3.h ?_
        walk_at "wgo"
        rw [h2]
        rfl
    dsimp only [Env.nl, setLastU]
    rw [filter_yes]
    walk_at "wgo"
    refine optW_mk (lv_true ss) ?_
    walk_at "wgo"
    rw [all_true]
    exact ⟨rfl, _, rfl⟩
end FB
namespace FB
open PySem PySem.Spec PyProof.Rows L2
theorem hasB_mk {l h k : Str} (h1 : ltS k l = false) (h2 : h = "" ∨ ltS k h = true) : hasB l h k = true := by
  unfold hasB
  rw [h1]
  rcases h2 with rfl | h2
  · simp
  · rw [h2]; simp
theorem max_key {a b : Str} (ha : IsKey a) (hb : IsKey b) : IsKey (maxS a b) := by
  unfold maxS
  split
  · exact hb
  · exact ha
theorem max_ge {a b x : Str} : ltS x (maxS a b) = false ↔ ltS x a = false ∧ ltS x b = false := by
  unfold maxS
  by_cases h : ltS a b = true
  · rw [if_pos h]
    refine ⟨fun h2 => ⟨?_, h2⟩, fun h2 => h2.2⟩
    cases e : ltS x a with
    | false => rfl
    | true => rw [ltS_trans e h] at h2; cases h2
  · rw [if_neg h]
    have h : ltS a b = false := by simpa using h
    refine ⟨fun h2 => ⟨h2, ?_⟩, fun h2 => h2.1⟩
    exact nlt_trans h h2
theorem akp_iff : ∀ (ss : List Sp) (u : Str), SpsOk ss → IsKey u → (akp u ss = true ↔ ∀ x, IsKey x → ltS x u = false → ownsB ss x = true)
  | [], u, _, hu => ⟨fun h => (by cases h), fun h => absurd (h u hu (ltS_irrefl u)) (by intro h; cases h)⟩
  | s :: r, u, hs, hu => by
    have hr : SpsOk r := hs.sub (List.sublist_cons_self s r)
    have hhi := hs.hi s List.mem_cons_self
    rw [akp]
    by_cases h1 : ltS u s.1 = true
    · rw [if_pos h1]
      refine ⟨fun h => (by cases h), fun h => ?_⟩
      have h2 := h u hu (ltS_irrefl u)
      have hlows := hs.good.lows
      rw [List.pairwise_cons] at hlows
      rw [ownsB, List.any_eq_true] at h2
      obtain ⟨z, hz, h3⟩ := h2
      have h4 := (has_inv h3).1
      rcases List.mem_cons.mp hz with rfl | hz
      · rw [h1] at h4; cases h4
      · have := hlows.1 z hz
        rw [ltS_trans h1 this] at h4
        cases h4
    · rw [if_neg h1]
      have h1 : ltS u s.1 = false := by simpa using h1
      by_cases h2 : s.2 = ""
      · rw [if_pos h2]
        refine ⟨fun _ x hx hu2 => ?_, fun _ => rfl⟩
        rw [owns_cons, hasB_mk (nlt_trans h1 hu2) (.inl h2)]
        rfl
      · rw [if_neg h2]
        have hk2 : IsKey s.2 := hhi.resolve_left h2
        rw [akp_iff r (maxS u s.2) hr (max_key hu hk2)]
        constructor
        · intro h x hx hu2
          rw [owns_cons]
          cases e : ltS x s.2 with
          | true => rw [hasB_mk (nlt_trans h1 hu2) (.inr e)]; rfl
          | false => rw [h x hx (max_ge.mpr ⟨hu2, e⟩), Bool.or_true]
        · intro h x hx hm
          obtain ⟨m1, m2⟩ := max_ge.mp hm
          have h3 := h x hx m1
          rw [owns_cons] at h3
          cases e : hasB s.1 s.2 x with
          | false => rw [e, Bool.false_or] at h3; exact h3
          | true =>
            rcases (has_inv e).2 with h4 | h4
            · exact absurd h4 h2
            · rw [h4] at m2; cases m2
theorem spanOk {ss : List Sp} (h : SpsOk ss) {s : Sp} (hs : s ∈ ss) : SpanOk s := span_ok (h.lo s hs) (h.hi s hs) (h.na s hs) (h.good.up s hs)
theorem share_B (p q : Sp) : shareS p q = shareB p q := by
  unfold shareS shareB
  rw [hasK_B, hasK_B]
theorem clash_iff {ss : List Sp} (h : SpsOk ss) {t : Sp} (ht : SpanOk t) : clashS ss t = true ↔ ∃ x, IsKey x ∧ ownsB ss x = true ∧ hasB t.1 t.2 x = true := by
  unfold clashS
  rw [List.any_eq_true]
  constructor
  · rintro ⟨s, hs, h1⟩
    rw [share_B] at h1
    unfold shareB at h1
    rw [Bool.and_eq_true] at h1
    have so := spanOk h hs
    refine ⟨_, ?_, ?_, h1.2⟩
    · rw [max_least so.lo ht.lo]
      exact max_key (least_key so.lo) (least_key ht.lo)
    · unfold ownsB
      rw [List.any_eq_true]
      exact ⟨s, hs, h1.1⟩
  · rintro ⟨x, hx, h1, h2⟩
    unfold ownsB at h1
    rw [List.any_eq_true] at h1
    obtain ⟨s, hs, h3⟩ := h1
    exact ⟨s, hs, by rw [share_B]; exact share_of_key (spanOk h hs) ht hx h3 h2⟩
/-- two rows of spans own the same -/
def SameOwn (a b : List Sp) : Prop := ∀ x, IsKey x → ownsB a x = ownsB b x
theorem seen_same {a b : List Sp} (ha : SpsOk a) (hb : SpsOk b) (h : SameOwn a b) {ks : List Str} (hk : ∀ k ∈ ks, IsKey k) {os : List Sp} (ho : SpsOk os) : seenU a ks os = seenU b ks os := by
  have h1 : ks.map (fun k => U.leaf (.bl (ownsB a k))) = ks.map fun k => U.leaf (.bl (ownsB b k)) := List.map_congr_left fun k hk2 => by rw [h k (hk k hk2)]
  have h2 : akp "a" a = akp "a" b := by
    rw [Bool.eq_iff_iff, akp_iff a "a" ha a_key, akp_iff b "a" hb a_key]
    exact ⟨fun g x hx hu => by rw [← h x hx]; exact g x hx hu, fun g x hx hu => by rw [h x hx]; exact g x hx hu⟩
  have h3 : os.map (fun t => U.leaf (.bl (clashS a t))) = os.map fun t => U.leaf (.bl (clashS b t)) := List.map_congr_left fun t ht => by
    have : clashS a t = clashS b t := by
      rw [Bool.eq_iff_iff, clash_iff ha (spanOk ho ht), clash_iff hb (spanOk ho ht)]
      exact ⟨fun ⟨x, h4, h5, h6⟩ => ⟨x, h4, by rw [← h x h4]; exact h5, h6⟩, fun ⟨x, h4, h5, h6⟩ => ⟨x, h4, by rw [h x h4]; exact h5, h6⟩⟩
    rw [this]
  unfold seenU
  rw [h1, h2, h3]
theorem fine_ok {ss : List Sp} (h : SpsOk ss) : fineS ss = true := by
  unfold fineS
  rw [Bool.and_eq_true, List.all_eq_true, List.all_eq_true]
  refine ⟨fun p hp => ?_, fun s hs => ?_⟩
  · obtain ⟨i, hi⟩ := List.mem_iff_getElem?.mp hp
    rw [List.getElem?_zip_eq_some, List.getElem?_drop] at hi
    have hpw := h.good.pw
    rw [List.pairwise_iff_getElem] at hpw
    obtain ⟨a1, a2⟩ := List.getElem?_eq_some_iff.mp hi.1
    obtain ⟨b1, b2⟩ := List.getElem?_eq_some_iff.mp hi.2
    have := hpw i (1 + i) a1 b1 (by omega)
    rw [a2, b2] at this
    rw [Bool.not_eq_true', Bool.or_eq_false_iff]
    exact ⟨decide_eq_false this.1, this.2⟩
  · have so := (spanOk h hs).own
    rcases (has_inv so).2 with h1 | h1
    · rw [decide_eq_true h1, Bool.true_or]
    · rw [show leastK s = leastS s.1 from rfl, h1, Bool.or_true]
theorem join_none {k : Str} : ∀ (L acc : List Sp), (∀ e ∈ acc ++ L, ∀ b ∈ L, ¬(e.2 = k ∧ b.1 = k)) → L.foldl (joinS k) acc = acc ++ L
  | [], acc, _ => (List.append_nil acc).symm
  | s :: r, acc, h => by
    have e1 : joinS k acc s = acc ++ [s] := by
      unfold joinS
      split
      · rename_i l hl
        rw [if_neg (h l (List.mem_append_left _ (List.mem_of_getLast? hl)) s List.mem_cons_self)]
      · rfl
    rw [List.foldl_cons, e1, join_none r (acc ++ [s]) fun e he b hb => h e (by simpa using he) b (List.mem_cons_of_mem _ hb), List.append_assoc]
    rfl
theorem cut_step {S : List Sp} (h : SpsOk S) {k : Str} (hk : IsKey k) : cutAt S k = S ∨ (SpsOk (cutAt S k) ∧ SameOwn (cutAt S k) S ∧ joinAt (cutAt S k) k = S ∧ (cutAt S k).length = S.length + 1 ∧ k ∈ (cutAt S k).map (·.1)) := by
  have hne := hk.ne
  by_cases hc : ∃ z ∈ S, canB z.1 z.2 k = true
  · right
    obtain ⟨z, hz, hc⟩ := hc
    obtain ⟨A, B, rfl⟩ := List.append_of_mem hz
    have e1 : cutAt (A ++ z :: B) k = A ++ (z.1, k) :: (k, z.2) :: B := by rw [cutAt_L, cut_at_one h.good hc]
    have lk := can_low (h.lo z hz) hc
    have hh := (has_inv (can_has hc)).2
    have g2 := h.good.cut hne (h.lo z hz) hc
    rw [e1]
    refine ⟨⟨g2, fun s hs => ?_, fun s hs => ?_, fun s hs => ?_⟩, fun x hx => ?_, ?_, ?_, ?_⟩
    · rcases List.mem_append.mp hs with m | m
      · exact h.lo s (by simp [m])
      · rcases List.mem_cons.mp m with rfl | m
        · exact h.lo z hz
        · rcases List.mem_cons.mp m with rfl | m
          · exact .inr hk
          · exact h.lo s (by simp [m])
    · rcases List.mem_append.mp hs with m | m
      · exact h.hi s (by simp [m])
      · rcases List.mem_cons.mp m with rfl | m
        · exact .inr hk
        · rcases List.mem_cons.mp m with rfl | m
          · exact h.hi z hz
          · exact h.hi s (by simp [m])
    · rcases List.mem_append.mp hs with m | m
      · exact h.na s (by simp [m])
      · rcases List.mem_cons.mp m with rfl | m
        · intro e
          have ek : k = "a" := (Prod.mk.inj e).2
          have e1 : z.1 = "" := (Prod.mk.inj e).1
          unfold canB at hc
          obtain ⟨_, h2⟩ := Bool.and_eq_true_iff.mp hc
          rw [max_a (h.lo z hz), ek] at h2
          unfold leastS at h2
          rw [if_pos e1, ltS_irrefl] at h2
          cases h2
        · rcases List.mem_cons.mp m with rfl | m
          · intro e
            exact hne (Prod.mk.inj e).1
          · exact h.na s (by simp [m])
    · rw [owns_append, owns_cons, owns_cons, owns_append, owns_cons, own_cut (z := z) lk hne hh]
      simp only [Bool.or_assoc]
    · rw [joinAt_L, join_at_one g2 hne rfl rfl]
    · simp
      omega
    · simp
  · left
    rw [cutAt_L]
    refine cutL_id fun z hz => ?_
    cases e : canB z.1 z.2 k with
    | false => rfl
    | true => exact absurd ⟨z, hz, e⟩ hc
theorem join_step {S : List Sp} (h : SpsOk S) {k : Str} (hk : IsKey k) : SpsOk (joinAt S k) ∧ SameOwn (joinAt S k) S := by
  have hne := hk.ne
  by_cases hc : ∃ e ∈ S, ∃ b ∈ S, e.2 = k ∧ b.1 = k
  · obtain ⟨e, he, b, hb, e2, b1⟩ := hc
    obtain ⟨A, B, rfl⟩ := join_parts h.good hne he hb e2 b1
    rw [joinAt_L, join_at_one h.good hne e2 b1]
    have hbu := h.good.up b hb
    have heu := h.good.up e he
    have ek : ltS e.1 k = true := by
      rcases heu with q | q
      · exact absurd (e2.symm.trans q) hne
      · rw [← e2]; exact q
    have bk : b.2 = "" ∨ ltS k b.2 = true := by rw [← b1]; exact hbu
    refine ⟨⟨h.good.join hne e2 b1, fun s hs => ?_, fun s hs => ?_, fun s hs => ?_⟩, fun x hx => ?_⟩
    · rcases List.mem_append.mp hs with m | m
      · exact h.lo s (by simp [m])
      · rcases List.mem_cons.mp m with rfl | m
        · exact h.lo e he
        · exact h.lo s (by simp [m])
    · rcases List.mem_append.mp hs with m | m
      · exact h.hi s (by simp [m])
      · rcases List.mem_cons.mp m with rfl | m
        · exact h.hi b hb
        · exact h.hi s (by simp [m])
    · rcases List.mem_append.mp hs with m | m
      · exact h.na s (by simp [m])
      · rcases List.mem_cons.mp m with rfl | m
        · intro q
          have q2 : b.2 = "a" := (Prod.mk.inj q).2
          rcases bk with r | r
          · rw [q2] at r; exact absurd r (by decide)
          · rw [q2, key_ge_a hk] at r; cases r
        · exact h.na s (by simp [m])
    · rw [owns_append, owns_cons, owns_append, owns_cons, owns_cons, own_cut (z := (e.1, b.2)) (k := k) ek hne bk]
      dsimp only
      rw [show hasB e.1 e.2 x = hasB e.1 k x by rw [e2], show hasB b.1 b.2 x = hasB k b.2 x by rw [b1]]
      simp only [Bool.or_assoc]
  · have e1 : joinAt S k = S := join_none S [] fun e he b hb hh => hc ⟨e, by simpa using he, b, hb, hh⟩
    rw [e1]
    exact ⟨h, fun _ _ => rfl⟩
/-- what was cut, one cut behind the other -/
inductive Hist (S : List Sp) : List Str → List Sp → Prop where
  | nil : Hist S [] S
  | snoc {c : List Str} {p : List Sp} {k : Str} : Hist S c p → IsKey k → SpsOk p → SameOwn p S → joinAt (cutAt p k) k = p → Hist S (c ++ [k]) (cutAt p k)
theorem Hist.back {S now : List Sp} {c : List Str} {k : Str} (h : Hist S (c ++ [k]) now) : ∃ p, Hist S c p ∧ IsKey k ∧ SpsOk p ∧ SameOwn p S ∧ joinAt now k = p := by
  generalize hc : c ++ [k] = d at h
  cases h with
  | nil => exact absurd hc (by simp)
  | snoc h1 h2 h3 h4 h5 =>
    obtain ⟨rfl, rfl⟩ := List.append_inj' hc rfl |>.imp id fun e => (List.cons.inj e).1
    exact ⟨_, h1, h2, h3, h4, h5⟩
theorem Hist.zero {S now : List Sp} (h : Hist S [] now) : now = S := by
  generalize hc : ([] : List Str) = d at h
  cases h with
  | nil => rfl
  | snoc h1 => exact absurd hc (by simp)
theorem eqvU_ls {a b : List Sp} (ha : ∀ s ∈ a, SpT s) (hb : ∀ s ∈ b, SpT s) : eqvU (lsU a) (lsU b) = some (decide (a = b)) := by
  have d : ∀ l : List Sp, (lsU l).dat = some (.list (l.map fun s => PyData.tuple [.str s.1, .str s.2])) := fun l => by
    have : ∀ l : List Sp, U.datL (l.map snU) = some (l.map fun s => PyData.tuple [.str s.1, .str s.2]) := by
      intro l
      induction l with
      | nil => rw [List.map_nil, U.datL]; rfl
      | cons s r ih => rw [List.map_cons, U.datL, ih]; simp [U.dat, U.datL]
    rw [U.dat, this]
    rfl
  have k : ∀ l : List Sp, (∀ s ∈ l, SpT s) → SeqAt.shaped (.list (l.map fun s => PyData.tuple [.str s.1, .str s.2])) = true := fun l hl => by
    obtain ⟨x, h1, h2, h3⟩ : Dat 3 (lsU l) := dat_lst (k := 2) (datL_map fun s hs => dat_tup (k := 1) (datL_cons (dat_str (hl s hs).1) (datL_cons (dat_str (hl s hs).2) datL_nil)))
    rw [d l] at h1
    obtain rfl := Option.some.inj h1
    unfold SeqAt.shaped
    rw [h2, decide_eq_true (by omega)]
    rfl
  have e : ∀ a b : List Sp, PyData.eqvAll (a.map fun s => PyData.tuple [.str s.1, .str s.2]) (b.map fun s => PyData.tuple [.str s.1, .str s.2]) = decide (a = b) := by
    intro a
    induction a with
    | nil =>
      intro b
      cases b with
      | nil => simp [PyData.eqvAll]
      | cons s r => simp [PyData.eqvAll]
    | cons s r ih =>
      intro b
      cases b with
      | nil => simp [PyData.eqvAll]
      | cons t q =>
        rw [List.map_cons, List.map_cons, PyData.eqvAll, eqv_sp, ih]
        obtain ⟨s1, s2⟩ := s
        obtain ⟨t1, t2⟩ := t
        rw [Bool.eq_iff_iff]
        simp
  unfold eqvU
  rw [d a, d b, Option.bind_some, Option.bind_some, if_pos ⟨k a ha, k b hb⟩, PyData.eqv, e]
end FB
namespace FB
open PySem PySem.Spec PyProof.Rows L2
structure Tab1 (fz : List U) (P4 : Addr) : Prop where
  h : fz.any (isTab P4) = true
abbrev ksU (ks : List Str) : U := .node .lst (ks.map fun z => .leaf (.str z))
theorem dat_seen (S : List Sp) (ks : List Str) (os : List Sp) : Dat 5 (seenU S ks os) := dat_lst (k := 4) (datL_cons (dat_lst (k := 3) (datL_map fun k _ => dat_bl _)) (datL_cons (dat_bl _) (datL_cons (dat_lst (k := 3) (datL_map fun k _ => dat_bl _)) datL_nil)))
theorem fst_map (ss : List Sp) : ss.map (fun s => U.leaf (V.str s.1)) = (ss.map (·.1)).map fun z => U.leaf (V.str z) := by
  rw [List.map_map]
  rfl
section
variable {P4 : Addr}
theorem law_turn11 (fz : List U) (ht : fz.any (isTab P4) = true) {S now os : List Sp} {ks c : List Str} {k : Str} (d4 : Dr) (hos : SpsOk os) (hks : ∀ k ∈ ks, IsKey k) (hk : IsKey k) (hkl : ks.length ≤ 1000) (hol : os.length ≤ 1000) (hS : SpsOk S) (hh : Hist S c now) (hn : SpsOk now) (ho : SameOwn now S) (hl : now.length ≤ 500) (hcl : c.length ≤ 500) (K : Out → Prop)
    (hK : ∀ c' now', Hist S c' now' → SpsOk now' → SameOwn now' S → now'.length ≤ now.length + 1 → c'.length ≤ c.length + 1 → K (.nx ⟨0, fz ++ [ksU ks], [drU d4, lsU S, .leaf .non, lsU os, seenU S ks os, ksU c', lsU now'], [.fref 0 [], .no, .ref 1 [], .fref fz.length [], .ref 3 [], .ref 4 [], .ref 6 [], .ref 5 [], .no, .no, .no, .no, .no], []⟩)) :
    SemW (L1_law P4) ⟨0, fz ++ [ksU ks], [drU d4, lsU S, .leaf .non, lsU os, seenU S ks os, ksU c, lsU now], [.fref 0 [], .no, .ref 1 [], .fref fz.length [], .ref 3 [], .ref 4 [], .ref 6 [], .ref 5 [], .val (.leaf (.str k)), .no, .no, .no, .no], []⟩ K := by
  obtain ⟨j1, r1, p1, q1⟩ := f_cut_at (fz ++ [ksU ks]) now k (by omega)
  replace p1 := Hid.mk p1
  have hst := cut_step hn hk
  have hz0 : ¬ (0 = (fz ++ [ksU ks]).length) := by simp
  refine semClean (seqO ?_)
  walk_at "wgo"
  refine callW_mk p1.h ?_
  walk_at "wgo"
  refine optW_mk (by rw [nth_eq]; exact q1) ?_
  walk_at "wgo"
  refine Hid.mk (seqJ (α := List Str) (fun c' => ⟨0, fz ++ [ksU ks], [drU d4, lsU S, .leaf .non, lsU os, seenU S ks os, ksU c', lsU (cutAt now k)], [.fref 0 [], .no, .ref 1 [], .fref fz.length [], .ref 3 [], .ref 4 [], .no, .ref 5 [], .no, .ref 6 [], .no, .no, .no], []⟩) (fun c' => Hist S c' (cutAt now k) ∧ SpsOk (cutAt now k) ∧ SameOwn (cutAt now k) S ∧ (cutAt now k).length ≤ now.length + 1 ∧ c'.length ≤ c.length + 1) ?_ ?_)
  · walk_at "wgo"
    rcases hst with he | ⟨s1, s2, s3, s4, s5⟩
    · rw [he]
      refine optW_mk (eqvU_ls hn.spt hn.spt) ?_
      rw [decide_eq_true rfl]
      walk_at "wgo"
      exact ⟨c, rfl, hh, hn, ho, by omega, by omega⟩
    · refine optW_mk (eqvU_ls s1.spt hn.spt) ?_
      rw [decide_eq_false fun e => by rw [e] at s4; omega]
      have hlen : (cutAt now k).length ≤ 1000 := by omega
      walk_at "wgo"
      refine lcW_map (cutAt now k) (fun s => .val (snU s)) (fun _ => true) (fun s => .leaf (.str s.1)) 6000 rfl (map_val _ _) (by omega) ?_ ?_
      · intro us t ht2 hu
        dsimp only [Env.nl, setLastU]
        walk_at "wgo"
        refine ⟨rfl, fun _ => ?_, fun h => by cases h⟩
        walk_at "wgo"
        rfl
      dsimp only [Env.nl, setLastU]
      rw [filter_yes, fst_map]
      walk_at "wgo"
      rw [if_neg hz0]
      refine optW_mk (inU_strs ((cutAt now k).map (·.1))) ?_
      rw [show ((cutAt now k).map (·.1)).contains k = true by simpa using s5]
      walk_at "wgo"
      rw [List.length_map, List.length_map, show (!decide (((cutAt now k).length : Int) = (now.length : Int) + 1)) = false by rw [s4]; simp]
      walk_at "wgo"
      exact ⟨c ++ [k], by rw [show ksU (c ++ [k]) = .node .lst ((c.map fun z => U.leaf (V.str z)) ++ [U.leaf (V.str k)]) by unfold ksU; rw [List.map_append]; rfl], Hist.snoc hh hk hn ho s3, s1, (fun x hx => (s2 x hx).trans (ho x hx)), by omega, by rw [List.length_append, List.length_singleton]; omega⟩
  rintro c' ⟨a1, a2, a3, a4, a5⟩
  obtain ⟨_, p3⟩ := f_fine (fz ++ [ksU ks]) (cutAt now k) (by omega) (fine_ok a2)
  replace p3 := Hid.mk p3
  obtain ⟨j4, r4, p4, q4⟩ := f_seenF (P4 := P4) (fz ++ [ksU ks]) (by rw [List.any_append, ht]; rfl) (cutAt now k) os ks (m := fz.length) (fun gs => by
    rw [List.append_assoc]
    unfold look1
    rw [List.getElem?_append_right (Nat.le_refl _), Nat.sub_self]
    rfl) hkl hol
  rw [seen_same a2 hS a3 hks hos] at q4
  replace p4 := Hid.mk p4
  have hq := eqvU_self (dat_seen S ks os) (by decide)
  have fin := hK c' (cutAt now k) a1 a2 a3 a4 a5
  refine seqO ?_
  walk_at "wgo"
  refine Hid.mk (semW ?_)
  walk_at "wgo"
  refine callW_mk p3.h ?_
  walk_at "wgo"
  refine callW_mk p4.h ?_
  walk_at "wgo"
  refine optW_mk (by rw [nth_eq]; exact q4) ?_
  walk_at "wgo"
  refine optW_mk hq ?_
  walk_at "wgo"
  exact fin
theorem law_turn10 (fz : List U) (ht : fz.any (isTab P4) = true) {S os : List Sp} {ks c : List Str} {k : Str} (d4 : Dr) (hos : SpsOk os) (hks : ∀ k ∈ ks, IsKey k) (hk : IsKey k) (hkl : ks.length ≤ 1000) (hol : os.length ≤ 1000) (hS : SpsOk S) (hh : Hist S c S) (hn : SpsOk S) (ho : SameOwn S S) (hl : S.length ≤ 500) (hcl : c.length ≤ 500) (K : Out → Prop)
    (hK : ∀ c' now', Hist S c' now' → SpsOk now' → SameOwn now' S → now'.length ≤ S.length + 1 → c'.length ≤ c.length + 1 → K (.nx ⟨0, fz ++ [ksU ks], [drU d4, lsU S, .leaf .non, lsU os, seenU S ks os, ksU c', lsU now'], [.fref 0 [], .no, .ref 1 [], .fref fz.length [], .ref 3 [], .ref 4 [], .ref 6 [], .ref 5 [], .no, .no, .no, .no, .no], []⟩)) :
    SemW (L1_law P4) ⟨0, fz ++ [ksU ks], [drU d4, lsU S, .leaf .non, lsU os, seenU S ks os, ksU c], [.fref 0 [], .ref 0 [], .ref 1 [], .fref fz.length [], .ref 3 [], .ref 4 [], .ref 1 [], .ref 5 [], .val (.leaf (.str k)), .no, .no, .no, .no], []⟩ K := by
  obtain ⟨j1, r1, p1, q1⟩ := f_cut_at (fz ++ [ksU ks]) S k (by omega)
  replace p1 := Hid.mk p1
  have hst := cut_step hn hk
  have hz0 : ¬ (0 = (fz ++ [ksU ks]).length) := by simp
  refine semClean (seqO ?_)
  walk_at "wgo"
  refine callW_mk p1.h ?_
  walk_at "wgo"
  refine optW_mk (by rw [nth_eq]; exact q1) ?_
  walk_at "wgo"
  refine Hid.mk (seqJ (α := List Str) (fun c' => ⟨0, fz ++ [ksU ks], [drU d4, lsU S, .leaf .non, lsU os, seenU S ks os, ksU c', lsU (cutAt S k)], [.fref 0 [], .no, .ref 1 [], .fref fz.length [], .ref 3 [], .ref 4 [], .no, .ref 5 [], .no, .ref 6 [], .no, .no, .no], []⟩) (fun c' => Hist S c' (cutAt S k) ∧ SpsOk (cutAt S k) ∧ SameOwn (cutAt S k) S ∧ (cutAt S k).length ≤ S.length + 1 ∧ c'.length ≤ c.length + 1) ?_ ?_)
  · walk_at "wgo"
    rcases hst with he | ⟨s1, s2, s3, s4, s5⟩
    · rw [he]
      refine optW_mk (eqvU_ls hn.spt hn.spt) ?_
      rw [decide_eq_true rfl]
      walk_at "wgo"
      exact ⟨c, rfl, hh, hn, ho, by omega, by omega⟩
    · refine optW_mk (eqvU_ls s1.spt hn.spt) ?_
      rw [decide_eq_false fun e => by rw [e] at s4; omega]
      have hlen : (cutAt S k).length ≤ 1000 := by omega
      walk_at "wgo"
      refine lcW_map (cutAt S k) (fun s => .val (snU s)) (fun _ => true) (fun s => .leaf (.str s.1)) 6000 rfl (map_val _ _) (by omega) ?_ ?_
      · intro us t ht2 hu
        dsimp only [Env.nl, setLastU]
        walk_at "wgo"
        refine ⟨rfl, fun _ => ?_, fun h => by cases h⟩
        walk_at "wgo"
        rfl
      dsimp only [Env.nl, setLastU]
      rw [filter_yes, fst_map]
      walk_at "wgo"
      rw [if_neg hz0]
      refine optW_mk (inU_strs ((cutAt S k).map (·.1))) ?_
      rw [show ((cutAt S k).map (·.1)).contains k = true by simpa using s5]
      walk_at "wgo"
      rw [List.length_map, List.length_map, show (!decide (((cutAt S k).length : Int) = (S.length : Int) + 1)) = false by rw [s4]; simp]
      walk_at "wgo"
      exact ⟨c ++ [k], by rw [show ksU (c ++ [k]) = .node .lst ((c.map fun z => U.leaf (V.str z)) ++ [U.leaf (V.str k)]) by unfold ksU; rw [List.map_append]; rfl], Hist.snoc hh hk hn ho s3, s1, (fun x hx => (s2 x hx).trans (ho x hx)), by omega, by rw [List.length_append, List.length_singleton]; omega⟩
  rintro c' ⟨a1, a2, a3, a4, a5⟩
  obtain ⟨_, p3⟩ := f_fine (fz ++ [ksU ks]) (cutAt S k) (by omega) (fine_ok a2)
  replace p3 := Hid.mk p3
  obtain ⟨j4, r4, p4, q4⟩ := f_seenF (P4 := P4) (fz ++ [ksU ks]) (by rw [List.any_append, ht]; rfl) (cutAt S k) os ks (m := fz.length) (fun gs => by
    rw [List.append_assoc]
    unfold look1
    rw [List.getElem?_append_right (Nat.le_refl _), Nat.sub_self]
    rfl) hkl hol
  rw [seen_same a2 hS a3 hks hos] at q4
  replace p4 := Hid.mk p4
  have hq := eqvU_self (dat_seen S ks os) (by decide)
  have fin := hK c' (cutAt S k) a1 a2 a3 a4 a5
  refine seqO ?_
  walk_at "wgo"
  refine Hid.mk (semW ?_)
  walk_at "wgo"
  refine callW_mk p3.h ?_
  walk_at "wgo"
  refine callW_mk p4.h ?_
  walk_at "wgo"
  refine optW_mk (by rw [nth_eq]; exact q4) ?_
  walk_at "wgo"
  refine optW_mk hq ?_
  walk_at "wgo"
  exact fin
theorem law_turn2 (fz : List U) (ht : fz.any (isTab P4) = true) {S now os : List Sp} {ks c : List Str} {k : Str} (hos : SpsOk os) (hks : ∀ k ∈ ks, IsKey k) (hk : IsKey k) (hkl : ks.length ≤ 1000) (hol : os.length ≤ 1000) (hS : SpsOk S) (hn : SpsOk now) (ho : SameOwn now S) (hl : now.length ≤ 500) (K : Out → Prop)
    (hK : K (.nx ⟨0, fz ++ [ksU c], [lsU S, ksU ks, lsU os, seenU S ks os, .leaf .non, lsU (joinAt now k)], [.fref 0 [], .no, .ref 0 [], .ref 1 [], .ref 2 [], .ref 3 [], .ref 5 [], .fref fz.length [], .no, .no, .no, .no, .no], []⟩)) :
    SemW (L2_law P4) ⟨0, fz ++ [ksU c], [lsU S, ksU ks, lsU os, seenU S ks os, .leaf .non, lsU now], [.fref 0 [], .no, .ref 0 [], .ref 1 [], .ref 2 [], .ref 3 [], .ref 5 [], .fref fz.length [], .val (.leaf (.str k)), .no, .no, .no, .no], []⟩ K := by
  obtain ⟨j1, r1, p1, q1⟩ := f_joined_at (fz ++ [ksU c]) now k (by omega)
  replace p1 := Hid.mk p1
  have hjl : (joinAt now k).length ≤ 1000 := Nat.le_trans (joinAt_len now k) (by omega)
  obtain ⟨a2, a3⟩ := join_step hn hk
  replace a3 : SameOwn (joinAt now k) S := fun x hx => (a3 x hx).trans (ho x hx)
  obtain ⟨_, p3⟩ := f_fine (fz ++ [ksU c]) (joinAt now k) (by omega) (fine_ok a2)
  replace p3 := Hid.mk p3
  obtain ⟨j4, r4, p4, q4⟩ := f_seen (P4 := P4) (fz ++ [ksU c]) (by rw [List.any_append, ht]; rfl) (joinAt now k) os ks hkl hol
  rw [seen_same a2 hS a3 hks hos] at q4
  replace p4 := Hid.mk p4
  have hq := eqvU_self (dat_seen S ks os) (by decide)
  refine semClean (seqO ?_)
  walk_at "wgo"
  refine callW_mk p1.h ?_
  walk_at "wgo"
  refine optW_mk (by rw [nth_eq]; exact q1) ?_
  walk_at "wgo"
  refine Hid.mk (semW ?_)
  walk_at "wgo"
  refine callW_mk p3.h ?_
  walk_at "wgo"
  refine callW_mk p4.h ?_
  walk_at "wgo"
  refine optW_mk (by rw [nth_eq]; exact q4) ?_
  walk_at "wgo"
  refine optW_mk hq ?_
  walk_at "wgo"
  exact hK
theorem law_turn3 (fz : List U) (ht : fz.any (isTab P4) = true) {S now os : List Sp} {ks : List Str} {lo hi : Str} (hos : SpsOk os) (hks : ∀ k ∈ ks, IsKey k) (hlo : KeyOr lo) (hkl : ks.length ≤ 1000) (hol : os.length ≤ 1000) (hS : SpsOk S) (hn : SpsOk now) (ho : SameOwn now S) (hl : now.length ≤ 500) (K : Out → Prop)
    (hK : ∀ now', SpsOk now' → SameOwn now' S → now'.length ≤ now.length → K (.nx ⟨0, fz ++ [lsU S], [.leaf .non, ksU ks, lsU os, seenU S ks os, lsU now'], [.fref 0 [], .no, .fref fz.length [], .ref 1 [], .ref 2 [], .ref 3 [], .ref 4 [], .no, .no, .no, .no, .no, .no], []⟩)) :
    SemW (L3_law P4) ⟨0, fz ++ [lsU S], [.leaf .non, ksU ks, lsU os, seenU S ks os, lsU now], [.fref 0 [], .no, .fref fz.length [], .ref 1 [], .ref 2 [], .ref 3 [], .ref 4 [], .no, .no, .no, .val (.leaf (.str lo)), .val (.leaf (.str hi)), .no], []⟩ K := by
  obtain ⟨k, hk, hix⟩ : ∃ k, IsKey k ∧ ∃ i, ixU [U.leaf (V.str lo), U.leaf (V.str "m")] (if decide (lo = "") = true then 1 else 0) = some (i, .leaf (.str k)) := by
    by_cases e : lo = ""
    · rw [decide_eq_true e]
      exact ⟨"m", by unfold IsKey; decide +kernel, 1, ixU_some (n := 1) rfl rfl⟩
    · rw [decide_eq_false e]
      exact ⟨lo, hlo.resolve_left e, 0, ixU_some (n := 0) rfl rfl⟩
  obtain ⟨ii, hix⟩ := hix
  obtain ⟨j1, r1, p1, q1⟩ := f_joined_at (fz ++ [lsU S]) now k (by omega)
  replace p1 := Hid.mk p1
  have hjl0 := joinAt_len now k
  have hjl : (joinAt now k).length ≤ 1000 := by omega
  obtain ⟨a2, a3⟩ := join_step hn hk
  replace a3 : SameOwn (joinAt now k) S := fun x hx => (a3 x hx).trans (ho x hx)
  obtain ⟨_, p3⟩ := f_fine (fz ++ [lsU S]) (joinAt now k) (by omega) (fine_ok a2)
  replace p3 := Hid.mk p3
  obtain ⟨j4, r4, p4, q4⟩ := f_seen (P4 := P4) (fz ++ [lsU S]) (by rw [List.any_append, ht]; rfl) (joinAt now k) os ks hkl hol
  rw [seen_same a2 hS a3 hks hos] at q4
  replace p4 := Hid.mk p4
  have hq := eqvU_self (dat_seen S ks os) (by decide)
  have fin := hK _ a2 a3 hjl0
  have hz0 : ¬ (0 = (fz ++ [lsU S]).length) := by simp
  refine semClean (seqO ?_)
  walk_at "wgo"
  refine optW_mk hix ?_
  walk_at "wgo"
  refine callW_mk p1.h ?_
  walk_at "wgo"
  refine optW_mk (by rw [nth_eq]; exact q1) ?_
  walk_at "wgo"
  refine Hid.mk (semW ?_)
  walk_at "wgo"
  refine callW_mk p3.h ?_
  walk_at "wgo"
  refine callW_mk p4.h ?_
  walk_at "wgo"
  refine optW_mk (by rw [nth_eq]; exact q4) ?_
  walk_at "wgo"
  refine optW_mk hq ?_
  walk_at "wgo"
  exact fin
end
end FB
namespace FB
open PySem PySem.Spec PyProof.Rows L2
section
variable {P4 : Addr}
theorem f_law (tabs : List U) (kk : Kd) (cs : List Int) (hk : kk = .fls ∨ kk = .lst) (hl : cs.length ≤ 63) (ht : Tab1 (.node kk (cs.map intU') :: tabs) P4) : ∃ st', F_law P4 (.node kk (cs.map intU') :: tabs) [] [.fref 0 []] = some (.val (.leaf (.bl true)), st') := by
  have key : ∃ r st', F_law P4 (.node kk (cs.map intU') :: tabs) [] [.fref 0 []] = some (r, st') ∧ r = .val (.leaf (.bl true)) := by
    obtain ⟨i1, st1, d1, p1, g1, k1⟩ := d_drawn (.node kk (cs.map intU') :: tabs) 0 kk cs rfl hk hl
    replace k1 := k1.to7
    replace p1 := Hid.mk p1
    replace ht := ht.h
    generalize hfz : (U.node kk (cs.map intU') :: tabs) = fz at *
    obtain ⟨j2, st2, S, d2, p2, g2, k2, hS, hSl⟩ := d_spans fz d1 k1 (by omega) 8 (by decide) (by decide)
    replace p2 := Hid.mk p2
    obtain ⟨j3, st3, ks, d3, p3, g3, k3, ⟨hkl, hkp⟩, hks⟩ := d_asked fz d2 k2 (by omega) S hS (by omega)
    replace p3 := Hid.mk p3
    obtain ⟨j4, st4, os, d4, p4, g4, k4, hos, hol⟩ := d_spans fz d3 k3 (by omega) 4 (by decide) (by decide)
    replace p4 := Hid.mk p4
    obtain ⟨j5, st5, p5, g5⟩ := f_seen (P4 := P4) fz ht S os ks (by omega) (by omega)
    replace p5 := Hid.mk p5
    unfold F_law
    refine of_sem rfl ?_
    refine seqO ?_
    walk_at "wgo"
    refine callW_mk p1.h ?_
    walk_at "wgo"
    refine optW_mk (by rw [nth_eq]; exact g1) ?_
    walk_at "wgo"
    refine Hid.mk (seqO ?_)
    walk_at "wgo"
    refine callW_mk p2.h ?_
    walk_at "wgo"
    refine optW_mk (by rw [nth_eq]; exact g2) ?_
    walk_at "wgo"
    refine Hid.mk (seqO ?_)
    walk_at "wgo"
    refine callW_mk p3.h ?_
    walk_at "wgo"
    refine optW_mk (by rw [nth_eq]; exact g3) ?_
    walk_at "wgo"
    refine Hid.mk (seqO ?_)
    walk_at "wgo"
    refine callW_mk p4.h ?_
    walk_at "wgo"
    refine optW_mk (by rw [nth_eq]; exact g4) ?_
    walk_at "wgo"
    refine Hid.mk (seqO ?_)
    walk_at "wgo"
    refine callW_mk p5.h ?_
    walk_at "wgo"
    refine optW_mk (by rw [nth_eq]; exact g5) ?_
    walk_at "wgo"
    refine Hid.mk (seqO ?_)
    walk_at "wgo"
    refine Hid.mk (seqO ?_)
    walk_at "wgo"
    refine Hid.mk ?_
    have hSl2 : S.length ≤ 20 := hSl
    have hz : ¬ (0 = fz.length) := fun e => by
      cases fz with
      | nil => cases ht
      | cons u fr => cases e
    refine seqJ (α := List Str × List Sp) (fun x => ⟨0, fz, [lsU S, ksU ks, lsU os, seenU S ks os, ksU x.1, lsU x.2], [.fref 0 [], .no, .ref 0 [], .ref 1 [], .ref 2 [], .ref 3 [], .ref 5 [], .ref 4 [], .no, .no, .no, .no, .no], []⟩) (fun x => Hist S x.1 x.2 ∧ SpsOk x.2 ∧ SameOwn x.2 S ∧ x.2.length ≤ 200 ∧ x.1.length ≤ 200) ?_ ?_
    · walk_at "wgo"
      refine loopW_runS _ (fun i e => (i = 0 ∧ e = ⟨0, fz ++ [ksU ks], [drU d4, lsU S, .leaf .non, lsU os, seenU S ks os, .node .lst []], [.fref 0 [], .ref 0 [], .ref 1 [], .fref fz.length [], .ref 3 [], .ref 4 [], .ref 1 [], .ref 5 [], .no, .no, .no, .no, .no], []⟩) ∨ ∃ c now, 0 < i ∧ e = ⟨0, fz ++ [ksU ks], [drU d4, lsU S, .leaf .non, lsU os, seenU S ks os, ksU c, lsU now], [.fref 0 [], .no, .ref 1 [], .fref fz.length [], .ref 3 [], .ref 4 [], .ref 6 [], .ref 5 [], .no, .no, .no, .no, .no], []⟩ ∧ Hist S c now ∧ SpsOk now ∧ SameOwn now S ∧ now.length ≤ 20 + i ∧ c.length ≤ i) (.inl ⟨rfl, rfl⟩) ?_ ?_
      · rintro i x e hx hI
        obtain ⟨k, hk, rfl⟩ := map_at hx
        have hi := (List.getElem?_eq_some_iff.mp hk).1
        have hkk := hks k (List.mem_of_getElem? hk)
        rcases hI with ⟨rfl, rfl⟩ | ⟨c, now, hi0, rfl, b1, b2, b3, b4, b5⟩
        · walk_at "wgo"
          refine sem_mono (law_turn10 fz ht (c := []) d4 hos hks hkk (by omega) (by omega) hS Hist.nil hS (fun _ _ => rfl) (by omega) (Nat.zero_le _) (fun o => ∃ c now, 0 < 1 ∧ o = .nx ⟨0, fz ++ [ksU ks], [drU d4, lsU S, .leaf .non, lsU os, seenU S ks os, ksU c, lsU now], [.fref 0 [], .no, .ref 1 [], .fref fz.length [], .ref 3 [], .ref 4 [], .ref 6 [], .ref 5 [], .no, .no, .no, .no, .no], []⟩ ∧ Hist S c now ∧ SpsOk now ∧ SameOwn now S ∧ now.length ≤ 20 + 1 ∧ c.length ≤ 1) fun c' now' a1 a2 a3 a4 a5 => ⟨c', now', Nat.one_pos, rfl, a1, a2, a3, by omega, by simpa using a5⟩) ?_
          rintro o ⟨c', now', _, rfl, a⟩
          exact .inr ⟨c', now', Nat.one_pos, rfl, a⟩
        · walk_at "wgo"
          refine sem_mono (law_turn11 fz ht d4 hos hks hkk (by omega) (by omega) hS b1 b2 b3 (by omega) (by omega) (fun o => ∃ c now, o = .nx ⟨0, fz ++ [ksU ks], [drU d4, lsU S, .leaf .non, lsU os, seenU S ks os, ksU c, lsU now], [.fref 0 [], .no, .ref 1 [], .fref fz.length [], .ref 3 [], .ref 4 [], .ref 6 [], .ref 5 [], .no, .no, .no, .no, .no], []⟩ ∧ Hist S c now ∧ SpsOk now ∧ SameOwn now S ∧ now.length ≤ 20 + (i + 1) ∧ c.length ≤ i + 1) fun c' now' a1 a2 a3 a4 a5 => ⟨c', now', rfl, a1, a2, a3, by omega, by omega⟩) ?_
          rintro o ⟨c', now', rfl, a⟩
          exact .inr ⟨c', now', Nat.succ_pos _, rfl, a⟩
      · rintro e (⟨h, _⟩ | ⟨c, now, _, rfl, b1, b2, b3, b4, b5⟩)
        · rw [List.length_map, List.length_map] at h
          omega
        · rw [List.length_map, List.length_map] at b4 b5
          walk_at "wgo"
          rw [if_neg hz]
          walk_at "wgo"
          exact ⟨(c, now), rfl, b1, b2, b3, by show now.length ≤ 200; omega, by show c.length ≤ 200; omega⟩
    rintro ⟨c, now⟩ ⟨b1, b2, b3, b4, b5⟩
    dsimp only at b1 b2 b3 b4 b5 ⊢
    refine seqJ (α := Unit) (fun _ => ⟨0, fz, [lsU S, ksU ks, lsU os, seenU S ks os, lsU S], [.fref 0 [], .no, .ref 0 [], .ref 1 [], .ref 2 [], .ref 3 [], .ref 4 [], .no, .no, .no, .no, .no, .no], []⟩) (fun _ => True) ?_ ?_
    · walk_at "wgo"
      refine loopW_runS _ (fun i e => ∃ now, e = ⟨0, fz ++ [ksU c], [lsU S, ksU ks, lsU os, seenU S ks os, .leaf .non, lsU now], [.fref 0 [], .no, .ref 0 [], .ref 1 [], .ref 2 [], .ref 3 [], .ref 5 [], .fref fz.length [], .no, .no, .no, .no, .no], []⟩ ∧ Hist S (c.take (c.length - i)) now ∧ SpsOk now ∧ SameOwn now S ∧ now.length ≤ 200) ⟨now, rfl, by rw [Nat.sub_zero, List.take_length]; exact b1, b2, b3, b4⟩ ?_ ?_
      · rintro i x e hx ⟨now, rfl, a1, a2, a3, a4⟩
        rw [List.getElem?_map] at hx
        obtain ⟨u, hu, rfl⟩ := Option.map_eq_some_iff.mp hx
        rw [← List.map_reverse, List.getElem?_map] at hu
        obtain ⟨k, hk, rfl⟩ := Option.map_eq_some_iff.mp hu
        have hi : i < c.length := by
          have := (List.getElem?_eq_some_iff.mp hk).1
          rw [List.length_reverse] at this
          exact this
        rw [List.getElem?_reverse hi] at hk
        have ht2 : c.take (c.length - i) = c.take (c.length - (i + 1)) ++ [k] := by
          rw [show c.length - i = (c.length - 1 - i) + 1 by omega, take_succ_at hk, show c.length - (i + 1) = c.length - 1 - i by omega]
        rw [ht2] at a1
        obtain ⟨p, h1, h2, h3, h4, h5⟩ := a1.back
        have hpl : p.length ≤ 200 := by rw [← h5]; exact Nat.le_trans (joinAt_len now k) a4
        walk_at "wgo"
        refine law_turn2 fz ht hos hks h2 (by omega) (by omega) hS a2 a3 (by omega) _ ?_
        rw [h5]
        exact ⟨p, rfl, h1, h3, h4, hpl⟩
      · rintro e ⟨now, rfl, a1, a2, a3, a4⟩
        rw [List.length_map, List.length_reverse, List.length_map, Nat.sub_self, List.take_zero] at a1
        have t : ∀ K : Out → Prop, K (.nx ⟨0, fz, [lsU S, ksU ks, lsU os, seenU S ks os, ksU c, lsU now], [.fref 0 [], .no, .ref 0 [], .ref 1 [], .ref 2 [], .ref 3 [], .ref 5 [], .ref 4 [], .no, .no, .no, .no, .no], []⟩) → outK (thawE fz (ksU c) 4 fz.length) K (.nx ⟨0, fz ++ [ksU c], [lsU S, ksU ks, lsU os, seenU S ks os, .leaf .non, lsU now], [.fref 0 [], .no, .ref 0 [], .ref 1 [], .ref 2 [], .ref 3 [], .ref 5 [], .fref fz.length [], .no, .no, .no, .no, .no], []⟩) := fun K h => by
          walk_at "wgo"
          rw [if_neg hz]
          exact h
        refine t _ ?_
        rw [a1.zero]
        walk_at "wgo"
        exact ⟨(), rfl, trivial⟩
    rintro _ _
    refine seqO ?_
    walk_at "wgo"
    refine optW_mk (eqvU_ls hS.spt hS.spt) ?_
    rw [decide_eq_true rfl]
    walk_at "wgo"
    refine Hid.mk (semW ?_)
    walk_at "wgo"
    refine loopW_runS _ (fun i e => ∃ now, e = ⟨0, fz ++ [lsU S], [.leaf .non, ksU ks, lsU os, seenU S ks os, lsU now], [.fref 0 [], .no, .fref fz.length [], .ref 1 [], .ref 2 [], .ref 3 [], .ref 4 [], .no, .no, .no, .no, .no, .no], []⟩ ∧ SpsOk now ∧ SameOwn now S ∧ now.length ≤ 200) ⟨S, rfl, hS, fun _ _ => rfl, by omega⟩ ?_ ?_
    · rintro i x e hx ⟨now, rfl, a2, a3, a4⟩
      obtain ⟨s, hs, rfl⟩ := map_at hx
      have hlo := hS.lo s (List.mem_of_getElem? hs)
      walk_at "wgo"
      refine sem_mono (law_turn3 fz ht hos hks hlo (by omega) (by omega) hS a2 a3 (by omega) (fun o => ∃ now, o = .nx ⟨0, fz ++ [lsU S], [.leaf .non, ksU ks, lsU os, seenU S ks os, lsU now], [.fref 0 [], .no, .fref fz.length [], .ref 1 [], .ref 2 [], .ref 3 [], .ref 4 [], .no, .no, .no, .no, .no, .no], []⟩ ∧ SpsOk now ∧ SameOwn now S ∧ now.length ≤ 200) fun now' c1 c2 c3 => ⟨now', rfl, c1, c2, by omega⟩) ?_
      rintro o ⟨now', rfl, a⟩
      exact ⟨now', rfl, a⟩
    · rintro e ⟨now, rfl, _⟩
      walk_at "wgo"
      rw [if_neg hz]
      walk_at "wgo"
  obtain ⟨_, st', h, rfl⟩ := key
  exact ⟨st', h⟩
end
end FB
namespace FB
open PySem PySem.Spec PyProof.Rows L2
structure Txt (mg : Str → Option Value) : Prop where
  LEAST_KEY : ∃ t, mg "LEAST_KEY" = some (.str "a" t)
section
variable {P : Program} {w : World} {K : PySem.W.Frag} {mg : Str → Option Value} {base : Heap}
def MethAtC (K : PySem.W.Frag) (C : Addr) (m qual : Str) (st : Stmt) (ps : List Str) (c : Addr) : Prop := ∃ f fd, FunC K m qual st f fd c ∧ Meth K C m f ∧ L2.Binds K fd ps []
theorem MethAtC.ok {k : Nat} {C : Addr} {m qual : Str} {st : Stmt} {ps : List Str} {sp : L2.Sp} {c : Addr} (A : MethAtC K C m qual st ps c)
    (h : ∀ f fd, FunC K m qual st f fd c → FnOk P w K mg base CX0 k f fd ps sp) : MethOk P w K mg base k C m ps sp := by
  obtain ⟨f, fd, F, hm, hb⟩ := A
  exact ⟨f, fd, h f fd F, hm, hb⟩
theorem tab_any {P : Addr} {us : List U} (h : U.node (.tab P) [] ∈ us) : us.any (isTab P) = true := List.any_eq_true.mpr ⟨_, h, decide_eq_true rfl⟩
theorem erL_intsS : ∀ ns : List Int, T.erL (ns.map fun n => T.leaf (.int n)) = ns.map intU'
  | [] => by rw [List.map_nil, T.erL]; rfl
  | n :: r => by rw [List.map_cons, T.erL, erL_intsS r, T.er]; rfl
theorem holdsL_intsS {H : Hp} : ∀ ns : List Int, HoldsL K H (ns.map fun n => T.leaf (.int n))
  | [] => by rw [List.map_nil, HoldsL]; trivial
  | n :: r => by rw [List.map_cons, HoldsL]; exact ⟨by rw [Holds]; rfl, holdsL_intsS r⟩
theorem erL_tabs : ∀ ps : List (Addr × Addr), T.erL (ps.map fun p => T.node p.2 (.tab p.2) []) = ps.map fun p => U.node (.tab p.2) []
  | [] => by rw [List.map_nil, T.erL]; rfl
  | p :: r => by rw [List.map_cons, T.erL, erL_tabs r, T.er, T.erL]; rfl
theorem holdsL_tabs {H : Hp} : ∀ ps : List (Addr × Addr), (∀ p ∈ ps, H p.2 = some (TabX p.2)) → HoldsL K H (ps.map fun p => T.node p.2 (.tab p.2) [])
  | [], _ => by rw [List.map_nil, HoldsL]; trivial
  | p :: r, h => by
    rw [List.map_cons, HoldsL, Holds]
    exact ⟨⟨h p List.mem_cons_self, by rw [HoldsL]; trivial⟩, holdsL_tabs r fun q hq => h q (List.mem_cons_of_mem _ hq)⟩
/-- the law's promise, of what its trees do: with code tables -/
theorem spU_lawT {ps : List (Addr × Addr)} {F : Fn} (h : ∀ (kk : Kd) (ns : List Int), (kk = .fls ∨ kk = .lst) → ns.length ≤ 63 → ∃ st', F (.node kk (ns.map intU') :: ps.map fun p => U.node (.tab p.2) []) [] [.fref 0 []] = some (.val (.leaf (.bl true)), st')) {vs : List V} {H : Hp} {Q : VK} {E : XK} (s : spLawX K ps vs H Q E) : spU K F vs H Q E := by
  obtain ⟨a, ns, rfl, hs, hl, ht, hq⟩ := s
  obtain ⟨kk, hk, ho⟩ : ∃ kk : Kd, (kk = .fls ∨ kk = .lst) ∧ IsObj K H a kk (ns.map V.int) := by
    rcases hs with (h1 | ⟨od, h1⟩) | h1
    · exact ⟨.lst, .inr rfl, h1⟩
    · exact ⟨.fls, .inl rfl, .inl ⟨od, h1⟩⟩
    · exact ⟨.fls, .inl rfl, .inr h1⟩
  obtain ⟨st', h1⟩ := h kk ns hk hl
  have hv : (ns.map fun n => T.leaf (.int n)).map T.val = ns.map V.int := by rw [List.map_map]; rfl
  have hT : ∀ p ∈ ps, H p.2 = some (TabX p.2) := ht
  refine ⟨.node a kk (ns.map fun n => T.leaf (.int n)) :: ps.map fun p => T.node p.2 (.tab p.2) [], [], [.fref 0 []], .val (.leaf (.bl true)), st', ?_, ?_, ?_, ?_, rfl, ?_, ?_, fun v H' ts' p => ?_⟩
  · rw [HoldsL, Holds, hv]
    exact ⟨⟨ho, holdsL_intsS ns⟩, holdsL_tabs ps hT⟩
  · intro b _ hb
    rw [T.footL] at hb
    cases hb
  · rw [HoldsL]
    trivial
  · rw [T.footL]
    exact List.nodup_nil
  · intro i s hi
    match i, hi with
    | 0, hi =>
      obtain rfl := Option.some.inj hi
      exact ⟨_, rfl, _, _, rfl, rfl, rfl⟩
    | i + 1, hi => cases hi
  · rw [T.erL, T.erL, T.er, erL_intsS, erL_tabs]
    exact h1
  · obtain ⟨rfl, _⟩ := leaf_slat p.rs
    exact hq H' fun q hq' => p.kp _ _ (hT q hq') fun hm => by rw [T.footL] at hm; cases hm
end
end FB
namespace FB
open PySem PySem.Spec PyProof.Rows L2
section
variable {P : Program} {w : World} {K : PySem.W.Frag} {mg : Str → Option Value} {base : Heap}
theorem ok_lawZ {f c4 P4 : Addr} {fd : FuncData} (F : Fun K "law" "law" s_law f fd) (B : Blt mg) (T : Txt mg) (A_drawn : DefAt K mg "_law_drawn" s_drawn ["_law_script"]) (A_pick : DefAt K mg "_law_pick" s_pick ["_law_draw", "_law_many"]) (A_key : DefAt K mg "_law_key" s_key ["_law_draw"]) (A_spans : DefAt K mg "_law_spans" s_spans ["_law_draw", "_law_most"]) (A_asked : DefAt K mg "_law_asked" s_asked ["_law_draw", "_law_spans_here"]) (A_has_key : DefAt K mg "has_key" s_has_key ["span", "key"]) (A_span_with : DefAt K mg "span_with" s_span_with ["spans", "key"]) (A_share_key : DefAt K mg "share_key" s_share_key ["one", "other"]) (A_clashes : DefAtC K mg "clashes" s_clashes ["spans", "span"] c4) (A_all_kept : DefAt K mg "all_kept" s_all_kept ["spans"]) (A_seen : DefAt K mg "_law_seen" s_seen ["_law_spans_here", "_law_keys", "_law_others"]) (A_can_cut : DefAt K mg "can_cut" s_can_cut ["span", "key"]) (A_cut_at : DefAt K mg "cut_at" s_cut_at ["spans", "key"]) (A_least : DefAt K mg "_law_least" s_least ["_law_span"]) (A_fine : DefAt K mg "_law_fine" s_fine ["_law_spans_here"]) (A_joined_at : DefAt K mg "joined_at" s_joined_at ["spans", "key"]) (TB4 : LamX.TabB base mg c4 P4) : FnOk P w K mg base CX0 6 f fd ["_law_script"] (spLawX K [(c4, P4)]) := by
  obtain ⟨tk_LEAST_KEY, h_LEAST_KEY⟩ := T.LEAST_KEY
  have D_drawn : DefOk P w K mg base 1 "_law_drawn" ["_law_script"] (spU K F_drawn) := A_drawn.ok fun _ _ F => ok_drawn F B
  have D_pick : DefOk P w K mg base 1 "_law_pick" ["_law_draw", "_law_many"] (spU K F_pick) := A_pick.ok fun _ _ F => ok_pick F B
  have D_key : DefOk P w K mg base 2 "_law_key" ["_law_draw"] (spU K F_key) := A_key.ok fun _ _ F => ok_key F B D_pick
  have D_spans : DefOk P w K mg base 3 "_law_spans" ["_law_draw", "_law_most"] (spU K F_spans) := A_spans.ok fun _ _ F => ok_spans F B D_pick D_key
  have D_asked : DefOk P w K mg base 3 "_law_asked" ["_law_draw", "_law_spans_here"] (spU K F_asked) := A_asked.ok fun _ _ F => ok_asked F B D_pick D_key
  have D_has_key : DefOk P w K mg base 1 "has_key" ["span", "key"] (spU K F_has_key) := A_has_key.ok fun _ _ F => ok_has_key F B
  have D_span_with : DefOk P w K mg base 2 "span_with" ["spans", "key"] (spU K F_span_with) := A_span_with.ok fun _ _ F => ok_span_with F B D_has_key
  have D_share_key : DefOk P w K mg base 2 "share_key" ["one", "other"] (spU K F_share_key) := A_share_key.ok fun _ _ F => ok_share_key F B h_LEAST_KEY D_has_key
  have D_clashes : DefOk P w K mg base 4 "clashes" ["spans", "span"] (spU K (F_clashes P4)) := A_clashes.ok fun _ _ F => ok_clashes F TB4 B D_share_key
  have D_all_kept : DefOk P w K mg base 1 "all_kept" ["spans"] (spU K F_all_kept) := A_all_kept.ok fun _ _ F => ok_all_kept F B h_LEAST_KEY
  have D_seen : DefOk P w K mg base 5 "_law_seen" ["_law_spans_here", "_law_keys", "_law_others"] (spU K (F_seen P4)) := A_seen.ok fun _ _ F => ok_seen F B D_span_with D_clashes D_all_kept
  have D_can_cut : DefOk P w K mg base 2 "can_cut" ["span", "key"] (spU K F_can_cut) := A_can_cut.ok fun _ _ F => ok_can_cut F B h_LEAST_KEY D_has_key
  have D_cut_at : DefOk P w K mg base 3 "cut_at" ["spans", "key"] (spU K F_cut_at) := A_cut_at.ok fun _ _ F => ok_cut_at F B D_can_cut
  have D_least : DefOk P w K mg base 1 "_law_least" ["_law_span"] (spU K F_least) := A_least.ok fun _ _ F => ok_least F B
  have D_fine : DefOk P w K mg base 2 "_law_fine" ["_law_spans_here"] (spU K F_fine) := A_fine.ok fun _ _ F => ok_fine F B D_least
  have D_joined_at : DefOk P w K mg base 1 "joined_at" ["spans", "key"] (spU K F_joined_at) := A_joined_at.ok fun _ _ F => ok_joined_at F B
  exact (ok_law F B D_drawn D_spans D_asked D_seen D_cut_at D_fine D_joined_at).imp fun vs H Q E s => spU_lawT (fun kk ns hk hl => f_law _ kk ns hk hl ⟨tab_any (by simp)⟩) s
end
theorem all_mk {l : PySem.W.OpenLaw} {w : World} {K : PySem.W.Frag} {h : Heap} {mg : Str → Option Value} {fa f0 f1 f2 f3 f4 f5 f6 f7 f8 f9 f10 f11 f12 f13 f14 f15 f16 : Addr} (X : K.In h) (G : h.Ns mainGlobals mg) (hT : ∀ P ∈ [58], h.get? P = some (PySem.W.tabObj #[])) (hfa : mg "law" = some (.ref fa))
    {od0 an0 od1 an1 od2 an2 od3 an3 od4 an4 od5 an5 od6 an6 od7 an7 od8 an8 od9 an9 od10 an10 od11 an11 od12 an12 od13 an13 od14 an14 od15 an15 od16 an16 : Option Addr} {sl0 sl1 sl2 sl3 sl4 sl5 sl6 sl7 sl8 sl9 sl10 sl11 sl12 sl13 sl14 sl15 sl16 : Array (Option Value)} {oc0 kV0 dc0 pm0 cd0 ct0 oc1 kV1 dc1 pm1 cd1 ct1 oc2 kV2 dc2 pm2 cd2 ct2 oc3 kV3 dc3 pm3 cd3 ct3 oc4 kV4 dc4 pm4 cd4 ct4 oc5 kV5 dc5 pm5 cd5 ct5 oc6 kV6 dc6 pm6 ct6 oc7 kV7 dc7 pm7 cd7 ct7 oc8 kV8 dc8 pm8 cd8 ct8 oc9 kV9 dc9 pm9 cd9 ct9 oc10 kV10 dc10 pm10 cd10 ct10 oc11 kV11 dc11 pm11 cd11 ct11 oc12 kV12 dc12 pm12 cd12 ct12 oc13 kV13 dc13 pm13 cd13 ct13 oc14 kV14 dc14 pm14 cd14 ct14 oc15 kV15 dc15 pm15 cd15 ct15 oc16 kV16 dc16 pm16 cd16 ct16 : Value}
    (a0 : PySem.W.nsIn K mainGlobals "has_key" = some (some (.ref f0)))
    (l0 : K.lookup f0 = some ⟨oc0, od0, .func (PySem.W.fnOf "has_key" "has_key" (defArgs s_has_key) (defBody s_has_key) (defScope s_has_key) .none kV0 dc0 pm0 an0 cd0 ct0), sl0⟩)
    (c0 : PySem.W.codeIn K cd0 "has_key" = true) (k0 : PySem.W.keepIn K (.ref f0) = true)
    (a1 : PySem.W.nsIn K mainGlobals "span_with" = some (some (.ref f1)))
    (l1 : K.lookup f1 = some ⟨oc1, od1, .func (PySem.W.fnOf "span_with" "span_with" (defArgs s_span_with) (defBody s_span_with) (defScope s_span_with) .none kV1 dc1 pm1 an1 cd1 ct1), sl1⟩)
    (c1 : PySem.W.codeIn K cd1 "span_with" = true) (k1 : PySem.W.keepIn K (.ref f1) = true)
    (a2 : PySem.W.nsIn K mainGlobals "can_cut" = some (some (.ref f2)))
    (l2 : K.lookup f2 = some ⟨oc2, od2, .func (PySem.W.fnOf "can_cut" "can_cut" (defArgs s_can_cut) (defBody s_can_cut) (defScope s_can_cut) .none kV2 dc2 pm2 an2 cd2 ct2), sl2⟩)
    (c2 : PySem.W.codeIn K cd2 "can_cut" = true) (k2 : PySem.W.keepIn K (.ref f2) = true)
    (a3 : PySem.W.nsIn K mainGlobals "cut_at" = some (some (.ref f3)))
    (l3 : K.lookup f3 = some ⟨oc3, od3, .func (PySem.W.fnOf "cut_at" "cut_at" (defArgs s_cut_at) (defBody s_cut_at) (defScope s_cut_at) .none kV3 dc3 pm3 an3 cd3 ct3), sl3⟩)
    (c3 : PySem.W.codeIn K cd3 "cut_at" = true) (k3 : PySem.W.keepIn K (.ref f3) = true)
    (a4 : PySem.W.nsIn K mainGlobals "joined_at" = some (some (.ref f4)))
    (l4 : K.lookup f4 = some ⟨oc4, od4, .func (PySem.W.fnOf "joined_at" "joined_at" (defArgs s_joined_at) (defBody s_joined_at) (defScope s_joined_at) .none kV4 dc4 pm4 an4 cd4 ct4), sl4⟩)
    (c4 : PySem.W.codeIn K cd4 "joined_at" = true) (k4 : PySem.W.keepIn K (.ref f4) = true)
    (a5 : PySem.W.nsIn K mainGlobals "all_kept" = some (some (.ref f5)))
    (l5 : K.lookup f5 = some ⟨oc5, od5, .func (PySem.W.fnOf "all_kept" "all_kept" (defArgs s_all_kept) (defBody s_all_kept) (defScope s_all_kept) .none kV5 dc5 pm5 an5 cd5 ct5), sl5⟩)
    (c5 : PySem.W.codeIn K cd5 "all_kept" = true) (k5 : PySem.W.keepIn K (.ref f5) = true)
    (a6 : PySem.W.nsIn K mainGlobals "clashes" = some (some (.ref f6)))
    (l6 : K.lookup f6 = some ⟨oc6, od6, .func (PySem.W.fnOf "clashes" "clashes" (defArgs s_clashes) (defBody s_clashes) (defScope s_clashes) .none kV6 dc6 pm6 an6 (.ref 62) ct6), sl6⟩)
    (c6 : PySem.W.codeIn K (.ref 62) "clashes" = true) (k6 : PySem.W.keepIn K (.ref f6) = true)
    (q6 : PySem.W.codeHdIn K 62 58 = true) (n6 : K.lookup 58 = none)
    (a7 : PySem.W.nsIn K mainGlobals "share_key" = some (some (.ref f7)))
    (l7 : K.lookup f7 = some ⟨oc7, od7, .func (PySem.W.fnOf "share_key" "share_key" (defArgs s_share_key) (defBody s_share_key) (defScope s_share_key) .none kV7 dc7 pm7 an7 cd7 ct7), sl7⟩)
    (c7 : PySem.W.codeIn K cd7 "share_key" = true) (k7 : PySem.W.keepIn K (.ref f7) = true)
    (a8 : PySem.W.nsIn K mainGlobals "_law_drawn" = some (some (.ref f8)))
    (l8 : K.lookup f8 = some ⟨oc8, od8, .func (PySem.W.fnOf "_law_drawn" "_law_drawn" (defArgs s_drawn) (defBody s_drawn) (defScope s_drawn) .none kV8 dc8 pm8 an8 cd8 ct8), sl8⟩)
    (c8 : PySem.W.codeIn K cd8 "_law_drawn" = true) (k8 : PySem.W.keepIn K (.ref f8) = true)
    (a9 : PySem.W.nsIn K mainGlobals "_law_pick" = some (some (.ref f9)))
    (l9 : K.lookup f9 = some ⟨oc9, od9, .func (PySem.W.fnOf "_law_pick" "_law_pick" (defArgs s_pick) (defBody s_pick) (defScope s_pick) .none kV9 dc9 pm9 an9 cd9 ct9), sl9⟩)
    (c9 : PySem.W.codeIn K cd9 "_law_pick" = true) (k9 : PySem.W.keepIn K (.ref f9) = true)
    (a10 : PySem.W.nsIn K mainGlobals "_law_key" = some (some (.ref f10)))
    (l10 : K.lookup f10 = some ⟨oc10, od10, .func (PySem.W.fnOf "_law_key" "_law_key" (defArgs s_key) (defBody s_key) (defScope s_key) .none kV10 dc10 pm10 an10 cd10 ct10), sl10⟩)
    (c10 : PySem.W.codeIn K cd10 "_law_key" = true) (k10 : PySem.W.keepIn K (.ref f10) = true)
    (a11 : PySem.W.nsIn K mainGlobals "_law_spans" = some (some (.ref f11)))
    (l11 : K.lookup f11 = some ⟨oc11, od11, .func (PySem.W.fnOf "_law_spans" "_law_spans" (defArgs s_spans) (defBody s_spans) (defScope s_spans) .none kV11 dc11 pm11 an11 cd11 ct11), sl11⟩)
    (c11 : PySem.W.codeIn K cd11 "_law_spans" = true) (k11 : PySem.W.keepIn K (.ref f11) = true)
    (a12 : PySem.W.nsIn K mainGlobals "_law_least" = some (some (.ref f12)))
    (l12 : K.lookup f12 = some ⟨oc12, od12, .func (PySem.W.fnOf "_law_least" "_law_least" (defArgs s_least) (defBody s_least) (defScope s_least) .none kV12 dc12 pm12 an12 cd12 ct12), sl12⟩)
    (c12 : PySem.W.codeIn K cd12 "_law_least" = true) (k12 : PySem.W.keepIn K (.ref f12) = true)
    (a13 : PySem.W.nsIn K mainGlobals "_law_asked" = some (some (.ref f13)))
    (l13 : K.lookup f13 = some ⟨oc13, od13, .func (PySem.W.fnOf "_law_asked" "_law_asked" (defArgs s_asked) (defBody s_asked) (defScope s_asked) .none kV13 dc13 pm13 an13 cd13 ct13), sl13⟩)
    (c13 : PySem.W.codeIn K cd13 "_law_asked" = true) (k13 : PySem.W.keepIn K (.ref f13) = true)
    (a14 : PySem.W.nsIn K mainGlobals "_law_seen" = some (some (.ref f14)))
    (l14 : K.lookup f14 = some ⟨oc14, od14, .func (PySem.W.fnOf "_law_seen" "_law_seen" (defArgs s_seen) (defBody s_seen) (defScope s_seen) .none kV14 dc14 pm14 an14 cd14 ct14), sl14⟩)
    (c14 : PySem.W.codeIn K cd14 "_law_seen" = true) (k14 : PySem.W.keepIn K (.ref f14) = true)
    (a15 : PySem.W.nsIn K mainGlobals "_law_fine" = some (some (.ref f15)))
    (l15 : K.lookup f15 = some ⟨oc15, od15, .func (PySem.W.fnOf "_law_fine" "_law_fine" (defArgs s_fine) (defBody s_fine) (defScope s_fine) .none kV15 dc15 pm15 an15 cd15 ct15), sl15⟩)
    (c15 : PySem.W.codeIn K cd15 "_law_fine" = true) (k15 : PySem.W.keepIn K (.ref f15) = true)
    (a16 : PySem.W.nsIn K mainGlobals "law" = some (some (.ref f16)))
    (l16 : K.lookup f16 = some ⟨oc16, od16, .func (PySem.W.fnOf "law" "law" (defArgs s_law) (defBody s_law) (defScope s_law) .none kV16 dc16 pm16 an16 cd16 ct16), sl16⟩)
    (c16 : PySem.W.codeIn K cd16 "law" = true) (k16 : PySem.W.keepIn K (.ref f16) = true)
    (z0 : PySem.W.nsIn K mainGlobals "abs" = some none)
    (z1 : PySem.W.nsIn K mainGlobals "all" = some none)
    (z2 : PySem.W.nsIn K mainGlobals "any" = some none)
    (z3 : PySem.W.nsIn K mainGlobals "bool" = some none)
    (z4 : PySem.W.nsIn K mainGlobals "dict" = some none)
    (z5 : PySem.W.nsIn K mainGlobals "enumerate" = some none)
    (z6 : PySem.W.nsIn K mainGlobals "int" = some none)
    (z7 : PySem.W.nsIn K mainGlobals "isinstance" = some none)
    (z8 : PySem.W.nsIn K mainGlobals "len" = some none)
    (z9 : PySem.W.nsIn K mainGlobals "list" = some none)
    (z10 : PySem.W.nsIn K mainGlobals "max" = some none)
    (z11 : PySem.W.nsIn K mainGlobals "min" = some none)
    (z12 : PySem.W.nsIn K mainGlobals "range" = some none)
    (z13 : PySem.W.nsIn K mainGlobals "reversed" = some none)
    (z14 : PySem.W.nsIn K mainGlobals "set" = some none)
    (z15 : PySem.W.nsIn K mainGlobals "sorted" = some none)
    (z16 : PySem.W.nsIn K mainGlobals "str" = some none)
    (z17 : PySem.W.nsIn K mainGlobals "sum" = some none)
    (z18 : PySem.W.nsIn K mainGlobals "tuple" = some none)
    (z19 : PySem.W.nsIn K mainGlobals "zip" = some none)
    {t0 : Tok} (y0 : PySem.W.nsIn K mainGlobals "LEAST_KEY" = some (some (.str "a" t0))) :
    LawX l w K 6 63 "_law_script" mg fa h := by
  have e := hfa.symm.trans (PySem.W.mg_of X G a16)
  cases e
  have B : Blt mg := ⟨PySem.W.mg_none_of X G z0, PySem.W.mg_none_of X G z1, PySem.W.mg_none_of X G z2, PySem.W.mg_none_of X G z3, PySem.W.mg_none_of X G z4, PySem.W.mg_none_of X G z5, PySem.W.mg_none_of X G z6, PySem.W.mg_none_of X G z7, PySem.W.mg_none_of X G z8, PySem.W.mg_none_of X G z9, PySem.W.mg_none_of X G z10, PySem.W.mg_none_of X G z11, PySem.W.mg_none_of X G z12, PySem.W.mg_none_of X G z13, PySem.W.mg_none_of X G z14, PySem.W.mg_none_of X G z15, PySem.W.mg_none_of X G z16, PySem.W.mg_none_of X G z17, PySem.W.mg_none_of X G z18, PySem.W.mg_none_of X G z19⟩
  have T : Txt mg := ⟨⟨_, PySem.W.mg_of X G y0⟩⟩
  have F0 := fun_mk (st := s_has_key) l0 c0 k0
  have b0 := F0.binds (ps := ["span", "key"]) fun _ _ _ _ _ _ us hl => match us, hl with | [_, _], _ => rfl
  have A_has_key : DefAt K mg "has_key" s_has_key ["span", "key"] := ⟨_, _, F0, PySem.W.mg_of X G a0, b0⟩
  have F1 := fun_mk (st := s_span_with) l1 c1 k1
  have b1 := F1.binds (ps := ["spans", "key"]) fun _ _ _ _ _ _ us hl => match us, hl with | [_, _], _ => rfl
  have A_span_with : DefAt K mg "span_with" s_span_with ["spans", "key"] := ⟨_, _, F1, PySem.W.mg_of X G a1, b1⟩
  have F2 := fun_mk (st := s_can_cut) l2 c2 k2
  have b2 := F2.binds (ps := ["span", "key"]) fun _ _ _ _ _ _ us hl => match us, hl with | [_, _], _ => rfl
  have A_can_cut : DefAt K mg "can_cut" s_can_cut ["span", "key"] := ⟨_, _, F2, PySem.W.mg_of X G a2, b2⟩
  have F3 := fun_mk (st := s_cut_at) l3 c3 k3
  have b3 := F3.binds (ps := ["spans", "key"]) fun _ _ _ _ _ _ us hl => match us, hl with | [_, _], _ => rfl
  have A_cut_at : DefAt K mg "cut_at" s_cut_at ["spans", "key"] := ⟨_, _, F3, PySem.W.mg_of X G a3, b3⟩
  have F4 := fun_mk (st := s_joined_at) l4 c4 k4
  have b4 := F4.binds (ps := ["spans", "key"]) fun _ _ _ _ _ _ us hl => match us, hl with | [_, _], _ => rfl
  have A_joined_at : DefAt K mg "joined_at" s_joined_at ["spans", "key"] := ⟨_, _, F4, PySem.W.mg_of X G a4, b4⟩
  have F5 := fun_mk (st := s_all_kept) l5 c5 k5
  have b5 := F5.binds (ps := ["spans"]) fun _ _ _ _ _ _ us hl => match us, hl with | [_], _ => rfl
  have A_all_kept : DefAt K mg "all_kept" s_all_kept ["spans"] := ⟨_, _, F5, PySem.W.mg_of X G a5, b5⟩
  have F6 := fun_mk (st := s_clashes) l6 c6 k6
  have b6 := F6.binds (ps := ["spans", "span"]) fun _ _ _ _ _ _ us hl => match us, hl with | [_, _], _ => rfl
  have A_clashes : DefAtC K mg "clashes" s_clashes ["spans", "span"] 62 := ⟨_, _, funC_mk l6 c6 k6, PySem.W.mg_of X G a6, b6⟩
  have F7 := fun_mk (st := s_share_key) l7 c7 k7
  have b7 := F7.binds (ps := ["one", "other"]) fun _ _ _ _ _ _ us hl => match us, hl with | [_, _], _ => rfl
  have A_share_key : DefAt K mg "share_key" s_share_key ["one", "other"] := ⟨_, _, F7, PySem.W.mg_of X G a7, b7⟩
  have F8 := fun_mk (st := s_drawn) l8 c8 k8
  have b8 := F8.binds (ps := ["_law_script"]) fun _ _ _ _ _ _ us hl => match us, hl with | [_], _ => rfl
  have A_drawn : DefAt K mg "_law_drawn" s_drawn ["_law_script"] := ⟨_, _, F8, PySem.W.mg_of X G a8, b8⟩
  have F9 := fun_mk (st := s_pick) l9 c9 k9
  have b9 := F9.binds (ps := ["_law_draw", "_law_many"]) fun _ _ _ _ _ _ us hl => match us, hl with | [_, _], _ => rfl
  have A_pick : DefAt K mg "_law_pick" s_pick ["_law_draw", "_law_many"] := ⟨_, _, F9, PySem.W.mg_of X G a9, b9⟩
  have F10 := fun_mk (st := s_key) l10 c10 k10
  have b10 := F10.binds (ps := ["_law_draw"]) fun _ _ _ _ _ _ us hl => match us, hl with | [_], _ => rfl
  have A_key : DefAt K mg "_law_key" s_key ["_law_draw"] := ⟨_, _, F10, PySem.W.mg_of X G a10, b10⟩
  have F11 := fun_mk (st := s_spans) l11 c11 k11
  have b11 := F11.binds (ps := ["_law_draw", "_law_most"]) fun _ _ _ _ _ _ us hl => match us, hl with | [_, _], _ => rfl
  have A_spans : DefAt K mg "_law_spans" s_spans ["_law_draw", "_law_most"] := ⟨_, _, F11, PySem.W.mg_of X G a11, b11⟩
  have F12 := fun_mk (st := s_least) l12 c12 k12
  have b12 := F12.binds (ps := ["_law_span"]) fun _ _ _ _ _ _ us hl => match us, hl with | [_], _ => rfl
  have A_least : DefAt K mg "_law_least" s_least ["_law_span"] := ⟨_, _, F12, PySem.W.mg_of X G a12, b12⟩
  have F13 := fun_mk (st := s_asked) l13 c13 k13
  have b13 := F13.binds (ps := ["_law_draw", "_law_spans_here"]) fun _ _ _ _ _ _ us hl => match us, hl with | [_, _], _ => rfl
  have A_asked : DefAt K mg "_law_asked" s_asked ["_law_draw", "_law_spans_here"] := ⟨_, _, F13, PySem.W.mg_of X G a13, b13⟩
  have F14 := fun_mk (st := s_seen) l14 c14 k14
  have b14 := F14.binds (ps := ["_law_spans_here", "_law_keys", "_law_others"]) fun _ _ _ _ _ _ us hl => match us, hl with | [_, _, _], _ => rfl
  have A_seen : DefAt K mg "_law_seen" s_seen ["_law_spans_here", "_law_keys", "_law_others"] := ⟨_, _, F14, PySem.W.mg_of X G a14, b14⟩
  have F15 := fun_mk (st := s_fine) l15 c15 k15
  have b15 := F15.binds (ps := ["_law_spans_here"]) fun _ _ _ _ _ _ us hl => match us, hl with | [_], _ => rfl
  have A_fine : DefAt K mg "_law_fine" s_fine ["_law_spans_here"] := ⟨_, _, F15, PySem.W.mg_of X G a15, b15⟩
  have F16 := fun_mk (st := s_law) l16 c16 k16
  have hT2 : ∀ p ∈ ([(62, 58)] : List (Addr × Addr)), h.get? p.2 = some emptyTab := fun p hp => hT p.2 (by
    have e := List.mem_map_of_mem (f := Prod.snd) hp
    exact e)
  have hN2 : ∀ p ∈ ([(62, 58)] : List (Addr × Addr)), K.lookup p.2 = none := List.forall_mem_cons.mpr ⟨n6, fun _ z => nomatch z⟩
  have hC2 : ∀ p ∈ ([(62, 58)] : List (Addr × Addr)), PySem.W.CodeHd h p.1 p.2 := List.forall_mem_cons.mpr ⟨PySem.W.codeHd_of_K X q6, fun _ z => nomatch z⟩
  exact ⟨PySem.W.fnOf "law" "law" (defArgs s_law) (defBody s_law) (defScope s_law) .none kV16 dc16 pm16 an16 cd16 ct16, [(62, 58)], spLawX K [(62, 58)], hT2, hN2, hC2, fun s v => .of_eq rfl, fun H a ns hl _ hH hS => ⟨a, ns, rfl, hS, hl, hH, fun H2 hH2 => ⟨rfl, hH2⟩⟩, fun base _ _ TB => ok_lawZ F16 B T A_drawn A_pick A_key A_spans A_asked A_has_key A_span_with A_share_key A_clashes A_all_kept A_seen A_can_cut A_cut_at A_least A_fine A_joined_at (TB (62, 58) (by decide))⟩
end FB
open PySem PySem.W PyProof.Rows
local macro_rules | `(tactic| o_head ($f $k $a $e)) => `(tactic| o_head (kmHook $k $a $e [58]))
set_option maxRecDepth 100000 in
set_option maxHeartbeats 0 in
theorem PySem.Challenge.cw_farbooks_k07_whole_cut_and_joined_holds : PySem.Challenge.rw_farbooks_k07_whole_cut_and_joined.Holds := by
  w_on; o_law; k_head; (case hw => w_witness2)
  k_fill
  refine FB.walk_ofX (l := PySem.Challenge.rw_farbooks_k07_whole_cut_and_joined) (n := 63) (k := 6) (x := "_law_script") rfl (by decide) rfl ⟨rfl, by decide, by decide⟩ (fun w h Y => PySem.W.km_in_of Y) ?F
  case F =>
    intro w mg fa h Y KX G hmg
    refine' FB.all_mk KX G (PySem.W.km_tabs_of Y) hmg ?a0 ?l0 ?c0 ?k0 ?a1 ?l1 ?c1 ?k1 ?a2 ?l2 ?c2 ?k2 ?a3 ?l3 ?c3 ?k3 ?a4 ?l4 ?c4 ?k4 ?a5 ?l5 ?c5 ?k5 ?a6 ?l6 ?c6 ?k6 ?q6 ?n6 ?a7 ?l7 ?c7 ?k7 ?a8 ?l8 ?c8 ?k8 ?a9 ?l9 ?c9 ?k9 ?a10 ?l10 ?c10 ?k10 ?a11 ?l11 ?c11 ?k11 ?a12 ?l12 ?c12 ?k12 ?a13 ?l13 ?c13 ?k13 ?a14 ?l14 ?c14 ?k14 ?a15 ?l15 ?c15 ?k15 ?a16 ?l16 ?c16 ?k16 ?z0 ?z1 ?z2 ?z3 ?z4 ?z5 ?z6 ?z7 ?z8 ?z9 ?z10 ?z11 ?z12 ?z13 ?z14 ?z15 ?z16 ?z17 ?z18 ?z19 ?y0
    (case a0 => k_is); (case l0 => k_is); (case c0 => k_is); (case k0 => k_is); (case a1 => k_is); (case l1 => k_is)
    (case c1 => k_is); (case k1 => k_is); (case a2 => k_is); (case l2 => k_is); (case c2 => k_is); (case k2 => k_is)
    (case a3 => k_is); (case l3 => k_is); (case c3 => k_is); (case k3 => k_is); (case a4 => k_is); (case l4 => k_is)
    (case c4 => k_is); (case k4 => k_is); (case a5 => k_is); (case l5 => k_is); (case c5 => k_is); (case k5 => k_is)
    (case a6 => k_is); (case l6 => k_is); (case c6 => k_is); (case k6 => k_is); (case q6 => kernel_rfl); (case n6 => kernel_rfl)
    (case a7 => k_is); (case l7 => k_is); (case c7 => k_is); (case k7 => k_is); (case a8 => k_is); (case l8 => k_is)
    (case c8 => k_is); (case k8 => k_is); (case a9 => k_is); (case l9 => k_is); (case c9 => k_is); (case k9 => k_is)
    (case a10 => k_is); (case l10 => k_is); (case c10 => k_is); (case k10 => k_is); (case a11 => k_is); (case l11 => k_is)
    (case c11 => k_is); (case k11 => k_is); (case a12 => k_is); (case l12 => k_is); (case c12 => k_is); (case k12 => k_is)
    (case a13 => k_is); (case l13 => k_is); (case c13 => k_is); (case k13 => k_is); (case a14 => k_is); (case l14 => k_is)
    (case c14 => k_is); (case k14 => k_is); (case a15 => k_is); (case l15 => k_is); (case c15 => k_is); (case k15 => k_is)
    (case a16 => k_is); (case l16 => k_is); (case c16 => k_is); (case k16 => k_is); (case z0 => k_is); (case z1 => k_is)
    (case z2 => k_is); (case z3 => k_is); (case z4 => k_is); (case z5 => k_is); (case z6 => k_is); (case z7 => k_is)
    (case z8 => k_is); (case z9 => k_is); (case z10 => k_is); (case z11 => k_is); (case z12 => k_is); (case z13 => k_is)
    (case z14 => k_is); (case z15 => k_is); (case z16 => k_is); (case z17 => k_is); (case z18 => k_is); (case z19 => k_is)
    (case y0 => k_is)
