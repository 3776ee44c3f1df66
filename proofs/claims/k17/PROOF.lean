import PyProof.Rows.All
import Wide.All
import OpenK.AllK
import Wide.FinOn
import HandS.ForMost
import HandS.IsInst
import HandS.Zip
import HandS.SetKeys
import HandS.Walk
import HandS.Wide
import KE.KDictWalk
import HandS.SortRule
import KE.KSortTupAny
import PyProof.DictMoreH
import HandS.GenList
import HandS.EndTab
import KE.KNestM
import PyProof.Rows.MatchSeqLen
import HandS.More
import HandS.Deep
import PySem.Challenge.RW_farbooks_k17_cut_and_joined
set_option Elab.async false
set_option linter.all false
set_option maxRecDepth 100000
set_option maxHeartbeats 4000000
namespace FB
open PySem PySem.Spec PyProof.Rows L2

/-! ### a def that is called by its name -/
def DefOk (P : Program) (w : World) (K : PySem.W.Frag) (mg : Str → Option Value) (base : Heap) (k : Nat) (x : Str) (ps : List Str) (sp : Sp) : Prop :=
  ∃ f fd, FnOk P w K mg base CX0 k f fd ps sp ∧ mg x = some (.ref f) ∧ PySem.W.keepIn K (.ref f) = true ∧ L2.Binds K fd ps []
theorem pe_def {X : Cx} {k : Nat} {x : Str} {ps : List Str} {sp : Sp} {e : Expr} {es : List Expr} {t : TA} {p pos : Pos} (D : DefOk X.prog X.w X.K X.mg X.base k x ps sp) (hr : Room k X.A) (hg : Gl X x) (ha : PA X (e :: es) t)
    (hd : (x == ("__debug__" : Str)) = false := by decide) (hs : starEach (e :: es) X.env = (false, eval e X.env) :: starEach es X.env := by rfl) (hpl : (backTo pos (starEach es X.env)).any (·.1) = false := by rfl) :
    PE X (.Call (.Name x p) (e :: es) [] pos) (tCall sp [] E0 t) := by
  obtain ⟨f, fd, F, hm, hk, hb⟩ := D
  exact pe_call F hr hg hm hk hb .nil pass0 ha hd hs hpl
theorem pe_def0 {X : Cx} {k : Nat} {x : Str} {ps : List Str} {sp : Sp} {p pos : Pos} (D : DefOk X.prog X.w X.K X.mg X.base k x ps sp) (hr : Room k X.A) (hg : Gl X x)
    (hd : (x == ("__debug__" : Str)) = false := by decide) : PE X (.Call (.Name x p) [] [] pos) (tCall sp [] E0 tNil) := by
  obtain ⟨f, fd, F, hm, hk, hb⟩ := D
  exact pe_call0 F hr hg hm hk hb .nil pass0 hd
/-- where a def of the text stands -/
def DefAt (K : PySem.W.Frag) (mg : Str → Option Value) (x : Str) (st : Stmt) (ps : List Str) : Prop :=
  ∃ f fd, Fun K x x st f fd ∧ mg x = some (.ref f) ∧ L2.Binds K fd ps []
theorem DefAt.ok {P : Program} {w : World} {K : PySem.W.Frag} {mg : Str → Option Value} {base : Heap} {k : Nat} {x : Str} {st : Stmt} {ps : List Str} {sp : Sp} (A : DefAt K mg x st ps)
    (h : ∀ f fd, Fun K x x st f fd → FnOk P w K mg base CX0 k f fd ps sp) : DefOk P w K mg base k x ps sp := by
  obtain ⟨f, fd, F, hm, hb⟩ := A
  exact ⟨f, fd, h f fd F, hm, F.kp, hb⟩

/-! ### heaps -/
/-- all but what stands at d stays -/
def Keep (d : Addr) (H H' : Hp) : Prop := ∀ b o, H b = some o → b ≠ d → H' b = some o
theorem Keep.refl (d : Addr) (H : Hp) : Keep d H H := fun _ _ h _ => h
theorem Keep.trans {d : Addr} {H H1 H2 : Hp} (a : Keep d H H1) (b : Keep d H1 H2) : Keep d H H2 := fun c o h n => b c o (a c o h n) n
theorem keep_same {d : Addr} {H H' : Hp} (e : Same H H') : Keep d H H' := fun b o h _ => e b o h
theorem same_new {H : Hp} {p : Addr} {o : HO} (h : H p = none) : Same H (upd H p o) := fun b x e => by
  rw [upd_ne (ne_of_none e h)]
  exact e
theorem keep_upd {d : Addr} {H : Hp} {o : HO} : Keep d H (upd H d o) := fun b x e n => by
  rw [upd_ne n]
  exact e
theorem upd_self {H : Hp} {d : Addr} {o : HO} (h : H d = some o) : upd H d o = H := by
  funext b
  unfold upd
  split
  · rename_i e
    rw [e, h]
  · rfl
/-- what is not there before the change was not there -/
theorem keep_free {d : Addr} {H H' : Hp} (k : Keep d H H') (hd : ∃ o, H' d = some o) {l : Addr} (h : H' l = none) : H l = none := by
  cases q : H l with
  | none => rfl
  | some o =>
    by_cases e : l = d
    · subst e
      obtain ⟨o', ho⟩ := hd
      rw [ho] at h
      cases h
    · rw [k l o q e] at h
      cases h

/-! ### dicts -/
theorem dget_of {H : Hp} {a : Addr} {kvs : List (Key × V)} {k : Key} {v : V} (e : H a = some (.dK kvs)) (h : valV kvs k = some v) : DGet H a (kV k) (some v) := by
  have q := DGet.k (k := k) e
  rw [h] at q
  exact q
theorem dput_of {H : Hp} {a : Addr} {kvs kvs' : List (Key × V)} {k : Key} {v : V} (e : H a = some (.dK kvs)) (hl : kvs.length < sizeLine) (h : putK kvs k v = kvs') : DPut H a (kV k) v (upd H a (.dK kvs')) := by
  have q := DPut.k (k := k) (v := v) e hl
  rw [h] at q
  exact q

/-! ### the draws -/
abbrev tk (x : Str) : Key := Sum.inr x
def drawKvs (c : Addr) (a l n : Int) (g : Bool) : List (Key × V) :=
  [(tk "cells", .ref c), (tk "at", .int a), (tk "left", .int l), (tk "number", .int n), (tk "digits", .bl g)]
theorem s_ca : ¬ ("cells" : Str) = "at" := by decide +kernel
theorem k_ca : ¬ tk "cells" = tk "at" := fun z => s_ca (Sum.inr.inj z)
theorem s_cl : ¬ ("cells" : Str) = "left" := by decide +kernel
theorem k_cl : ¬ tk "cells" = tk "left" := fun z => s_cl (Sum.inr.inj z)
theorem s_cn : ¬ ("cells" : Str) = "number" := by decide +kernel
theorem k_cn : ¬ tk "cells" = tk "number" := fun z => s_cn (Sum.inr.inj z)
theorem s_cd : ¬ ("cells" : Str) = "digits" := by decide +kernel
theorem k_cd : ¬ tk "cells" = tk "digits" := fun z => s_cd (Sum.inr.inj z)
theorem s_ac : ¬ ("at" : Str) = "cells" := by decide +kernel
theorem k_ac : ¬ tk "at" = tk "cells" := fun z => s_ac (Sum.inr.inj z)
theorem s_al : ¬ ("at" : Str) = "left" := by decide +kernel
theorem k_al : ¬ tk "at" = tk "left" := fun z => s_al (Sum.inr.inj z)
theorem s_an : ¬ ("at" : Str) = "number" := by decide +kernel
theorem k_an : ¬ tk "at" = tk "number" := fun z => s_an (Sum.inr.inj z)
theorem s_ad : ¬ ("at" : Str) = "digits" := by decide +kernel
theorem k_ad : ¬ tk "at" = tk "digits" := fun z => s_ad (Sum.inr.inj z)
theorem s_lc : ¬ ("left" : Str) = "cells" := by decide +kernel
theorem k_lc : ¬ tk "left" = tk "cells" := fun z => s_lc (Sum.inr.inj z)
theorem s_la : ¬ ("left" : Str) = "at" := by decide +kernel
theorem k_la : ¬ tk "left" = tk "at" := fun z => s_la (Sum.inr.inj z)
theorem s_ln : ¬ ("left" : Str) = "number" := by decide +kernel
theorem k_ln : ¬ tk "left" = tk "number" := fun z => s_ln (Sum.inr.inj z)
theorem s_ld : ¬ ("left" : Str) = "digits" := by decide +kernel
theorem k_ld : ¬ tk "left" = tk "digits" := fun z => s_ld (Sum.inr.inj z)
theorem s_nc : ¬ ("number" : Str) = "cells" := by decide +kernel
theorem k_nc : ¬ tk "number" = tk "cells" := fun z => s_nc (Sum.inr.inj z)
theorem s_na : ¬ ("number" : Str) = "at" := by decide +kernel
theorem k_na : ¬ tk "number" = tk "at" := fun z => s_na (Sum.inr.inj z)
theorem s_nl : ¬ ("number" : Str) = "left" := by decide +kernel
theorem k_nl : ¬ tk "number" = tk "left" := fun z => s_nl (Sum.inr.inj z)
theorem s_nd : ¬ ("number" : Str) = "digits" := by decide +kernel
theorem k_nd : ¬ tk "number" = tk "digits" := fun z => s_nd (Sum.inr.inj z)
theorem s_dc : ¬ ("digits" : Str) = "cells" := by decide +kernel
theorem k_dc : ¬ tk "digits" = tk "cells" := fun z => s_dc (Sum.inr.inj z)
theorem s_da : ¬ ("digits" : Str) = "at" := by decide +kernel
theorem k_da : ¬ tk "digits" = tk "at" := fun z => s_da (Sum.inr.inj z)
theorem s_dl : ¬ ("digits" : Str) = "left" := by decide +kernel
theorem k_dl : ¬ tk "digits" = tk "left" := fun z => s_dl (Sum.inr.inj z)
theorem s_dn : ¬ ("digits" : Str) = "number" := by decide +kernel
theorem k_dn : ¬ tk "digits" = tk "number" := fun z => s_dn (Sum.inr.inj z)
section
variable {H : Hp} {d c : Addr} {a l n v : Int} {g : Bool}
theorem dg_cells : DGet (upd H d (.dK (drawKvs c a l n g))) d (.str "cells") (some (.ref c)) := dget_of (k := tk "cells") upd_same (valV_pos rfl)
theorem dg_at : DGet (upd H d (.dK (drawKvs c a l n g))) d (.str "at") (some (.int a)) := dget_of (k := tk "at") upd_same ((valV_neg k_ca).trans (valV_pos rfl))
theorem dg_left : DGet (upd H d (.dK (drawKvs c a l n g))) d (.str "left") (some (.int l)) := dget_of (k := tk "left") upd_same ((valV_neg k_cl).trans ((valV_neg k_al).trans (valV_pos rfl)))
theorem dg_number : DGet (upd H d (.dK (drawKvs c a l n g))) d (.str "number") (some (.int n)) := dget_of (k := tk "number") upd_same ((valV_neg k_cn).trans ((valV_neg k_an).trans ((valV_neg k_ln).trans (valV_pos rfl))))
theorem dg_digits : DGet (upd H d (.dK (drawKvs c a l n g))) d (.str "digits") (some (.bl g)) := dget_of (k := tk "digits") upd_same ((valV_neg k_cd).trans ((valV_neg k_ad).trans ((valV_neg k_ld).trans ((valV_neg k_nd).trans (valV_pos rfl)))))
theorem put_at : putK (drawKvs c a l n g) (tk "at") (.int v) = drawKvs c v l n g := by
  unfold putK drawKvs
  rw [if_pos (by simp)]
  simp only [List.map_cons, List.map_nil, k_ca, k_la, k_na, k_da, if_false, if_true]
theorem put_left : putK (drawKvs c a l n g) (tk "left") (.int v) = drawKvs c a v n g := by
  unfold putK drawKvs
  rw [if_pos (by simp)]
  simp only [List.map_cons, List.map_nil, k_cl, k_al, k_nl, k_dl, if_false, if_true]
theorem put_number : putK (drawKvs c a l n g) (tk "number") (.int v) = drawKvs c a l v g := by
  unfold putK drawKvs
  rw [if_pos (by simp)]
  simp only [List.map_cons, List.map_nil, k_cn, k_an, k_ln, k_dn, if_false, if_true]
theorem five : (drawKvs c a l n g).length < sizeLine := by
  show 5 < sizeLine
  decide
theorem dp_at : DPut (upd H d (.dK (drawKvs c a l n g))) d (.str "at") (.int v) (upd H d (.dK (drawKvs c v l n g))) := by
  have q := dput_of (k := tk "at") (v := .int v) (upd_same (H := H) (a := d) (o := .dK (drawKvs c a l n g))) five put_at
  rw [upd_upd] at q
  exact q
theorem dp_left : DPut (upd H d (.dK (drawKvs c a l n g))) d (.str "left") (.int v) (upd H d (.dK (drawKvs c a v n g))) := by
  have q := dput_of (k := tk "left") (v := .int v) (upd_same (H := H) (a := d) (o := .dK (drawKvs c a l n g))) five put_left
  rw [upd_upd] at q
  exact q
theorem dp_number : DPut (upd H d (.dK (drawKvs c a l n g))) d (.str "number") (.int v) (upd H d (.dK (drawKvs c a l v g))) := by
  have q := dput_of (k := tk "number") (v := .int v) (upd_same (H := H) (a := d) (o := .dK (drawKvs c a l n g))) five put_number
  rw [upd_upd] at q
  exact q
end
/-- a draw's dict stands at d, its cells at c, at most n draws were mixed -/
def DrawAt (H : Hp) (d c : Addr) (cs : List Int) (n : Nat) : Prop := ∃ (a l m : Int) (g : Bool), H d = some (.dK (drawKvs c a l m g)) ∧ H c = some (.lst (cs.map V.int)) ∧ 0 < cs.length ∧ cs.length ≤ 64 ∧ 0 ≤ a ∧ a ≤ n
section
variable {H H' : Hp} {d c p : Addr} {cs : List Int} {n m : Nat} {o : HO}
theorem DrawAt.mono (h : DrawAt H d c cs n) (e : n ≤ m) : DrawAt H d c cs m := by
  obtain ⟨a, l, k, g, h1, h2, h3, h4, h5, h6⟩ := h
  exact ⟨a, l, k, g, h1, h2, h3, h4, h5, by omega⟩
theorem DrawAt.same (h : DrawAt H d c cs n) (e : Same H H') : DrawAt H' d c cs n := by
  obtain ⟨a, l, k, g, h1, h2, h3⟩ := h
  exact ⟨a, l, k, g, e _ _ h1, e _ _ h2, h3⟩
theorem DrawAt.is (h : DrawAt H d c cs n) : ∃ kvs, H d = some (.dK kvs) := by
  obtain ⟨a, l, k, g, h1, _⟩ := h
  exact ⟨_, h1⟩
theorem DrawAt.cells (h : DrawAt H d c cs n) : H c = some (.lst (cs.map V.int)) := by
  obtain ⟨a, l, k, g, h1, h2, _⟩ := h
  exact h2
theorem DrawAt.ne (h : DrawAt H d c cs n) (hp : H p = none) : p ≠ d := by
  obtain ⟨kvs, e⟩ := h.is
  exact (ne_of_none e hp).symm
theorem DrawAt.neC (h : DrawAt H d c cs n) (hp : H p = none) : p ≠ c := (ne_of_none h.cells hp).symm
/-- another object is written -/
theorem DrawAt.upd (h : DrawAt H d c cs n) (h1 : p ≠ d) (h2 : p ≠ c) : DrawAt (L2.upd H p o) d c cs n := by
  obtain ⟨a, l, k, g, e1, e2, h3⟩ := h
  exact ⟨a, l, k, g, by rw [upd_ne h1.symm]; exact e1, by rw [upd_ne h2.symm]; exact e2, h3⟩
theorem keep_mut (k : Keep d H H') (h : H p = none) : Keep d H (L2.upd H' p o) := fun b x e nb => by
  rw [upd_ne (ne_of_none e h)]
  exact k b x e nb
end
theorem at_mod {cs : List Int} (h : 0 < cs.length) (k : Int) : ∃ z, atI (cs.map V.int) (k % ((cs.map V.int).length : Int)) = some (.int z) := by
  have h0 : (0 : Int) < ((cs.map V.int).length : Int) := by
    rw [List.length_map]
    omega
  have h1 := Int.emod_nonneg k (by omega : ((cs.map V.int).length : Int) ≠ 0)
  have h2 := Int.emod_lt_of_pos k h0
  obtain ⟨j, hj⟩ : ∃ j : Nat, k % ((cs.map V.int).length : Int) = (j : Int) := ⟨_, (Int.toNat_of_nonneg h1).symm⟩
  rw [hj] at h2 ⊢
  have hl : j < (cs.map V.int).length := by omega
  have hl2 : j < cs.length := by
    rw [List.length_map] at hl
    exact hl
  exact ⟨cs[j], atI_nat (by rw [List.getElem?_map, List.getElem?_eq_getElem hl2]; rfl)⟩
/-- a draw: a number below m comes, the draw's dict has changed, nothing else -/
def spPick : Sp := fun vs H Q _ => ∃ (d c : Addr) (cs : List Int) (n : Nat) (m : Int), vs = [.ref d, .int m] ∧ DrawAt H d c cs n ∧ 0 < m ∧ m < 1073741824 ∧ n < 1000000000 ∧
  ∀ (v : Int) (H' : Hp), 0 ≤ v → v < m → DrawAt H' d c cs (n + 1) → Keep d H H' → Q (.int v) H'
end FB

namespace FB
open PySem PySem.Spec PyProof.Rows L2
/-! ### data -/
theorem dpall_int {K : PySem.W.Frag} {H : Hp} : ∀ ns : List Int, DpAll K H (ns.map V.int) (ns.map PyData.int)
  | [] => .nil
  | n :: ns => .cons (.int n) (dpall_int ns)
theorem canlay_int : ∀ ns : List Int, PyData.canLayAll0 (ns.map PyData.int) = true
  | [] => rfl
  | n :: ns => by
    show (PyData.canLay0 (.int n) && PyData.canLayAll0 (ns.map PyData.int)) = true
    rw [canlay_int ns]
    rfl
theorem depth_int : ∀ ns : List Int, PyData.depthAll (ns.map PyData.int) ≤ 1
  | [] => by decide
  | n :: ns => by
    have h := depth_int ns
    simp only [List.map_cons, PyData.depthAll, PyData.depth]
    omega
theorem shaped_ints (ns : List Int) : SeqAt.shaped (.list (ns.map PyData.int)) = true := by
  unfold SeqAt.shaped
  have h1 : PyData.canLay0 (.list (ns.map PyData.int)) = true := canlay_int ns
  have h2 := depth_int ns
  rw [h1, decide_eq_true (show (PyData.list (ns.map PyData.int)).depth ≤ 64 by simp only [PyData.depth]; omega)]
  rfl
theorem merge_draw (c : Addr) (a l n : Int) (g : Bool) : mergeK [] (drawKvs c a l n g) = drawKvs c a l n g := by
  unfold mergeK drawKvs
  simp only [List.foldl_cons, List.foldl_nil]
  rw [putK_new (kvs := []) _ rfl]
  rw [putK_new (k := tk "at") _ (by simp only [List.nil_append]; exact (valV_neg k_ca).trans rfl)]
  rw [putK_new (k := tk "left") _ (by simp only [List.nil_append, List.cons_append]; exact (valV_neg k_cl).trans ((valV_neg k_al).trans rfl))]
  rw [putK_new (k := tk "number") _ (by simp only [List.nil_append, List.cons_append]; exact (valV_neg k_cn).trans ((valV_neg k_an).trans ((valV_neg k_ln).trans rfl)))]
  rw [putK_new (k := tk "digits") _ (by simp only [List.nil_append, List.cons_append]; exact (valV_neg k_cd).trans ((valV_neg k_ad).trans ((valV_neg k_ld).trans ((valV_neg k_nd).trans rfl))))]
  rfl
def spDrawn (K : PySem.W.Frag) : Sp := fun vs H Q _ => ∃ (a : Addr) (ns : List Int), vs = [.ref a] ∧ SqL K H a (ns.map V.int) ∧ ns.length ≤ 63 ∧
  ∀ (d c : Addr) (cs : List Int) (H' : Hp), Same H H' → H d = none → DrawAt H' d c cs 0 → Q (.ref d) H'

/-! ### texts -/
def ltS (a b : Str) : Bool := decide (a.cps.toList < b.cps.toList)
/-- whether the span (l, h) has the key k -/
def hasB (l h k : Str) : Bool := !ltS k l && (decide (V.str h = V.str "") || ltS k h)
def IsKey (z : Str) : Prop := 0 < z.length ∧ z.length ≤ 8 ∧ ∀ c ∈ z.cps.toList, 97 ≤ c ∧ c ≤ 122
def spKey : Sp := fun vs H Q _ => ∃ (d c : Addr) (cs : List Int) (n : Nat), vs = [.ref d] ∧ DrawAt H d c cs n ∧ n < 900000000 ∧ ∀ (z : Str) (H' : Hp), IsKey z → DrawAt H' d c cs (n + 11) → Keep d H H' → Q (.str z) H'
def spHas (K : PySem.W.Frag) : Sp := fun vs H Q _ => ∃ (p : Addr) (l h k : Str), vs = [.ref p, .str k] ∧ SqT K H p [.str l, .str h] ∧ Q (.bl (hasB l h k)) H
/-! ### spans -/
abbrev Sp3 := Addr × Str × Str
structure SpansAt (H : Hp) (a : Addr) (zs : List Sp3) : Prop where
  ls : H a = some (.lst (zs.map fun z => V.ref z.1))
  tp : ∀ z ∈ zs, H z.1 = some (.tup [.str z.2.1, .str z.2.2])
theorem SpansAt.keep {H H' : Hp} {a d : Addr} {zs : List Sp3} (h : SpansAt H a zs) (k : Keep d H H') (hd : ∃ kvs, H d = some (.dK kvs)) : SpansAt H' a zs := by
  obtain ⟨kvs, hd⟩ := hd
  exact ⟨k _ _ h.ls (ne_of h.ls hd (by intro z; cases z)), fun z hz => k _ _ (h.tp z hz) (ne_of (h.tp z hz) hd (by intro z; cases z))⟩
theorem SpansAt.same {H H' : Hp} {a : Addr} {zs : List Sp3} (h : SpansAt H a zs) (k : Same H H') : SpansAt H' a zs :=
  ⟨k _ _ h.ls, fun z hz => k _ _ (h.tp z hz)⟩
/-- the pairs of neighbours -/
def nexts : List Str → List (Str × Str)
  | x :: y :: r => (x, y) :: nexts (y :: r)
  | _ => []
def SpanList (zs : List Sp3) : Prop := ∃ ks : List Str, (∀ k ∈ ks, IsKey k) ∧ ks.Pairwise (fun a b => ltS a b = true) ∧ (zs.map (·.2)).Sublist (nexts (("" : Str) :: (ks ++ [("" : Str)]))) ∧ (∀ z ∈ zs, z.2 ≠ (("" : Str), ("a" : Str))) ∧ zs.length ≤ 30
def spSpans : Sp := fun vs H Q _ => ∃ (d c : Addr) (cs : List Int) (n : Nat) (m : Int), vs = [.ref d, .int m] ∧ DrawAt H d c cs n ∧ n < 900000000 - 1000 ∧ 0 < m ∧ m ≤ 20 ∧
  ∀ (l : Addr) (zs : List Sp3) (H' : Hp), SpanList zs → SpansAt H' l zs → DrawAt H' d c cs (n + 500) → Keep d H H' → H l = none → Q (.ref l) H'
def spSpanWith : Sp := fun vs H Q _ => ∃ (a : Addr) (zs : List Sp3) (k : Str), vs = [.ref a, .str k] ∧ SpansAt H a zs ∧
  Q (match zs.find? (fun z => hasB z.2.1 z.2.2 k) with | some z => .ref z.1 | none => .non) H
def spAsked : Sp := fun vs H Q _ => ∃ (d c : Addr) (cs : List Int) (n : Nat) (a : Addr) (zs : List Sp3), vs = [.ref d, .ref a] ∧ DrawAt H d c cs n ∧ n < 900000000 - 1000 ∧ SpansAt H a zs ∧ zs.length ≤ 30 ∧
  ∀ (l : Addr) (ks : List Str) (H' : Hp), (∃ ds : List Str, (∀ k ∈ ds, IsKey k) ∧ ks = ds ++ (zs.map fun z => [z.2.1, z.2.2].filter fun x => !decide (V.str x = V.str "")).flatten) → ks.length ≤ 100 → H' l = some (.lst (ks.map V.str)) → DrawAt H' d c cs (n + 200) → Keep d H H' → H l = none → Q (.ref l) H'
end FB

namespace FB
open PySem PySem.Spec PyProof.Rows L2
/-! ### the order of texts -/
theorem ltS_irrefl (a : Str) : ltS a a = false := decide_eq_false (List.lt_irrefl _)
theorem ltS_trans {a b c : Str} (h : ltS a b = true) (h' : ltS b c = true) : ltS a c = true := decide_eq_true (List.lt_trans (of_decide_eq_true h) (of_decide_eq_true h'))
theorem ltS_asymm {a b : Str} (h : ltS a b = true) : ltS b a = false := by
  cases e : ltS b a with
  | false => rfl
  | true => exact absurd (ltS_trans h e) (by rw [ltS_irrefl]; decide)
theorem ltS_tri {a b : Str} (h : ltS b a = false) (h' : a ≠ b) : ltS a b = true := by
  have h1 : ¬ b.cps.toList < a.cps.toList := of_decide_eq_false h
  apply decide_eq_true
  apply Decidable.byContradiction
  intro h2
  apply h'
  have e : a.cps.toList = b.cps.toList := List.le_antisymm (List.not_lt.mp h1) (List.not_lt.mp h2)
  cases a; cases b
  simp only [Str.mk.injEq]
  exact Array.toList_inj.mp e
theorem strict_of_rising : ∀ (p : Str) (l : List Str), risingS p l = true → (p :: l).Nodup → (p :: l).Pairwise (fun a b => ltS a b = true)
  | p, [], _, _ => by simp
  | p, x :: r, h, nd => by
    have h' : (!ltCps x.cps.toList p.cps.toList && risingS x r) = true := h
    rw [Bool.and_eq_true] at h'
    obtain ⟨h1, h2⟩ := h'
    have nd' := List.nodup_cons.mp nd
    have ih := strict_of_rising x r h2 nd'.2
    have hne : p ≠ x := fun e => nd'.1 (by rw [e]; simp)
    have hlt : ltS p x = true := by
      apply ltS_tri _ hne
      rw [ltCps_eq] at h1
      unfold ltS
      cases e : decide (x.cps.toList < p.cps.toList) with
      | false => rfl
      | true => rw [e] at h1; cases h1
    refine List.pairwise_cons.mpr ⟨fun y hy => ?_, ih⟩
    rcases List.mem_cons.mp hy with rfl | hy
    · exact hlt
    · exact ltS_trans hlt ((List.pairwise_cons.mp ih).1 y hy)
theorem strict_of_sorted (l : List Str) (h : sortedS l = true) (nd : l.Nodup) : l.Pairwise (fun a b => ltS a b = true) := by
  cases l with
  | nil => simp
  | cons p r => exact strict_of_rising p r h nd
theorem inV_str (z : Str) : ∀ ks : List Str, inV (.str z) (ks.map V.str) = decide (z ∈ ks)
  | [] => by simp [inV]
  | k :: r => by
    have ih := inV_str z r
    unfold inV at ih ⊢
    rw [List.map_cons, List.any_cons, ih]
    show ((k == z) || decide (z ∈ r)) = decide (z ∈ k :: r)
    by_cases e : k = z
    · subst e
      simp
    · have e2 : ¬ z = k := fun h => e h.symm
      simp [e, e2]
theorem flat_strs : ∀ ks : List Str, (ks.map V.str).all flatV = true
  | [] => rfl
  | k :: r => by
    rw [List.map_cons, List.all_cons, flat_strs r]
    rfl
theorem nexts_len : ∀ xs : List Str, (nexts xs).length = xs.length - 1
  | [] => rfl
  | [_] => rfl
  | x :: y :: r => by
    show (nexts (y :: r)).length + 1 = (y :: r).length + 1 - 1
    rw [nexts_len (y :: r)]
    simp
theorem nexts_get : ∀ (xs : List Str) (i : Nat) (x y : Str), xs[i]? = some x → xs[i + 1]? = some y → (nexts xs)[i]? = some (x, y)
  | [], _, _, _, h, _ => by simp at h
  | [_], 0, _, _, _, h => by simp at h
  | [_], i + 1, _, _, h, _ => by simp at h
  | a :: b :: r, 0, x, y, h, h2 => by
    have e1 : a = x := Option.some.inj h
    have e2 : b = y := Option.some.inj h2
    rw [← e1, ← e2]
    rfl
  | a :: b :: r, i + 1, x, y, h, h2 => nexts_get (b :: r) i x y h h2
theorem cut1 (xs : List V) : cutV xs (some 1) none = xs.drop 1 := by
  unfold cutV
  rw [show HT.sIx xs.length 0 (some 1) = min 1 xs.length from HT.sIx_nat xs.length 0 1, HT.sIx_none]
  cases xs with
  | nil => rfl
  | cons x r =>
    rw [show min 1 (x :: r).length = 1 by
      rw [List.length_cons]
      omega]
    show (List.take ((x :: r).length - 1) r) = r
    rw [List.length_cons, Nat.add_sub_cancel]
    exact List.take_length
/-- zip of two lists of any lengths: n turns -/
theorem for_zipG {K : PySem.W.Frag} {a b : Addr} {xs ys : List V} {g : TG} {tb : TS} {D : Ends} {σ : L2.St} {H : Hp} (n : Nat) (hx : n ≤ xs.length) (hy : n ≤ ys.length) (he : xs.length ≤ n ∨ ys.length ≤ n) (Pv : Nat → L2.St → Hp → Prop) (h0 : Pv 0 σ H) (hq : ∀ i σ H, Pv i σ H → SqL K H a xs ∧ SqL K H b ys)
    (hs : ∀ (i : Nat) (x y : V) (T : Addr) (σ : L2.St) (H : Hp), xs[i]? = some x → ys[i]? = some y → Pv i σ H → H T = none → g (.ref T) σ (upd H T (.tup [x, y])) fun σ2 H2 => tb { D with nx := Pv (i + 1), ct := Pv (i + 1), bk := D.nx } σ2 H2) (hd : ∀ σ H, Pv n σ H → D.nx σ H) :
    ∃ W : Nat → Nat → L2.St → Hp → Prop, (∃ m, W 0 m σ H) ∧ ∀ i m σ H, W i m σ H →
      ((Itz K a b).stop i H ∧ D.nx σ H) ∨ ((Itz K a b).go i H ∧ ∃ N : L2.St → Hp → Prop, (∀ σ' H', N σ' H' → ∃ m', m' < m ∧ W (i + 1) m' σ' H') ∧ ∀ v H', (Itz K a b).yld i H v H' → g v σ H' fun σ2 H2 => tb { D with nx := N, ct := N, bk := D.nx } σ2 H2) := by
  refine ⟨fun i m σ H => m = n - i ∧ i ≤ n ∧ Pv i σ H, ⟨n, rfl, Nat.zero_le _, h0⟩, ?_⟩
  rintro i m σ H ⟨rfl, hi, p⟩
  obtain ⟨qx, qy⟩ := hq i σ H p
  by_cases hlt : i < n
  · have h1 : xs[i]? = some (xs[i]'(by omega)) := List.getElem?_eq_getElem _
    have h2 : ys[i]? = some (ys[i]'(by omega)) := List.getElem?_eq_getElem _
    refine .inr ⟨⟨xs, ys, _, _, qx, qy, h1, h2⟩, Pv (i + 1), fun σ' H' p' => ⟨n - (i + 1), by omega, rfl, hlt, p'⟩, fun v H' y => ?_⟩
    obtain ⟨T, x', y', rfl, hT, rfl, f1, f2⟩ := y
    exact hs i x' y' T σ H (f1 xs qx) (f2 ys qy) p hT
  · have e : i = n := by omega
    subst e
    exact .inl ⟨⟨xs, ys, qx, qy, he⟩, hd σ H p⟩
/-! ### texts that are keys or empty -/
def KeyOr (z : Str) : Prop := z = "" ∨ IsKey z
theorem KeyOr.ok {z : Str} (h : KeyOr z) : PyData.strOk z = true := by
  rcases h with rfl | ⟨_, _, h⟩
  · decide +kernel
  · unfold PyData.strOk
    rw [Array.all_eq_true']
    intro c hc
    have := h c (Array.mem_toList_iff.mpr hc)
    exact decide_eq_true (by omega)
theorem shaped2 {x y : Str} (hx : KeyOr x) (hy : KeyOr y) : SeqAt.shaped (.tuple [.str x, .str y]) = true := by
  simp [SeqAt.shaped, PyData.canLay0, PyData.canLayAll0, PyData.depth, PyData.depthAll, hx.ok, hy.ok]
theorem key_a : KeyOr "a" := .inr (by unfold IsKey; decide +kernel)
theorem nexts_mem : ∀ (xs : List Str) (p : Str × Str), p ∈ nexts xs → p.1 ∈ xs ∧ p.2 ∈ xs
  | [], _, h => by simp [nexts] at h
  | [_], _, h => by simp [nexts] at h
  | a :: b :: r, p, h => by
    rcases List.mem_cons.mp h with rfl | h
    · simp
    · obtain ⟨h1, h2⟩ := nexts_mem (b :: r) p h
      exact ⟨List.mem_cons_of_mem _ h1, List.mem_cons_of_mem _ h2⟩
theorem full_keys {ys : List Str} (h : ∀ k ∈ ys, IsKey k) : ∀ z ∈ (("" : Str) :: (ys ++ [("" : Str)])), KeyOr z := fun z hz => by
  have : z = "" ∨ z ∈ ys ∨ z = "" := by simpa using hz
  rcases this with q | q | q
  · exact .inl q
  · exact .inr (h z q)
  · exact .inl q
theorem SpanList.keys {zs : List Sp3} (h : SpanList zs) : ∀ z ∈ zs, KeyOr z.2.1 ∧ KeyOr z.2.2 := fun z hz => by
  obtain ⟨ks, h1, _, h3, _⟩ := h
  have hm : z.2 ∈ nexts (("" : Str) :: (ks ++ [("" : Str)])) := h3.subset (List.mem_map.mpr ⟨z, hz, rfl⟩)
  obtain ⟨a, b⟩ := nexts_mem _ _ hm
  exact ⟨full_keys h1 _ a, full_keys h1 _ b⟩
end FB

namespace FB
open PySem PySem.Spec PyProof.Rows L2
/-! ### max of two and of three texts -/
section
variable {prog : Program} {w : World} {A : Around} {E : Value → Shared → Prop} {s : Shared}
theorem cmp_strs {P : Nat → Value → Prop} (val : Nat → Str) (hval : ∀ i v, P i v → ∃ t, v = .str (val i) t) : CmpOf prog w A .Gt P (fun i j => ltS (val j) (val i)) := fun i j vi vj s Q E hi hj h => by
  obtain ⟨t, rfl⟩ := hval i vi hi
  obtain ⟨u, rfl⟩ := hval j vj hj
  exact PySem.P.gt_str (t := t) (u := u) h
theorem max_two_strs {a b : Str} {t u : Tok} {Q : Value → Shared → Prop} (hh : A.handled = none)
    (h : ∀ h' tk, (∀ c o, s.heap.get? c = some o → h'.get? c = some o) → Q (if ltS a b = true then .str b u else .str a t) { s with heap := h', toks := tk }) :
    wpAny (model prog w) A (call (.builtin "max") [.str a t, .str b u]) Q E s := by
  have hT : (s.heap.push { cls := .type "tuple", data := .seq #[.str a t, .str b u] }).IsTuple s.heap.objs.size #[.str a t, .str b u] := ⟨_, Heap.get?_push_size _ rfl, rfl, 0, rfl⟩
  refine call_max_two (wpAny_pyIter_tuple hT ?_)
  have hsz : (s.heap.push { cls := .type "tuple", data := .seq #[.str a t, .str b u] }).objs.size = s.heap.objs.size + 1 := Heap.size_push ..
  refine ⟨_, [_, s.heap.objs.size], [_], _, _, _, _, rfl, Walks.tuple (A := A.in1) hh _ s.heap.objs.size (by rw [hsz]; exact Nat.ne_of_lt (Nat.lt_succ_self _)) #[.str a t, .str b u],
    ⟨⟨_, Heap.get?_push_size _ rfl, rfl, rfl⟩, hT.push _⟩, fun c hc => ?_, by simp, cmp_strs (fun i => if i = 0 then a else b) (fun i v hv => ?_), fun v h' tk hP hk => ?_⟩
  · show c < ((s.heap.push _).push _).objs.size
    rw [Heap.size_push, hsz]
    rcases List.mem_cons.mp hc with rfl | hc
    · rw [hsz]; exact Nat.lt_succ_self _
    · rcases List.mem_cons.mp hc with rfl | hc
      · exact Nat.lt_succ_of_lt (Nat.lt_succ_self _)
      · cases hc
  · match i, hv with
    | 0, hv => exact ⟨t, by simpa using hv.symm⟩
    | 1, hv => exact ⟨u, by simpa using hv.symm⟩
    | n + 2, hv => simp at hv
  · have hold : ∀ d o, s.heap.get? d = some o → h'.get? d = some o := fun d o e => by
      refine hk d o (fun hm => ?_) (Heap.get?_push_of_some _ (Heap.get?_push_of_some _ e))
      rcases List.mem_cons.mp hm with e1 | hm
      · have := Heap.lt_size e; rw [e1, hsz] at this; exact Nat.lt_irrefl _ (Nat.lt_of_succ_lt this)
      · cases hm
    have := h h' tk hold
    have hv : v = if ltS a b = true then Value.str b u else Value.str a t := by
      have hP' : (#[Value.str a t, .str b u])[argBest (fun i j => ltS (if j = 0 then a else b) (if i = 0 then a else b)) 1]? = some v := hP
      by_cases hba : ltS a b = true
      · have e : argBest (fun i j => ltS (if j = 0 then a else b) (if i = 0 then a else b)) 1 = 1 := by simp [argBest, hba]
        rw [e] at hP'
        simpa [hba] using hP'.symm
      · have e : argBest (fun i j => ltS (if j = 0 then a else b) (if i = 0 then a else b)) 1 = 0 := by simp [argBest, hba]
        rw [e] at hP'
        simpa [hba] using hP'.symm
    rw [hv]
    exact this
theorem max_three_strs {a b c : Str} {t u x : Tok} {Q : Value → Shared → Prop} (hh : A.handled = none)
    (h : ∀ h' tk, (∀ d o, s.heap.get? d = some o → h'.get? d = some o) → Q (if ltS a b = true then (if ltS b c = true then .str c x else .str b u) else (if ltS a c = true then .str c x else .str a t)) { s with heap := h', toks := tk }) :
    wpAny (model prog w) A (call (.builtin "max") [.str a t, .str b u, .str c x]) Q E s := by
  have hT : (s.heap.push { cls := .type "tuple", data := .seq #[.str a t, .str b u, .str c x] }).IsTuple s.heap.objs.size #[.str a t, .str b u, .str c x] := ⟨_, Heap.get?_push_size _ rfl, rfl, 0, rfl⟩
  refine call_max_three (wpAny_pyIter_tuple hT ?_)
  have hsz : (s.heap.push { cls := .type "tuple", data := .seq #[.str a t, .str b u, .str c x] }).objs.size = s.heap.objs.size + 1 := Heap.size_push ..
  refine ⟨_, [_, s.heap.objs.size], [_], _, _, _, _, rfl, Walks.tuple (A := A.in1) hh _ s.heap.objs.size (by rw [hsz]; exact Nat.ne_of_lt (Nat.lt_succ_self _)) #[.str a t, .str b u, .str c x],
    ⟨⟨_, Heap.get?_push_size _ rfl, rfl, rfl⟩, hT.push _⟩, fun d hd => ?_, by simp, cmp_strs (fun i => if i = 0 then a else if i = 1 then b else c) (fun i v hv => ?_), fun v h' tk hP hk => ?_⟩
  · show d < ((s.heap.push _).push _).objs.size
    rw [Heap.size_push, hsz]
    rcases List.mem_cons.mp hd with rfl | hd
    · rw [hsz]; exact Nat.lt_succ_self _
    · rcases List.mem_cons.mp hd with rfl | hd
      · exact Nat.lt_succ_of_lt (Nat.lt_succ_self _)
      · cases hd
  · match i, hv with
    | 0, hv => exact ⟨t, by simpa using hv.symm⟩
    | 1, hv => exact ⟨u, by simpa using hv.symm⟩
    | 2, hv => exact ⟨x, by simpa using hv.symm⟩
    | n + 3, hv => simp at hv
  · have hold : ∀ d o, s.heap.get? d = some o → h'.get? d = some o := fun d o e => by
      refine hk d o (fun hm => ?_) (Heap.get?_push_of_some _ (Heap.get?_push_of_some _ e))
      rcases List.mem_cons.mp hm with e1 | hm
      · have := Heap.lt_size e; rw [e1, hsz] at this; exact Nat.lt_irrefl _ (Nat.lt_of_succ_lt this)
      · cases hm
    have := h h' tk hold
    have hv : v = if ltS a b = true then (if ltS b c = true then Value.str c x else .str b u) else (if ltS a c = true then .str c x else .str a t) := by
      have hP' : (#[Value.str a t, .str b u, .str c x])[argBest (fun i j => ltS (if j = 0 then a else if j = 1 then b else c) (if i = 0 then a else if i = 1 then b else c)) 2]? = some v := hP
      by_cases hba : ltS a b = true
      · by_cases hc : ltS b c = true
        · have e : argBest (fun i j => ltS (if j = 0 then a else if j = 1 then b else c) (if i = 0 then a else if i = 1 then b else c)) 2 = 2 := by simp [argBest, hba, hc]
          rw [e] at hP'
          simpa [hba, hc] using hP'.symm
        · have e : argBest (fun i j => ltS (if j = 0 then a else if j = 1 then b else c) (if i = 0 then a else if i = 1 then b else c)) 2 = 1 := by simp [argBest, hba, hc]
          rw [e] at hP'
          simpa [hba, hc] using hP'.symm
      · by_cases hc : ltS a c = true
        · have e : argBest (fun i j => ltS (if j = 0 then a else if j = 1 then b else c) (if i = 0 then a else if i = 1 then b else c)) 2 = 2 := by simp [argBest, hba, hc]
          rw [e] at hP'
          simpa [hba, hc] using hP'.symm
        · have e : argBest (fun i j => ltS (if j = 0 then a else if j = 1 then b else c) (if i = 0 then a else if i = 1 then b else c)) 2 = 0 := by simp [argBest, hba, hc]
          rw [e] at hP'
          simpa [hba, hc] using hP'.symm
    rw [hv]
    exact this
end
def maxS (a b : Str) : Str := if ltS a b = true then b else a
section
variable {X : Cx}
theorem call_max2S (hc : X.calm = true) : CallR X (.builtin "max") (fun xs H Q => ∃ i j, xs = [.str i, .str j] ∧ Q (.str (maxS i j)) H) := by
  intro pins s σ H xs us Q I r h
  obtain ⟨i, j, rfl, q⟩ := h
  obtain ⟨u, w', rfl, ⟨t, rfl⟩, ⟨t', rfl⟩⟩ := vals2 r
  refine max_two_strs (I.ok.hd hc) fun h' tk k => ⟨_, H, I.kept k, ?_, q⟩
  unfold maxS
  by_cases hj : ltS i j = true
  · rw [if_pos hj, if_pos hj]; exact ⟨_, rfl⟩
  · rw [if_neg hj, if_neg hj]; exact ⟨_, rfl⟩
theorem call_max3S (hc : X.calm = true) : CallR X (.builtin "max") (fun xs H Q => ∃ i j k, xs = [.str i, .str j, .str k] ∧ Q (.str (maxS (maxS i j) k)) H) := by
  intro pins s σ H xs us Q I r h
  obtain ⟨i, j, k, rfl, q⟩ := h
  cases r with
  | cons r1 r2 =>
    obtain ⟨u, w', rfl, ⟨t', rfl⟩, ⟨t'', rfl⟩⟩ := vals2 r2
    obtain ⟨t, rfl⟩ := r1
    refine max_three_strs (I.ok.hd hc) fun h' tk k' => ⟨_, H, I.kept k', ?_, q⟩
    unfold maxS
    by_cases hj : ltS i j = true
    · rw [if_pos hj, if_pos hj]
      by_cases hk : ltS j k = true
      · rw [if_pos hk, if_pos hk]; exact ⟨_, rfl⟩
      · rw [if_neg hk, if_neg hk]; exact ⟨_, rfl⟩
    · rw [if_neg hj, if_neg hj]
      by_cases hk : ltS i k = true
      · rw [if_pos hk, if_pos hk]; exact ⟨_, rfl⟩
      · rw [if_neg hk, if_neg hk]; exact ⟨_, rfl⟩
/-! ### rules whose written part is named -/
variable {K : PySem.W.Frag}
theorem ix_listK (h : X.K = K) : IxR X (rIxL K) := h ▸ ix_list
theorem ix_tupK (h : X.K = K) : IxR X (rIxT K) := h ▸ ix_tup
theorem sl_listK (h : X.K = K) : SlR X (rSlL K) := h ▸ sl_list
theorem op_in_seqK (h : X.K = K) : OpR X (compareOp .In) (rIn K false) := h ▸ op_in_seq
theorem op_notIn_seqK (h : X.K = K) : OpR X (compareOp .NotIn) (rIn K true) := h ▸ op_notIn_seq
theorem op_eqDK (h : X.K = K) (hu : X.A.units + 64 < cLine) : OpR X (compareOp .Eq) (rEqD K) := h ▸ op_eqD hu
theorem op_neDK (h : X.K = K) (hu : X.A.units + 64 < cLine) : OpR X (compareOp .NotEq) (rNeD K) := h ▸ op_neD hu
theorem call_isiK' (h : X.K = K) : CallR X (.builtin "isinstance") (rIsi K) := h ▸ call_isi
theorem call_len_seqK (h : X.K = K) : CallR X (.builtin "len") (fun xs H Q => ∃ p ys, xs = [.ref p] ∧ (SqL K H p ys ∨ SqT K H p ys) ∧ Q (.int ys.length) H) := h ▸ call_len_seq
end
end FB

namespace FB
open PySem PySem.Spec PyProof.Rows L2
/-! ### joined spans -/
abbrev Sp2 := Str × Str
theorem nil_or_snoc {α : Type} (A : List α) : A = [] ∨ ∃ B p, A = B ++ [p] := by
  rcases List.eq_nil_or_concat A with h | ⟨B, p, h⟩
  · exact .inl h
  · exact .inr ⟨B, p, by rw [h, List.concat_eq_append]⟩
def jstep (k : Str) (acc : List Sp2) (z : Sp2) : List Sp2 :=
  match acc.getLast? with
  | some p => if p.2 = k ∧ z.1 = k then acc.dropLast ++ [(p.1, z.2)] else acc ++ [z]
  | none => acc ++ [z]
theorem jstep_nil (k : Str) (z : Sp2) : jstep k [] z = [z] := rfl
theorem jstep_yes {k : Str} {A : List Sp2} {p z : Sp2} (h : p.2 = k ∧ z.1 = k) : jstep k (A ++ [p]) z = A ++ [(p.1, z.2)] := by
  unfold jstep
  rw [List.getLast?_concat]
  simp only [if_pos h, List.dropLast_concat]
theorem jstep_no {k : Str} {A : List Sp2} {p z : Sp2} (h : ¬ (p.2 = k ∧ z.1 = k)) : jstep k (A ++ [p]) z = A ++ [p] ++ [z] := by
  unfold jstep
  rw [List.getLast?_concat]
  simp only [if_neg h]
theorem jstep_low {k : Str} {A : List Sp2} {z : Sp2} (h : z.1 ≠ k) : jstep k A z = A ++ [z] := by
  rcases nil_or_snoc A with rfl | ⟨B, p, rfl⟩
  · rfl
  · exact jstep_no fun q => h q.2
theorem jfold_low {k : Str} : ∀ (L acc : List Sp2), (∀ z ∈ L, z.1 ≠ k) → L.foldl (jstep k) acc = acc ++ L
  | [], acc, _ => by simp
  | z :: r, acc, h => by
    rw [List.foldl_cons, jstep_low (h z (by simp)), jfold_low r _ fun y hy => h y (by simp [hy]), List.append_assoc]
    rfl
structure Good (L : List Sp2) : Prop where
  pw : L.Pairwise (fun p q => p.2 ≠ ("" : Str) ∧ ltS q.1 p.2 = false)
  up : ∀ p ∈ L, p.2 = ("" : Str) ∨ ltS p.1 p.2 = true
theorem nexts_fst : ∀ (x : Str) (r : List Str) (q : Sp2), q ∈ nexts (x :: (r ++ [("" : Str)])) → q.1 ∈ x :: r
  | x, [], q, h => by
    have : q = (x, ("" : Str)) := by simpa [nexts] using h
    rw [this]
    simp
  | x, y :: r, q, h => by
    rcases List.mem_cons.mp h with rfl | h
    · simp
    · exact List.mem_cons_of_mem _ (nexts_fst y r q h)
theorem good_nexts : ∀ (x : Str) (ys : List Str), (x :: ys).Pairwise (fun a b => ltS a b = true) → (∀ y ∈ ys, y ≠ ("" : Str)) → Good (nexts (x :: (ys ++ [("" : Str)])))
  | x, [], _, _ => ⟨by simp [nexts], fun p hp => .inl (by have : p = (x, ("" : Str)) := by simpa [nexts] using hp
                                                          rw [this])⟩
  | x, y :: r, hp, hy => by
    obtain ⟨h1, h2⟩ := List.pairwise_cons.mp hp
    obtain ⟨g1, g2⟩ := good_nexts y r h2 fun z hz => hy z (by simp [hz])
    refine ⟨List.pairwise_cons.mpr ⟨fun q hq => ⟨hy y (by simp), ?_⟩, g1⟩, fun p hp => ?_⟩
    · have hm := nexts_fst y r q hq
      rcases List.mem_cons.mp hm with e | e
      · rw [e]
        exact ltS_irrefl _
      · exact ltS_asymm ((List.pairwise_cons.mp h2).1 _ e)
    · rcases List.mem_cons.mp hp with rfl | hp
      · exact .inr (h1 y (by simp))
      · exact g2 p hp
theorem Good.sub {L L' : List Sp2} (h : Good L) (s : L'.Sublist L) : Good L' := ⟨h.pw.sublist s, fun p hp => h.up p (s.subset hp)⟩
theorem ltS_ne {a b : Str} (h : ltS a b = true) : a ≠ b := fun e => by
  rw [e, ltS_irrefl] at h
  cases h
/-- not less, and less: less -/
theorem lt_of_nlt {a b c : Str} (h : ltS b a = false) (h' : ltS b c = true) : ltS a c = true ∨ a = b := by
  by_cases e : a = b
  · exact .inr e
  · exact .inl (ltS_trans (ltS_tri h e) h')
def dueJ (k : Str) (L : List Sp2) : List Sp2 :=
  match L.filter (fun p => decide (p.2 = k)), L.filter (fun p => decide (p.1 = k)) with
  | e :: _, b :: _ => (L.filter (fun p => decide (p ≠ b))).map fun p => if p = e then (e.1, b.2) else p
  | _, _ => L
theorem filter_none {α : Type} {p : α → Bool} {l : List α} (h : ∀ x ∈ l, p x = false) : l.filter p = [] := by
  rw [List.filter_eq_nil_iff]
  intro x hx
  rw [h x hx]
  decide
theorem filter_all {α : Type} {p : α → Bool} {l : List α} (h : ∀ x ∈ l, p x = true) : l.filter p = l := List.filter_eq_self.mpr h
theorem map_id_on {α : Type} {g : α → α} {l : List α} (h : ∀ x ∈ l, g x = x) : l.map g = l := by
  induction l with
  | nil => rfl
  | cons x r ih => rw [List.map_cons, h x (by simp), ih fun y hy => h y (by simp [hy])]
theorem join_due {k : Str} {L : List Sp2} (g : Good L) (hk : k ≠ ("" : Str)) : L.foldl (jstep k) [] = dueJ k L := by
  by_cases hex : ∃ q ∈ L, q.1 = k
  · obtain ⟨q, hq, rfl⟩ := hex
    obtain ⟨A, C, rfl⟩ := List.append_of_mem hq
    have pw := List.pairwise_append.mp g.pw
    have pC := (List.pairwise_cons.mp pw.2.1).1
    have upq := g.up q (by simp)
    -- what stands behind q
    have hqlt : ∀ x ∈ C, ltS q.1 q.2 = true := fun x hx => upq.resolve_left (pC x hx).1
    have hC1 : ∀ x ∈ C, x.1 ≠ q.1 := fun x hx e => by
      have := (pC x hx).2
      rw [e, hqlt x hx] at this
      cases this
    have hq2 : q.2 ≠ q.1 := fun e => by
      rcases upq with h | h
      · exact hk (e ▸ h)
      · exact ltS_ne h e.symm
    have hC2 : ∀ x ∈ C, x.2 ≠ q.1 := fun x hx e => by
      rcases g.up x (by simp [hx]) with h | h
      · exact hk (e ▸ h)
      · have h1 := (pC x hx).2
        have h2 := hqlt x hx
        by_cases e2 : q.2 = x.1
        · rw [← e2, e] at h
          rw [ltS_asymm h2] at h
          cases h
        · have h3 := ltS_tri h1 e2
          have h4 := ltS_trans h2 (ltS_trans h3 h)
          rw [e, ltS_irrefl] at h4
          cases h4
    -- what stands ahead of q
    have hA : ∀ x ∈ A, x.2 ≠ ("" : Str) ∧ ltS q.1 x.2 = false := fun x hx => pw.2.2 x hx q (by simp)
    have hAl : ∀ x ∈ A, ltS x.1 x.2 = true := fun x hx => (g.up x (by simp [hx])).resolve_left (hA x hx).1
    have hA1 : ∀ x ∈ A, x.1 ≠ q.1 := fun x hx e => by
      have h1 := hAl x hx
      rw [e, (hA x hx).2] at h1
      cases h1
    have ef : (A ++ q :: C).foldl (jstep q.1) [] = jstep q.1 A q ++ C := by
      rw [List.foldl_append, List.foldl_cons, jfold_low A [] hA1, List.nil_append, jfold_low C _ hC1]
    have eb : (A ++ q :: C).filter (fun p => decide (p.1 = q.1)) = [q] := by
      rw [List.filter_append, List.filter_cons, if_pos (decide_eq_true rfl), filter_none fun x hx => decide_eq_false (hA1 x hx), filter_none fun x hx => decide_eq_false (hC1 x hx)]
      rfl
    rw [ef]
    unfold dueJ
    rw [eb]
    rcases nil_or_snoc A with rfl | ⟨B, p, rfl⟩
    · have ee : (([] : List Sp2) ++ q :: C).filter (fun p => decide (p.2 = q.1)) = [] := filter_none fun x hx => by
        rcases List.mem_cons.mp hx with rfl | hx
        · exact decide_eq_false hq2
        · exact decide_eq_false (hC2 x hx)
      rw [ee, jstep_nil]
      rfl
    · have hB2 : ∀ x ∈ B, x.2 ≠ q.1 := fun x hx e => by
        have h1 := (List.pairwise_append.mp pw.1).2.2 x hx p (by simp)
        have h2 := hAl p (by simp)
        rw [e] at h1
        have h3 := (hA p (by simp)).2
        rcases lt_of_nlt h1.2 h2 with h4 | h4
        · rw [h4] at h3
          cases h3
        · rw [h4, h2] at h3
          cases h3
      have hBC : ∀ x ∈ q :: C, x.2 ≠ q.1 := fun x hx => by
        rcases List.mem_cons.mp hx with rfl | hx
        · exact hq2
        · exact hC2 x hx
      by_cases hp : p.2 = q.1
      · have ee : (B ++ [p] ++ q :: C).filter (fun p => decide (p.2 = q.1)) = [p] := by
          rw [List.filter_append, List.filter_append, filter_none fun x hx => decide_eq_false (hB2 x hx), filter_none fun x hx => decide_eq_false (hBC x hx), List.filter_cons, if_pos (decide_eq_true hp)]
          rfl
        have en : (B ++ [p] ++ q :: C).filter (fun x => decide (x ≠ q)) = B ++ [p] ++ C := by
          rw [List.filter_append, List.filter_cons, if_neg (by simp), filter_all (l := B ++ [p]) fun x hx => decide_eq_true (show x ≠ q from fun e => hA1 x hx (by rw [e])), filter_all (l := C) fun x hx => decide_eq_true (show x ≠ q from fun e => hC1 x hx (by rw [e]))]
        rw [ee, jstep_yes ⟨hp, rfl⟩]
        simp only
        rw [en, List.map_append, List.map_append, map_id_on fun x hx => if_neg fun e => hB2 x hx (by rw [e]; exact hp), map_id_on (l := C) fun x hx => if_neg fun e => hC2 x hx (by rw [e]; exact hp), List.map_singleton, if_pos rfl]
      · have ee : (B ++ [p] ++ q :: C).filter (fun p => decide (p.2 = q.1)) = [] := by
          rw [List.filter_append, List.filter_append, filter_none fun x hx => decide_eq_false (hB2 x hx), filter_none fun x hx => decide_eq_false (hBC x hx), List.filter_cons, if_neg (by rw [decide_eq_false hp]; decide)]
          rfl
        rw [ee, jstep_no fun h => hp h.1, List.append_assoc]
        rfl
  · have hn : ∀ z ∈ L, z.1 ≠ k := fun z hz e => hex ⟨z, hz, e⟩
    rw [jfold_low L [] hn, List.nil_append]
    unfold dueJ
    rw [filter_none (p := fun p => decide (p.1 = k)) fun x hx => decide_eq_false (hn x hx)]
    split
    · rename_i h
      cases h
    · rfl
theorem good_spans {zs : List Sp3} (h : SpanList zs) : Good (zs.map (·.2)) := by
  obtain ⟨ks, h1, h2, h3, _⟩ := h
  have g : Good (nexts (("" : Str) :: (ks ++ [("" : Str)]))) := by
    refine good_nexts "" ks (List.pairwise_cons.mpr ⟨fun y hy => ?_, h2⟩) fun y hy e => ?_
    · have hy' := h1 y hy
      refine ltS_tri ?_ fun e => ?_
      · apply decide_eq_false
        have ea : ("" : Str).cps.toList = [] := by decide +kernel
        rw [ea]
        exact List.not_lt_nil _
      · rw [← e] at hy'
        exact absurd hy'.1 (by decide +kernel)
    · have hy' := h1 y hy
      rw [e] at hy'
      exact absurd hy'.1 (by decide +kernel)
  exact g.sub h3
end FB

namespace FB
open PySem PySem.Spec PyProof.Rows L2
/-! ### every key kept -/
def akF (u : Str) : List Sp2 → Bool
  | [] => false
  | p :: r => if ltS u p.1 = true then false else if p.2 = "" then true else akF (maxS u p.2) r
def keptL (L : List Sp2) (e : Str) : Bool := L.any fun p => hasB p.1 p.2 e
def highs (L : List Sp2) : List Str := (L.map (·.2)).filter fun x => !decide (V.str x = V.str "")
theorem highs_mem {L : List Sp2} {e : Str} (h : e ∈ highs L) : ∃ p ∈ L, p.2 = e ∧ e ≠ "" := by
  obtain ⟨h1, h2⟩ := List.mem_filter.mp h
  obtain ⟨p, hp, rfl⟩ := List.mem_map.mp h1
  refine ⟨p, hp, rfl, fun e => ?_⟩
  rw [e, decide_eq_true rfl] at h2
  cases h2
theorem highs_of {L : List Sp2} {p : Sp2} (h : p ∈ L) (h' : p.2 ≠ "") : p.2 ∈ highs L := List.mem_filter.mpr ⟨List.mem_map.mpr ⟨p, h, rfl⟩, by
  rw [decide_eq_false fun e => h' (V.str.inj e)]
  rfl⟩
theorem has_yes {l h k : Str} (h1 : ltS k l = false) (h2 : h = "" ∨ ltS k h = true) : hasB l h k = true := by
  unfold hasB
  rw [h1]
  rcases h2 with e | e
  · rw [decide_eq_true (congrArg V.str e)]
    rfl
  · rw [e]
    simp
theorem has_no1 {l h k : Str} (h1 : ltS k l = true) : hasB l h k = false := by
  unfold hasB
  rw [h1]
  rfl
theorem has_no2 {l h k : Str} (h1 : h ≠ "") (h2 : ltS k h = false) : hasB l h k = false := by
  unfold hasB
  rw [h2, decide_eq_false fun e => h1 (V.str.inj e)]
  simp
theorem lt_key_a {l : Str} (h : KeyOr l) (h' : ltS l "a" = true) (ka : ∀ k, IsKey k → ltS k "a" = false) : l = "" := by
  rcases h with e | e
  · exact e
  · rw [ka l e] at h'
    cases h'
theorem ak_all (ka : ∀ k, IsKey k → ltS k "a" = false) {L : List Sp2} (g : Good L) (hk : ∀ p ∈ L, KeyOr p.1 ∧ KeyOr p.2) (hna : ∀ p ∈ L, p ≠ (("" : Str), ("a" : Str))) :
    ∀ (R A : List Sp2) (u : Str), L = A ++ R → (A = [] ∧ u = "a" ∨ ∃ B p, A = B ++ [p] ∧ u = p.2) → u ≠ "" → (∀ p ∈ A, p.2 ≠ "" ∧ ltS u p.2 = false) → (∀ e : Str, e = ("a" : Str) ∨ e ∈ highs A → e = u ∨ keptL L e = true) →
      akF u R = ((("a" : Str) :: highs L).all (keptL L))
  | [], A, u, hL, hu, hu0, hA, _ => by
    have hno : keptL L u = false := by
      unfold keptL
      rw [List.any_eq_false]
      intro p hp
      rw [hL, List.append_nil] at hp
      rw [has_no2 (hA p hp).1 (hA p hp).2]
      decide
    symm
    show _ = false
    rw [List.all_eq_false]
    refine ⟨u, ?_, by rw [hno]; decide⟩
    rcases hu with ⟨_, h⟩ | ⟨B, p, h, h'⟩
    · rw [h]
      simp
    · rw [h']
      refine List.mem_cons_of_mem _ (highs_of (by rw [hL, h]; simp) (by rw [← h']; exact hu0))
  | q :: r, A, u, hL, hu, hu0, hA, hE => by
    have gL := g
    rw [hL] at gL
    have pw := List.pairwise_append.mp gL.pw
    have pr := (List.pairwise_cons.mp pw.2.1).1
    have upq := gL.up q (by simp)
    have umem : u ∈ (("a" : Str) :: highs L) := by
      rcases hu with ⟨_, h⟩ | ⟨B, p, h, h'⟩
      · rw [h]
        simp
      · rw [h']
        refine List.mem_cons_of_mem _ (highs_of (by rw [hL, h]; simp) (by rw [← h']; exact hu0))
    unfold akF
    by_cases h1 : ltS u q.1 = true
    · rw [if_pos h1]
      symm
      rw [List.all_eq_false]
      refine ⟨u, umem, ?_⟩
      have hno : keptL L u = false := by
        unfold keptL
        rw [List.any_eq_false]
        intro p hp
        rw [hL] at hp
        rcases List.mem_append.mp hp with m | m
        · rw [has_no2 (hA p m).1 (hA p m).2]
          decide
        · have : ltS u p.1 = true := by
            rcases List.mem_cons.mp m with rfl | m
            · exact h1
            · have h2 := pr p m
              have h3 := upq.resolve_left h2.1
              by_cases e : q.2 = p.1
              · rw [← e]
                exact ltS_trans h1 h3
              · exact ltS_trans h1 (ltS_trans h3 (ltS_tri h2.2 e))
          rw [has_no1 this]
          decide
      rw [hno]
      decide
    · rw [if_neg h1]
      have h1' : ltS u q.1 = false := Bool.eq_false_iff.mpr h1
      by_cases h2 : q.2 = ""
      · rw [if_pos h2]
        symm
        rw [List.all_eq_true]
        have hr : r = [] := by
          cases r with
          | nil => rfl
          | cons x _ => exact absurd h2 (pr x (by simp)).1
        subst hr
        have hkq : ∀ e, e = u → keptL L e = true := fun e he => by
          unfold keptL
          rw [List.any_eq_true]
          exact ⟨q, by rw [hL]; simp, has_yes (by rw [he]; exact h1') (.inl h2)⟩
        intro e he
        have he' : e = ("a" : Str) ∨ e ∈ highs A := by
          rcases List.mem_cons.mp he with h | h
          · exact .inl h
          · obtain ⟨p, hp, rfl, hp0⟩ := highs_mem h
            rw [hL] at hp
            rcases List.mem_append.mp hp with m | m
            · exact .inr (highs_of m hp0)
            · rw [show p = q by simpa using m] at hp0
              exact absurd h2 hp0
        rcases hE e he' with h | h
        · exact hkq e h
        · exact h
      · rw [if_neg h2]
        have hlh := upq.resolve_left h2
        have hqm : q ∈ L := by rw [hL]; simp
        have huq : ltS u q.2 = true := by
          rcases hu with ⟨hA0, h⟩ | ⟨B, p, h, h'⟩
          · rw [h]
            refine ltS_tri (ka _ ((hk q hqm).2.resolve_left h2)) fun e => ?_
            rw [← e] at hlh
            have := lt_key_a (hk q hqm).1 hlh ka
            exact hna q hqm (by
              cases q
              simp only at this e
              rw [this, e])
          · have h3 := pw.2.2 p (by rw [h]; simp) q (by simp)
            rw [← h'] at h3
            by_cases e : u = q.1
            · rw [e]
              exact hlh
            · exact ltS_trans (ltS_tri h3.2 e) hlh
        have hmax : maxS u q.2 = q.2 := if_pos huq
        rw [hmax]
        refine ak_all ka g hk hna r (A ++ [q]) q.2 (by rw [hL, List.append_assoc]; rfl) (.inr ⟨A, q, rfl, rfl⟩) h2 (fun p hp => ?_) (fun e he => ?_)
        · rcases List.mem_append.mp hp with m | m
          · refine ⟨(hA p m).1, ?_⟩
            have := (hA p m).2
            by_cases e : p.2 = u
            · rw [e]
              exact ltS_asymm huq
            · exact ltS_asymm (ltS_trans (ltS_tri this e) huq)
          · rw [show p = q by simpa using m]
            exact ⟨h2, ltS_irrefl _⟩
        · have hkq : keptL L u = true := by
            unfold keptL
            rw [List.any_eq_true]
            exact ⟨q, hqm, has_yes h1' (.inr huq)⟩
          have he' : e = q.2 ∨ e = ("a" : Str) ∨ e ∈ highs A := by
            rcases he with h | h
            · exact .inr (.inl h)
            · obtain ⟨p, hp, rfl, hp0⟩ := highs_mem h
              rcases List.mem_append.mp hp with m | m
              · exact .inr (.inr (highs_of m hp0))
              · rw [show p = q by simpa using m]
                exact .inl rfl
          rcases he' with h | h
          · exact .inl h
          · rcases hE e h with h | h
            · rw [h]
              exact .inr hkq
            · exact .inr h
theorem ak_key : ∀ (R : List Sp2) (u k : Str), akF u R = true → ltS k u = false → keptL R k = true
  | [], _, _, h, _ => by cases h
  | q :: r, u, k, h, hk => by
    unfold akF at h
    by_cases h1 : ltS u q.1 = true
    · rw [if_pos h1] at h
      cases h
    · rw [if_neg h1] at h
      have h1' : ltS u q.1 = false := Bool.eq_false_iff.mpr h1
      have hkl : ltS k q.1 = false := by
        cases e : ltS k q.1 with
        | false => rfl
        | true =>
          by_cases e2 : k = u
          · rw [← e2, e] at h1'
            cases h1'
          · rw [ltS_trans (ltS_tri hk (fun z => e2 z.symm)) e] at h1'
            cases h1'
      unfold keptL
      rw [List.any_cons]
      by_cases h2 : q.2 = ""
      · rw [has_yes hkl (.inl h2)]
        rfl
      · rw [if_neg h2] at h
        cases e : ltS k q.2 with
        | true =>
          rw [has_yes hkl (.inr e)]
          rfl
        | false =>
          have : ltS k (maxS u q.2) = false := by
            unfold maxS
            split
            · exact e
            · exact hk
          have ih := ak_key r (maxS u q.2) k h this
          unfold keptL at ih
          rw [ih, Bool.or_true]
end FB

namespace FB
open PySem PySem.Spec PyProof.Rows L2
theorem nil_or_snoc' {α : Type} (A : List α) : A = [] ∨ ∃ B p, A = B ++ [p] := by
  rcases List.eq_nil_or_concat A with h | ⟨B, p, h⟩
  · exact .inl h
  · exact .inr ⟨B, p, by rw [h, List.concat_eq_append]⟩
theorem snoc_ind {α : Type} {P : List α → Prop} (h0 : P []) (hs : ∀ r q, P r → P (r ++ [q])) (l : List α) : P l := by
  rw [← List.reverse_reverse l]
  induction l.reverse with
  | nil => exact h0
  | cons q r ih =>
    rw [List.reverse_cons]
    exact hs _ _ ih
/-! ### a class's methods, its making -/
section
variable (P : Program) (w : World) (K : PySem.W.Frag) (mg : Str → Option Value) (base : Heap)
def MethAt (C : Addr) (m qual : Str) (st : Stmt) (ps : List Str) : Prop := ∃ f fd, Fun K m qual st f fd ∧ Meth K C m f ∧ L2.Binds K fd ps []
def MethOk (k : Nat) (C : Addr) (m : Str) (ps : List Str) (sp : Sp) : Prop := ∃ f fd, FnOk P w K mg base CX0 k f fd ps sp ∧ Meth K C m f ∧ L2.Binds K fd ps []
def MakeAt (C : Addr) (qual : Str) (st : Stmt) (ps : List Str) : Prop := ∃ f fd, Fun K "__init__" qual st f fd ∧ Mk K C f ∧ L2.Binds K fd ps []
def MakeOk (k : Nat) (C : Addr) (ps : List Str) (sp : Sp) : Prop := ∃ f fd, FnOk P w K mg base CX0 k f fd ps sp ∧ Mk K C f ∧ L2.Binds K fd ps []
end
theorem MethAt.ok {P : Program} {w : World} {K : PySem.W.Frag} {mg : Str → Option Value} {base : Heap} {k : Nat} {C : Addr} {m qual : Str} {st : Stmt} {ps : List Str} {sp : Sp} (A : MethAt K C m qual st ps)
    (h : ∀ f fd, Fun K m qual st f fd → FnOk P w K mg base CX0 k f fd ps sp) : MethOk P w K mg base k C m ps sp := by
  obtain ⟨f, fd, F, hm, hb⟩ := A
  exact ⟨f, fd, h f fd F, hm, hb⟩
theorem MakeAt.ok {P : Program} {w : World} {K : PySem.W.Frag} {mg : Str → Option Value} {base : Heap} {k : Nat} {C : Addr} {qual : Str} {st : Stmt} {ps : List Str} {sp : Sp} (A : MakeAt K C qual st ps)
    (h : ∀ f fd, Fun K "__init__" qual st f fd → FnOk P w K mg base CX0 k f fd ps sp) : MakeOk P w K mg base k C ps sp := by
  obtain ⟨f, fd, F, hm, hb⟩ := A
  exact ⟨f, fd, h f fd F, hm, hb⟩
section
variable {X : Cx} {k : Nat} {C : Addr} {m x : Str} {ps : List Str} {sp : Sp} {o e : Expr} {es : List Expr} {ta : TE} {t : TA} {p pos apos : Pos}
theorem pe_mk0 (D : MakeOk X.prog X.w X.K X.mg X.base k C ps sp) (hm : X.mg x = some (.ref C)) (hr : Room (k + 1) X.A) (hg : Gl X x) (hd : (x == ("__debug__" : Str)) = false := by decide) : PE X (.Call (.Name x p) [] [] pos) (tMake C sp [] E0 tNil) := by
  obtain ⟨f, fd, F, M, hb⟩ := D
  exact pe_make0 M F hr hg hm hb .nil pass0 hd
theorem pe_mth {pl : Sem Bool} (c : Cls X.K C) (D : MethOk X.prog X.w X.K X.mg X.base k C m ps sp) (hr : Room k X.A) (he : PE X o ta) (ha : PA X (e :: es) t) (h1 : starEach (e :: es) X.env = (false, eval e X.env) :: starEach es X.env := by rfl) (h2 : (backTo pos (starEach es X.env)).any (·.1) = false := by rfl)
    (h3 : eval (.Call (.Attribute o m apos) (e :: es) [] pos) X.env = (do { let ov ← eval o X.env; standAt apos.atName; let (f, first) ← holding [ov] (getMethod ov m pl); callWith pos f first (backTo pos (starEach (e :: es) X.env)) (backToKw pos (keywordEach [] X.env)) }) := by rfl) :
    PE X (.Call (.Attribute o m apos) (e :: es) [] pos) (tMeth C m sp [] E0 ta t) := by
  obtain ⟨f, fd, F, M, hb⟩ := D
  exact pe_meth (pl := pl) he c M F hr hb .nil pass0 ha h1 h2 h3
theorem pe_mth0 {pl : Sem Bool} (c : Cls X.K C) (D : MethOk X.prog X.w X.K X.mg X.base k C m ps sp) (hr : Room k X.A) (he : PE X o ta)
    (h3 : eval (.Call (.Attribute o m apos) [] [] pos) X.env = (do { let ov ← eval o X.env; standAt apos.atName; let (f, first) ← holding [ov] (getMethod ov m pl); callWith pos f first (backTo pos (starEach [] X.env)) (backToKw pos (keywordEach [] X.env)) }) := by rfl) :
    PE X (.Call (.Attribute o m apos) [] [] pos) (tMeth C m sp [] E0 ta tNil) := by
  obtain ⟨f, fd, F, M, hb⟩ := D
  exact pe_meth0 (pl := pl) he c M F hr hb .nil pass0 h3
end
/-! ### a text eight times -/
def rep8 (c : Nat) : Str := ⟨#[c, c, c, c, c, c, c, c]⟩
theorem op_rep8 {X : Cx} : OpR X (binaryOp .Mult) (fun x y H Q => ∃ c, x = .str ⟨#[c]⟩ ∧ y = .int 8 ∧ Q (.str (rep8 c)) H) := by
  intro pins s σ H x y v u Q I rx ry h
  obtain ⟨c, rfl, rfl, q⟩ := h
  obtain ⟨t, rfl⟩ := rx
  obtain ⟨t', rfl⟩ := ry
  refine PySem.P.mul_str (by decide) (fun _ _ => by show ¬ ((1 : Nat) : Int) > (2 ^ 63 - 1) / 8; decide) (fun _ _ => by show Builtin.Str.tooLong (1 * 8) = false; decide +kernel) ?_
  exact ⟨by show 8 ≤ sizeLine; decide, ⟨.str (rep8 c), H, I.tok _, ⟨_, rfl⟩, q⟩⟩
/-! ### pages and puts -/
abbrev Put := Str × Int × Int
def pstep (pg : List (Int × Int)) (t v : Int) : List (Int × Int) := if t ∈ pg.map (·.1) then pg else pg ++ [(t, v)]
def pgOf (ps : List Put) (k : Str) : List (Int × Int) := ps.foldl (fun pg q => if q.1 = k then pstep pg q.2.1 q.2.2 else pg) []
theorem pgOf_snoc (ps : List Put) (q : Put) (k : Str) : pgOf (ps ++ [q]) k = if q.1 = k then pstep (pgOf ps k) q.2.1 q.2.2 else pgOf ps k := by
  unfold pgOf
  rw [List.foldl_append]
  rfl
theorem pstep_nodup {pg : List (Int × Int)} {t v : Int} (h : (pg.map (·.1)).Nodup) : ((pstep pg t v).map (·.1)).Nodup := by
  unfold pstep
  split
  · exact h
  · rename_i hn
    rw [List.map_append, List.nodup_append]
    refine ⟨h, by simp, fun a ha b hb e => hn ?_⟩
    have : b = t := by simpa using hb
    rw [← this, ← e]
    exact ha
theorem pstep_len (pg : List (Int × Int)) (t v : Int) : (pstep pg t v).length ≤ pg.length + 1 := by
  unfold pstep
  split
  · omega
  · rw [List.length_append]
    exact Nat.le_refl _
theorem pgOf_nodup (k : Str) (ps : List Put) : ((pgOf ps k).map (·.1)).Nodup := by
  refine snoc_ind (P := fun ps => ((pgOf ps k).map (·.1)).Nodup) List.nodup_nil (fun r q ih => ?_) ps
  rw [pgOf_snoc]
  split
  · exact pstep_nodup ih
  · exact ih
theorem pgOf_len (k : Str) (ps : List Put) : (pgOf ps k).length ≤ ps.length := by
  refine snoc_ind (P := fun ps => (pgOf ps k).length ≤ ps.length) (Nat.le_refl _) (fun r q ih => ?_) ps
  · rw [pgOf_snoc, List.length_append]
    split
    · have := pstep_len (pgOf r k) q.2.1 q.2.2
      show _ ≤ r.length + 1
      omega
    · show _ ≤ r.length + 1
      omega
/-- what a page has at a moment -/
def AtR (pg : List (Int × Int)) (m r : Int) : Prop := (∀ q ∈ pg, m < q.1) ∧ r = 0 ∨ ∃ t, (t, r) ∈ pg ∧ t ≤ m ∧ ∀ q ∈ pg, q.1 ≤ m → q.1 ≤ t
theorem mem_same {pg : List (Int × Int)} (h : (pg.map (·.1)).Nodup) {t a b : Int} (ha : (t, a) ∈ pg) (hb : (t, b) ∈ pg) : a = b := by
  induction pg with
  | nil => cases ha
  | cons q r ih =>
    rw [List.map_cons, List.nodup_cons] at h
    rcases List.mem_cons.mp ha with e1 | e1
    · rcases List.mem_cons.mp hb with e2 | e2
      · rw [← e1] at e2
        exact (Prod.mk.inj e2).2.symm
      · exact absurd (List.mem_map.mpr ⟨_, e2, by rw [← e1]⟩) h.1
    · rcases List.mem_cons.mp hb with e2 | e2
      · exact absurd (List.mem_map.mpr ⟨_, e1, by rw [← e2]⟩) h.1
      · exact ih h.2 e1 e2
theorem AtR.one {pg : List (Int × Int)} (h : (pg.map (·.1)).Nodup) {m a b : Int} (ha : AtR pg m a) (hb : AtR pg m b) : a = b := by
  rcases ha with ⟨h1, rfl⟩ | ⟨t, h1, h2, h3⟩
  · rcases hb with ⟨_, rfl⟩ | ⟨t, k1, k2, _⟩
    · rfl
    · have := h1 _ k1
      omega
  · rcases hb with ⟨k1, rfl⟩ | ⟨u, k1, k2, k3⟩
    · have := k1 _ h1
      omega
    · have e1 := h3 _ k1 k2
      have e2 := k3 _ h1 h2
      have e : t = u := by
        simp only at e1 e2
        omega
      subst e
      exact mem_same h h1 k1
/-! ### what is due -/
def dstep (k : Str) (m : Int) (best : Int × Int) (q : Put) : Int × Int := if q.1 = k ∧ best.1 < q.2.1 ∧ q.2.1 ≤ m then (q.2.1, q.2.2) else best
def dueF (ps : List Put) (k : Str) (m : Int) : Int × Int := ps.foldl (dstep k m) (-1, 0)
theorem dueF_snoc (ps : List Put) (q : Put) (k : Str) (m : Int) : dueF (ps ++ [q]) k m = dstep k m (dueF ps k m) q := by
  unfold dueF
  rw [List.foldl_append]
  rfl
theorem due_inv (k : Str) (m : Int) (ps : List Put) (hp : ∀ q ∈ ps, 0 ≤ q.2.1) :
    (dueF ps k m = (-1, 0) ∧ ∀ q ∈ pgOf ps k, m < q.1) ∨ (dueF ps k m ∈ pgOf ps k ∧ 0 ≤ (dueF ps k m).1 ∧ (dueF ps k m).1 ≤ m ∧ ∀ q ∈ pgOf ps k, q.1 ≤ m → q.1 ≤ (dueF ps k m).1) := by
  revert hp
  refine snoc_ind (P := fun ps => (∀ q ∈ ps, 0 ≤ q.2.1) → ((dueF ps k m = (-1, 0) ∧ ∀ q ∈ pgOf ps k, m < q.1) ∨ (dueF ps k m ∈ pgOf ps k ∧ 0 ≤ (dueF ps k m).1 ∧ (dueF ps k m).1 ≤ m ∧ ∀ q ∈ pgOf ps k, q.1 ≤ m → q.1 ≤ (dueF ps k m).1))) ?_ (fun r q ih hp => ?_) ps
  · intro _
    exact .inl ⟨rfl, fun q hq => by simp [pgOf] at hq⟩
  · have ih := ih fun y hy => hp y (by simp [hy])
    have hq0 := hp q (by simp)
    rw [dueF_snoc, pgOf_snoc]
    by_cases hk : q.1 = k
    · rw [if_pos hk]
      by_cases hin : q.2.1 ∈ (pgOf r k).map (·.1)
      · -- the moment is there
        have ep : pstep (pgOf r k) q.2.1 q.2.2 = pgOf r k := if_pos hin
        rw [ep]
        obtain ⟨y, hy, ey⟩ := List.mem_map.mp hin
        have hno : ¬ (q.1 = k ∧ (dueF r k m).1 < q.2.1 ∧ q.2.1 ≤ m) := fun h => by
          rcases ih with ⟨_, h2⟩ | ⟨_, _, _, h3⟩
          · have := h2 y hy
            omega
          · have := h3 y hy (by omega)
            omega
        rw [show dstep k m (dueF r k m) q = dueF r k m from if_neg hno]
        exact ih
      · have ep : pstep (pgOf r k) q.2.1 q.2.2 = pgOf r k ++ [(q.2.1, q.2.2)] := if_neg hin
        rw [ep]
        by_cases hc : q.1 = k ∧ (dueF r k m).1 < q.2.1 ∧ q.2.1 ≤ m
        · rw [show dstep k m (dueF r k m) q = (q.2.1, q.2.2) from if_pos hc]
          refine .inr ⟨by simp, hq0, hc.2.2, fun y hy hle => ?_⟩
          rcases List.mem_append.mp hy with h | h
          · rcases ih with ⟨_, h2⟩ | ⟨_, _, _, h3⟩
            · have := h2 y h
              omega
            · have := h3 y h hle
              have := hc.2.1
              simp only at *
              omega
          · rw [show y = (q.2.1, q.2.2) by simpa using h]
            exact Int.le_refl _
        · rw [show dstep k m (dueF r k m) q = dueF r k m from if_neg hc]
          rcases ih with ⟨h1, h2⟩ | ⟨h1, h2, h3, h4⟩
          · refine .inl ⟨h1, fun y hy => ?_⟩
            rcases List.mem_append.mp hy with h | h
            · exact h2 y h
            · rw [show y = (q.2.1, q.2.2) by simpa using h]
              rw [h1] at hc
              show m < q.2.1
              apply Decidable.byContradiction
              intro hn
              exact hc ⟨hk, by show (-1 : Int) < _; omega, by omega⟩
          · refine .inr ⟨List.mem_append_left _ h1, h2, h3, fun y hy hle => ?_⟩
            rcases List.mem_append.mp hy with h | h
            · exact h4 y h hle
            · rw [show y = (q.2.1, q.2.2) by simpa using h] at hle ⊢
              show q.2.1 ≤ _
              apply Decidable.byContradiction
              intro hn
              exact hc ⟨hk, by omega, hle⟩
    · rw [if_neg hk, show dstep k m (dueF r k m) q = dueF r k m from if_neg fun h => hk h.1]
      exact ih
theorem due_at (k : Str) (m : Int) {ps : List Put} (hp : ∀ q ∈ ps, 0 ≤ q.2.1) : AtR (pgOf ps k) m (dueF ps k m).2 := by
  rcases due_inv k m ps hp with ⟨h1, h2⟩ | ⟨h1, _, h3, h4⟩
  · rw [h1]
    exact .inl ⟨h2, rfl⟩
  · exact .inr ⟨_, h1, h3, h4⟩
end FB

namespace FB
open PySem PySem.Spec PyProof.Rows L2
/-! ### a shelf in the heap -/
abbrev Pg := Str × Addr × List (Int × Int)
def pgKvs (pg : List (Int × Int)) : List (Key × V) := pg.map fun q => ((Sum.inl q.1 : Key), V.int q.2)
def shKvs (S : List Pg) : List (Key × V) := S.map fun e => (tk e.1, V.ref e.2.1)
def shFlds (d : Addr) : List (Str × V) := putF "pages" (.ref d) []
theorem shFlds_look (d : Addr) : (shFlds d).lookup ("pages" : Str) = some (.ref d) := by
  unfold shFlds
  rw [lookup_putF, if_pos rfl]
theorem shFlds_no (d : Addr) {m : Str} (h : ¬ m = "pages") : (shFlds d).lookup m = none := by
  unfold shFlds
  rw [lookup_putF, if_neg h]
  rfl
def foot (d : Addr) (S : List Pg) : List Addr := d :: S.map (·.2.1)
structure ShelfRaw (C : Addr) (H : Hp) (p d : Addr) (S : List Pg) : Prop where
  ob : ∃ dx, H p = some (.ins C dx (shFlds d))
  pg : H d = some (.dK (shKvs S))
  en : ∀ e ∈ S, H e.2.1 = some (.dK (pgKvs e.2.2))
  nk : (S.map (·.1)).Nodup
  na : (S.map (·.2.1)).Nodup
def pgS (S : List Pg) (k : Str) : List (Int × Int) := match S.find? (fun e => decide (e.1 = k)) with
  | some e => e.2.2
  | none => []
/-- a shelf stands at p, in the objects F, behind the puts ps -/
def ShelfAt (C : Addr) (H : Hp) (p : Addr) (F : List Addr) (ps : List Put) : Prop := ∃ d S, ShelfRaw C H p d S ∧ F = foot d S ∧ (∀ k, pgS S k = pgOf ps k) ∧ S.length ≤ ps.length
theorem ShelfAt.dicts {C : Addr} {H : Hp} {p : Addr} {F : List Addr} {ps : List Put} (h : ShelfAt C H p F ps) : ∀ b ∈ F, ∃ kvs, H b = some (.dK kvs) := by
  obtain ⟨d, S, R, rfl, _⟩ := h
  intro b hb
  rcases List.mem_cons.mp hb with rfl | hb
  · exact ⟨_, R.pg⟩
  · obtain ⟨e, he, rfl⟩ := List.mem_map.mp hb
    exact ⟨_, R.en e he⟩
theorem ShelfAt.not {C : Addr} {H : Hp} {p l : Addr} {F : List Addr} {ps : List Put} {o : HO} (h : ShelfAt C H p F ps) (hl : H l = some o) (ho : ∀ kvs, o ≠ .dK kvs) : l ∉ F := fun hm => by
  obtain ⟨kvs, e⟩ := h.dicts l hm
  rw [hl] at e
  exact ho kvs (Option.some.inj e)
theorem ShelfAt.same {C : Addr} {H H' : Hp} {p : Addr} {F : List Addr} {ps : List Put} (h : ShelfAt C H p F ps) (s : Same H H') : ShelfAt C H' p F ps := by
  obtain ⟨d, S, ⟨⟨dx, h1⟩, h2, h3, h4, h5⟩, h6⟩ := h
  exact ⟨d, S, ⟨⟨dx, s _ _ h1⟩, s _ _ h2, fun e he => s _ _ (h3 e he), h4, h5⟩, h6⟩
theorem ShelfAt.is {C : Addr} {H : Hp} {p : Addr} {F : List Addr} {ps : List Put} (h : ShelfAt C H p F ps) : ∃ dx d, H p = some (.ins C dx (shFlds d)) := by
  obtain ⟨d, S, ⟨⟨dx, h1⟩, _⟩, _⟩ := h
  exact ⟨dx, d, h1⟩
theorem val_sh (k : Str) : ∀ S : List Pg, valV (shKvs S) (tk k) = (S.find? (fun e => decide (e.1 = k))).map fun e => V.ref e.2.1
  | [] => rfl
  | e :: r => by
    by_cases h : e.1 = k
    · rw [List.find?_cons_of_pos (by simpa using h)]
      exact valV_pos (p := (tk e.1, V.ref e.2.1)) (congrArg Sum.inr h)
    · rw [List.find?_cons_of_neg (by simpa using h), ← val_sh k r]
      exact valV_neg (p := (tk e.1, V.ref e.2.1)) fun z => h (Sum.inr.inj z)
theorem val_pg_some {t r : Int} : ∀ {pg : List (Int × Int)}, (pg.map (·.1)).Nodup → (t, r) ∈ pg → valV (pgKvs pg) (Sum.inl t) = some (.int r)
  | [], _, h => by cases h
  | q :: pg, nd, h => by
    rw [List.map_cons, List.nodup_cons] at nd
    rcases List.mem_cons.mp h with e | e
    · rw [← e]
      exact valV_pos (p := ((Sum.inl t : Key), V.int r)) rfl
    · have hne : ¬ q.1 = t := fun z => nd.1 (List.mem_map.mpr ⟨_, e, z.symm⟩)
      refine (valV_neg (p := ((Sum.inl q.1 : Key), V.int q.2)) fun z => hne (Sum.inl.inj z)).trans ?_
      exact val_pg_some nd.2 e
theorem val_pg_none {t : Int} : ∀ {pg : List (Int × Int)}, t ∉ pg.map (·.1) → valV (pgKvs pg) (Sum.inl t) = none
  | [], _ => rfl
  | q :: pg, h => by
    rw [List.map_cons, List.mem_cons, not_or] at h
    refine (valV_neg (p := ((Sum.inl q.1 : Key), V.int q.2)) fun z => h.1 (Sum.inl.inj z).symm).trans ?_
    exact val_pg_none h.2
theorem find_key {S : List Pg} {k : Str} {e : Pg} (h : S.find? (fun e => decide (e.1 = k)) = some e) : e ∈ S ∧ e.1 = k := ⟨List.mem_of_find?_eq_some h, by simpa using List.find?_some h⟩
/-- the page at an address is replaced -/
def setPg (S : List Pg) (a : Addr) (pg : List (Int × Int)) : List Pg := S.map fun e => if e.2.1 = a then (e.1, a, pg) else e
theorem setPg_keys (S : List Pg) (a : Addr) (pg : List (Int × Int)) : (setPg S a pg).map (·.1) = S.map (·.1) := by
  unfold setPg
  rw [List.map_map]
  refine List.map_congr_left fun e _ => ?_
  show (if e.2.1 = a then (e.1, a, pg) else e).1 = e.1
  split <;> rfl
theorem setPg_addrs (S : List Pg) (a : Addr) (pg : List (Int × Int)) : (setPg S a pg).map (·.2.1) = S.map (·.2.1) := by
  unfold setPg
  rw [List.map_map]
  refine List.map_congr_left fun e _ => ?_
  show (if e.2.1 = a then (e.1, a, pg) else e).2.1 = e.2.1
  split
  · rename_i h
    exact h.symm
  · rfl
theorem setPg_kvs (S : List Pg) (a : Addr) (pg : List (Int × Int)) : shKvs (setPg S a pg) = shKvs S := by
  unfold shKvs setPg
  rw [List.map_map]
  refine List.map_congr_left fun e _ => ?_
  show (tk (if e.2.1 = a then (e.1, a, pg) else e).1, V.ref (if e.2.1 = a then (e.1, a, pg) else e).2.1) = (tk e.1, V.ref e.2.1)
  split
  · rename_i h
    rw [h]
  · rfl
theorem pgS_set : ∀ {S : List Pg} {e : Pg} {pg : List (Int × Int)}, e ∈ S → (S.map (·.1)).Nodup → (S.map (·.2.1)).Nodup → ∀ k, pgS (setPg S e.2.1 pg) k = if k = e.1 then pg else pgS S k
  | [], _, _, h, _, _, _ => by cases h
  | x :: r, e, pg, h, nk, na, k => by
    rw [List.map_cons, List.nodup_cons] at nk na
    unfold pgS setPg
    rw [List.map_cons]
    by_cases hx : x.2.1 = e.2.1
    · have hxe : x = e := by
        rcases List.mem_cons.mp h with q | q
        · exact q.symm
        · exact absurd (List.mem_map.mpr ⟨e, q, hx.symm⟩) na.1
      subst hxe
      rw [if_pos rfl]
      by_cases hk : x.1 = k
      · rw [List.find?_cons_of_pos (by simpa using hk), if_pos hk.symm]
      · rw [List.find?_cons_of_neg (by simpa using hk), if_neg fun z => hk z.symm, List.find?_cons_of_neg (by simpa using hk)]
        have er : r.map (fun e => if e.2.1 = x.2.1 then (e.1, x.2.1, pg) else e) = r := by
          have : ∀ y ∈ r, (fun e : Pg => if e.2.1 = x.2.1 then (e.1, x.2.1, pg) else e) y = y := fun y hy => if_neg fun z => na.1 (List.mem_map.mpr ⟨y, hy, z⟩)
          rw [List.map_congr_left this, List.map_id']
        rw [er]
    · rw [if_neg hx]
      have he : e ∈ r := by
        rcases List.mem_cons.mp h with q | q
        · exact absurd (by rw [q]) hx
        · exact q
      have ih := pgS_set (pg := pg) he nk.2 na.2 k
      unfold pgS setPg at ih
      by_cases hk : x.1 = k
      · rw [List.find?_cons_of_pos (by simpa using hk), List.find?_cons_of_pos (by simpa using hk)]
        have : ¬ k = e.1 := fun z => nk.1 (List.mem_map.mpr ⟨e, he, by rw [← z, hk]⟩)
        rw [if_neg this]
      · rw [List.find?_cons_of_neg (by simpa using hk), List.find?_cons_of_neg (by simpa using hk)]
        exact ih
theorem pgS_snoc {S : List Pg} {k : Str} {a : Addr} {pg : List (Int × Int)} (h : S.find? (fun e => decide (e.1 = k)) = none) (j : Str) : pgS (S ++ [(k, a, pg)]) j = if j = k then pg else pgS S j := by
  unfold pgS
  rw [List.find?_append]
  by_cases e : j = k
  · subst e
    rw [h, if_pos rfl]
    simp
  · rw [if_neg e]
    cases q : S.find? (fun e => decide (e.1 = j)) with
    | some y => rfl
    | none =>
      have : ¬ k = j := fun z => e z.symm
      simp [this]
/-! ### the promises of the methods -/
def spShInit (C : Addr) : Sp := fun vs H Q _ => ∃ (p dx : Addr), vs = [.ref p] ∧ H p = some (.ins C dx []) ∧ ∀ (d : Addr) (H' : Hp), H d = none → ShelfAt C H' p [d] [] → (∀ b o, H b = some o → b ≠ p → H' b = some o) → Q .non H'
def spShPut (C : Addr) : Sp := fun vs H Q _ => ∃ (p : Addr) (F : List Addr) (ps : List Put) (k : Str) (t v : Int), vs = [.ref p, .str k, .int t, .int v] ∧ ShelfAt C H p F ps ∧ ps.length ≤ 900 ∧
  ∀ (F' : List Addr) (H' : Hp), ShelfAt C H' p F' (ps ++ [(k, t, v)]) → (∀ b ∈ F', b ∈ F ∨ H b = none) → (∀ b o, H b = some o → b ∉ F → H' b = some o) → Q .non H'
def spShAt (C : Addr) : Sp := fun vs H Q _ => ∃ (p : Addr) (F : List Addr) (ps : List Put) (k : Str) (m : Int), vs = [.ref p, .str k, .int m] ∧ ShelfAt C H p F ps ∧ ps.length ≤ 900 ∧
  ∀ (r : Int) (H' : Hp), AtR (pgOf ps k) m r → Same H H' → Q (.int r) H'
structure ShCls (K : PySem.W.Frag) (C : Addr) : Prop where
  cl : Cls K C
  nP : NoAttr K C "pages"
end FB

namespace FB
open PySem PySem.Spec PyProof.Rows L2
/-! ### max of a dict whose keys are ints -/
theorem best_le (val : Nat → Int) : ∀ n, argBest (fun i j => decide (val i > val j)) n ≤ n
  | 0 => Nat.le_refl _
  | n + 1 => by
    have ih := best_le val n
    show (if decide (val (n + 1) > val (argBest (fun i j => decide (val i > val j)) n)) = true then n + 1 else argBest (fun i j => decide (val i > val j)) n) ≤ n + 1
    split <;> omega
theorem best_max (val : Nat → Int) : ∀ n j, j ≤ n → val j ≤ val (argBest (fun i j => decide (val i > val j)) n)
  | 0, j, h => by
    have : j = 0 := by omega
    rw [this]
    exact Int.le_refl _
  | n + 1, j, h => by
    have ih := best_max val n
    show val j ≤ val (if decide (val (n + 1) > val (argBest (fun i j => decide (val i > val j)) n)) = true then n + 1 else argBest (fun i j => decide (val i > val j)) n)
    by_cases hc : val (n + 1) > val (argBest (fun i j => decide (val i > val j)) n)
    · rw [if_pos (decide_eq_true hc)]
      by_cases hj : j = n + 1
      · rw [hj]
        exact Int.le_refl _
      · have := ih j (by omega)
        omega
    · rw [if_neg (by rw [decide_eq_false hc]; decide)]
      by_cases hj : j = n + 1
      · rw [hj]
        omega
      · exact ih j (by omega)
theorem paired_get {α β : Type} {R : α → β → Prop} : ∀ {xs : List α} {ys : List β} {i : Nat} {x : α}, Paired R xs ys → xs[i]? = some x → ∃ y, ys[i]? = some y ∧ R x y
  | _, _, _, _, .nil, h => by simp at h
  | _, _, 0, _, .cons r _, h => ⟨_, rfl, by
    have e := Option.some.inj h
    rw [← e]
    exact r⟩
  | _, _, i + 1, x, .cons _ t, h => by
    obtain ⟨y, h1, h2⟩ := paired_get (i := i) (x := x) t (by simpa using h)
    exact ⟨y, by simpa using h1, h2⟩
theorem cr_maxPg {X : Cx} (hc : X.calm = true) : CallR X (.builtin "max") (fun vs H Q => ∃ (a : Addr) (pg : List (Int × Int)), vs = [.ref a] ∧ H a = some (.dK (pgKvs pg)) ∧ pg ≠ [] ∧ ∀ m, m ∈ pg.map (·.1) → (∀ y ∈ pg.map (·.1), y ≤ m) → Q (.int m) H) := by
  intro pins s σ H vs us Q I r h
  obtain ⟨a, pg, rfl, ha, hne, q⟩ := h
  rw [Vals.ref1 r]
  obtain ⟨_, hsys, ws, rel, dd⟩ := dk_of I.hok ha
  obtain ⟨es, ep, hR, hsz, hes⟩ := dd.raw
  have hwl : ws.length = pg.length := by
    have h1 : (pgKvs pg).length = ws.length := Paired.length rel
    unfold pgKvs at h1
    rw [List.length_map] at h1
    exact h1.symm
  have hkey : ∀ i (hi : i < es.size), ∃ t, es[i].key = .int (pg[i]'(by omega)).1 t := fun i hi => by
    have hip : i < pg.length := by omega
    have hiw : i < ws.length := by omega
    have e1 := hes i hi ws[i].1 ws[i].2 (List.getElem?_eq_getElem hiw)
    have e2 : (pgKvs pg)[i]? = some ((Sum.inl pg[i].1 : Key), V.int pg[i].2) := by
      unfold pgKvs
      rw [List.getElem?_map, List.getElem?_eq_getElem hip]
      rfl
    obtain ⟨y, hy, ry⟩ := paired_get rel e2
    rw [List.getElem?_eq_getElem hiw] at hy
    cases hy
    have e3 := e1.1
    rw [← ry.1] at e3
    rcases keyIs_shape (show keyIs (Sum.inl pg[i].1) es[i].key = true from e3) with ⟨j, t, e4, e5⟩ | ⟨x, t, e4, _⟩
    · cases e4
      exact ⟨t, e5⟩
    · cases e4
  have hlt : a < s.heap.objs.size := (I.hok a _ ha).lt
  refine call_max_walk (wpAny_pyIter_dict_raw hsys hR ?_)
  refine ⟨_, [_, a], [_], _, _, _, _, rfl, Walks.rawKeys (A := X.A.in1) (I.ok.hd hc) _ a (Nat.ne_of_lt hlt) es ep, ⟨⟨_, Heap.get?_push_size _ rfl, rfl, rfl⟩, hR.at fun o e => Heap.get?_push_of_some _ e⟩, fun b hb => ?_, by rw [hsz, hwl]; exact List.length_pos_iff.mpr hne,
    CmpOf.ints_gt (fun i => (pg.getD i (0, 0)).1) (fun i v hv => ?_), fun v h' tk hP hk => ?_⟩
  · rw [Heap.size_push]
    rcases List.mem_cons.mp hb with rfl | hb
    · exact Nat.lt_succ_self _
    · rw [show b = a by simpa using hb]
      exact Nat.lt_succ_of_lt hlt
  · obtain ⟨hi, rfl⟩ := hv
    obtain ⟨t, ht⟩ := hkey i hi
    refine ⟨t, ?_⟩
    rw [ht]
    show Value.int (pg[i]'(by omega)).1 t = Value.int (pg.getD i (0, 0)).1 t
    rw [List.getD_eq_getElem?_getD, List.getElem?_eq_getElem (show i < pg.length by omega)]
    rfl
  · obtain ⟨hi, rfl⟩ := hP
    obtain ⟨t, ht⟩ := hkey _ hi
    have hb := best_le (fun i => (pg.getD i (0, 0)).1) (es.size - 1)
    have hold : ∀ b o, s.heap.get? b = some o → h'.get? b = some o := fun b o e => hk b o (fun hm => by
      have h1 := Heap.lt_size e
      rw [show b = s.heap.objs.size by simpa using hm] at h1
      exact Nat.lt_irrefl _ h1) (Heap.get?_push_of_some _ e)
    refine ⟨.int _, H, I.kept hold, ⟨t, ht⟩, q _ (List.mem_map.mpr ⟨_, List.getElem_mem _, rfl⟩) fun y hy => ?_⟩
    obtain ⟨z, hz, rfl⟩ := List.mem_map.mp hy
    obtain ⟨j, hj, rfl⟩ := List.getElem_of_mem hz
    have hm := best_max (fun i => (pg.getD i (0, 0)).1) (es.size - 1) j (by omega)
    have g : ∀ n (hn : n < pg.length), (pg.getD n (0, 0)).1 = pg[n].1 := fun n hn => by
      rw [List.getD_eq_getElem?_getD, List.getElem?_eq_getElem hn]
      rfl
    have hm' : (pg.getD j (0, 0)).1 ≤ (pg.getD (argBest (fun i j => decide ((pg.getD i (0, 0)).1 > (pg.getD j (0, 0)).1)) (es.size - 1)) (0, 0)).1 := hm
    rw [g j hj, g _ (by omega)] at hm'
    exact hm'
end FB

namespace FB
open PySem PySem.Spec PyProof.Rows L2
/-! ### the order of tuples of ints and texts -/
def klt : Key → Key → Bool
  | .inl a, .inl b => decide (a < b)
  | .inr x, .inr y => ltS x y
  | .inl _, .inr _ => true
  | .inr _, .inl _ => false
theorem klt_irrefl : ∀ a, klt a a = false
  | .inl a => decide_eq_false (Int.lt_irrefl a)
  | .inr x => ltS_irrefl x
theorem klt_trans : ∀ {a b c : Key}, klt a b = true → klt b c = true → klt a c = true
  | .inl a, .inl b, .inl c, h, h' => decide_eq_true (Int.lt_trans (of_decide_eq_true h) (of_decide_eq_true h'))
  | .inr a, .inr b, .inr c, h, h' => ltS_trans h h'
  | .inl _, .inl _, .inr _, _, _ => rfl
  | .inl _, .inr _, .inr _, _, _ => rfl
  | .inl _, .inr _, .inl _, _, h' => by cases h'
  | .inr _, .inl _, _, h, _ => by cases h
  | .inr _, .inr _, .inl _, _, h' => by cases h'
theorem klt_tri : ∀ {a b : Key}, klt b a = false → a ≠ b → klt a b = true
  | .inl a, .inl b, h, n => by
    have h1 : ¬ b < a := of_decide_eq_false h
    have h2 : a ≠ b := fun e => n (by rw [e])
    exact decide_eq_true (by omega)
  | .inr a, .inr b, h, n => ltS_tri h fun e => n (by rw [e])
  | .inl _, .inr _, _, _ => rfl
  | .inr _, .inl _, h, _ => by cases h
def llt : List Key → List Key → Bool
  | [], [] => false
  | [], _ :: _ => true
  | _ :: _, [] => false
  | a :: r, b :: q => if a = b then llt r q else klt a b
theorem llt_irrefl : ∀ a, llt a a = false
  | [] => rfl
  | a :: r => by
    rw [llt, if_pos rfl]
    exact llt_irrefl r
theorem llt_trans : ∀ {a b c : List Key}, llt a b = true → llt b c = true → llt a c = true
  | [], [], _, h, _ => by cases h
  | [], _ :: _, [], _, h' => by cases h'
  | [], _ :: _, _ :: _, _, _ => rfl
  | _ :: _, [], _, h, _ => by cases h
  | _ :: _, _ :: _, [], _, h' => by cases h'
  | a :: r, b :: q, c :: p, h, h' => by
    rw [llt] at h h' ⊢
    by_cases e1 : a = b
    · rw [if_pos e1] at h
      by_cases e2 : b = c
      · rw [if_pos e2] at h'
        rw [if_pos (e1.trans e2)]
        exact llt_trans h h'
      · rw [if_neg e2] at h'
        rw [e1, if_neg e2]
        exact h'
    · rw [if_neg e1] at h
      by_cases e2 : b = c
      · rw [← e2, if_neg e1]
        exact h
      · rw [if_neg e2] at h'
        have ht := klt_trans h h'
        have hne : a ≠ c := fun e => by
          rw [e, klt_irrefl] at ht
          cases ht
        rw [if_neg hne]
        exact ht
theorem llt_tri : ∀ {a b : List Key}, llt b a = false → a ≠ b → llt a b = true
  | [], [], _, n => absurd rfl n
  | [], _ :: _, _, _ => rfl
  | _ :: _, [], h, _ => by cases h
  | a :: r, b :: q, h, n => by
    rw [llt] at h ⊢
    by_cases e : a = b
    · rw [if_pos e.symm] at h
      rw [if_pos e]
      exact llt_tri h fun z => n (by rw [e, z])
    · rw [if_neg fun z => e z.symm] at h
      rw [if_neg e]
      exact klt_tri h e
theorem llt_asymm {a b : List Key} (h : llt a b = true) : llt b a = false := by
  cases e : llt b a with
  | false => rfl
  | true => exact absurd (llt_trans h e) (by rw [llt_irrefl]; decide)
theorem llt_swo {α : Type} (k : α → List Key) : SrtO.Swo fun x y => llt (k x) (k y) := by
  refine ⟨fun x y h => llt_asymm h, fun x y z h1 h2 => ?_⟩
  cases e : llt (k z) (k x) with
  | false => rfl
  | true =>
    exfalso
    by_cases e1 : k x = k y
    · rw [e1] at e
      have : llt (k z) (k y) = false := h2
      rw [e] at this
      cases this
    · have h3 : llt (k x) (k y) = true := llt_tri h1 e1
      have h4 := llt_trans e h3
      have : llt (k z) (k y) = false := h2
      rw [h4] at this
      cases this
/-! ### sorted of such tuples -/
def isI : Key → Bool
  | .inl _ => true
  | .inr _ => false
def shp (l : List Key) : List Bool := l.map isI
/-- the values of a tuple's items -/
inductive KVals : List Key → List Value → Prop
  | nil : KVals [] []
  | int (i : Int) (t : Tok) {l : List Key} {us : List Value} : KVals l us → KVals (.inl i :: l) (.int i t :: us)
  | str (x : Str) (t : Tok) {l : List Key} {us : List Value} : KVals l us → KVals (.inr x :: l) (.str x t :: us)
theorem kvals_of : ∀ {l : List Key} {us : List Value}, Vals (l.map kV) us → KVals l us
  | [], _, .nil => .nil
  | .inl i :: l, _, .cons h r => by
    obtain ⟨t, rfl⟩ := h
    exact .int i t (kvals_of r)
  | .inr x :: l, _, .cons h r => by
    obtain ⟨t, rfl⟩ := h
    exact .str x t (kvals_of r)
theorem KVals.len : ∀ {l : List Key} {us : List Value}, KVals l us → us.length = l.length
  | _, _, .nil => rfl
  | _, _, .int _ _ r => by rw [List.length_cons, List.length_cons, r.len]
  | _, _, .str _ _ r => by rw [List.length_cons, List.length_cons, r.len]
def IsTup (h : Heap) (v : Value) (l : List Key) : Prop := ∃ a o us n, v = .ref a ∧ h.get? a = some o ∧ o.cls = .type "tuple" ∧ o.data = .seq (List.toArray us) n ∧ KVals l us
theorem IsTup.keeps {h h' : Heap} {v : Value} {l : List Key} (p : IsTup h v l) (k : ∀ b o, h.get? b = some o → o.cls = .type "tuple" → h'.get? b = some o) : IsTup h' v l := by
  obtain ⟨a, o, us, n, e, ho, hc, hd, r⟩ := p
  exact ⟨a, o, us, n, e, k _ _ ho hc, hc, hd, r⟩
section
variable {prog : Program} {w : World} {A : Around} {E : Value → Shared → Prop} {s : Shared}
theorem lex_at {Q : Bool → Shared → Prop} {b : Bool} : ∀ {l m : List Key} {us vs : List Value} (i : Nat), KVals l us → KVals m vs → shp l = shp m → Q (llt l m) s → PySem.W.KatLex prog w A b (decide (us.length < vs.length)) Q (us.zip vs) i s
  | [], [], _, _, i, .nil, .nil, _, q => PySem.W.kat_nil (by
    rw [show decide (([] : List Value).length < ([] : List Value).length) = false from rfl]
    exact q)
  | .inl x :: l, .inl y :: m, _, _, i, .int _ t r, .int _ u r', e, q => by
    have e' : shp l = shp m := (List.cons.inj e).2
    refine PySem.W.kat_cons (SeqAt.EqAt.int_int x t y u prog w _ _ ?_)
    refine PySem.W.kat_go (fun e1 => ?_) (fun e1 => ?_)
    · have ex : x = y := by simpa using e1
      refine PySem.W.kat_yes ?_
      have := lex_at (Q := Q) (b := b) (i + 1) r r' e' (by rw [llt, if_pos (by rw [ex])] at q; exact q)
      simpa [List.zip] using this
    · have ex : ¬ x = y := by simpa using e1
      refine PySem.W.kat_no (oneLt_any_int ?_)
      rw [llt, if_neg (fun z => ex (Sum.inl.inj z))] at q
      exact q
  | .inr x :: l, .inr y :: m, _, _, i, .str _ t r, .str _ u r', e, q => by
    have e' : shp l = shp m := (List.cons.inj e).2
    refine PySem.W.kat_cons (SeqAt.EqAt.str_str x t y u prog w _ _ ?_)
    refine PySem.W.kat_go (fun e1 => ?_) (fun e1 => ?_)
    · have ex : x = y := by simpa using e1
      refine PySem.W.kat_yes ?_
      have := lex_at (Q := Q) (b := b) (i + 1) r r' e' (by rw [llt, if_pos (by rw [ex])] at q; exact q)
      simpa [List.zip] using this
    · have ex : ¬ x = y := by simpa using e1
      refine PySem.W.kat_no (oneLt_any_str ?_)
      rw [llt, if_neg (fun z => ex (Sum.inr.inj z))] at q
      exact q
  | .inl _ :: _, .inr _ :: _, _, _, _, _, _, e, _ => by cases e
  | .inr _ :: _, .inl _ :: _, _, _, _, _, _, e, _ => by cases e
  | [], _ :: _, _, _, _, _, _, e, _ => by cases e
  | _ :: _, [], _, _, _, _, _, e, _ => by cases e
theorem tup_cmp {vs : List Value} {k : Value → List Key} {sh : List Bool} {b : Bool} (hp : ∀ v ∈ vs, IsTup s.heap v (k v) ∧ shp (k v) = sh) : SrtO.Cmp prog w A s (tuples' b) (fun p => p.1 ∈ vs) (SrtO.lt2 fun v u => llt (k v) (k u)) := by
  intro p q hm hm'
  obtain ⟨h1, s1⟩ := hp _ hm
  obtain ⟨h2, s2⟩ := hp _ hm'
  show wpAny (model prog w) A (keyLt' (tuples' b) p.1 q.1) (fun r s' => s' = s ∧ r = llt (k p.1) (k q.1)) (fun _ _ => False) s
  obtain ⟨a, o, us, n, e, ho, hc, hd, r⟩ := h1
  obtain ⟨a', o', us', n', e', ho', hc', hd', r'⟩ := h2
  generalize k p.1 = kp at r s1 ⊢
  generalize k q.1 = kq at r' s2 ⊢
  rw [e, e']
  refine PySem.W.kat_lt ho hd ho' hd' ?_
  have := lex_at (prog := prog) (w := w) (A := A) (s := s) (Q := fun r s' => s' = s ∧ r = llt kp kq) (b := b) 0 r r' (s1.trans s2.symm) ⟨rfl, rfl⟩
  simpa using this
theorem firsts_tup {h : Heap} {k : Value → List Key} {c : Bool} {sh : List Bool} : ∀ {vs : List Value}, (∀ v ∈ vs, IsTup h v (k v) ∧ shp (k v) = c :: sh) → ∃ fs : List Value, PySem.W.KatTups h vs fs ∧ fs.length = vs.length ∧ ∀ f ∈ fs, if c = true then ∃ x t, f = Value.int x t else ∃ x t, f = Value.str x t
  | [], _ => ⟨[], PySem.W.KatTups.nil, rfl, fun _ hm => by simp at hm⟩
  | v :: vs, hp => by
    obtain ⟨fs, h1, h2, h3⟩ := firsts_tup (vs := vs) fun v' hm => hp v' (List.mem_cons_of_mem _ hm)
    obtain ⟨⟨a, o, us, n, e, ho, hc, hd, r⟩, es⟩ := hp v (List.mem_cons_self ..)
    generalize k v = l at r es
    subst e
    cases r with
    | nil => cases es
    | int i t r =>
      have ec : true = c := (List.cons.inj es).1
      refine ⟨.int i t :: fs, PySem.W.KatTups.cons ho hc hd rfl h1, by rw [List.length_cons, List.length_cons, h2], fun f hm => ?_⟩
      rcases List.mem_cons.mp hm with rfl | hm
      · rw [← ec, if_pos rfl]
        exact ⟨i, t, rfl⟩
      · exact h3 f hm
    | str x t r =>
      have ec : false = c := (List.cons.inj es).1
      refine ⟨.str x t :: fs, PySem.W.KatTups.cons ho hc hd rfl h1, by rw [List.length_cons, List.length_cons, h2], fun f hm => ?_⟩
      rcases List.mem_cons.mp hm with rfl | hm
      · rw [← ec, if_neg (by decide)]
        exact ⟨x, t, rfl⟩
      · exact h3 f hm
theorem tups_sortable {a : Addr} {vs : List Value} {k : Value → List Key} {c : Bool} {sh : List Bool} (h0 : 0 < vs.length) (hp : ∀ v ∈ vs, IsTup s.heap v (k v) ∧ shp (k v) = c :: sh) (ha : ∀ o, s.heap.get? a = some o → o.cls ≠ .type "tuple") : SrtO.SortableO prog w A s a vs fun v u => llt (k v) (k u) := by
  intro h' keep
  have hp' : ∀ v ∈ vs, IsTup h' v (k v) ∧ shp (k v) = c :: sh := fun v hm => ⟨(hp v hm).1.keeps fun b o e c => keep b o (fun z => by subst z; exact ha o e c) e, (hp v hm).2⟩
  obtain ⟨fs, h1, h2, h3⟩ := firsts_tup hp'
  refine ⟨tuples' true, fun Q E hq => ?_, tup_cmp hp'⟩
  cases c with
  | true =>
    refine PySem.W.kat_kind (T := .type "int") h1 (by omega) (fun f hm => ?_) (by rfl) ?_
    · have := h3 f hm
      rw [if_pos rfl] at this
      obtain ⟨x, t, rfl⟩ := this
      exact PySem.W.Looks.now
    · have e : (Value.type "int" != Value.type "tuple") = true := by first | decide +kernel | rfl | decide
      rw [e]
      exact hq
  | false =>
    refine PySem.W.kat_kind (T := .type "str") h1 (by omega) (fun f hm => ?_) (by rfl) ?_
    · have := h3 f hm
      rw [if_neg (by decide)] at this
      obtain ⟨x, t, rfl⟩ := this
      exact PySem.W.Looks.now
    · have e : (Value.type "str" != Value.type "tuple") = true := by first | decide +kernel | rfl | decide
      rw [e]
      exact hq
theorem sorted_tups {l : Addr} {vs : List Value} {k : Value → List Key} {c : Bool} {sh : List Bool} {Q : Value → Shared → Prop} (hl : s.heap.IsList l vs.toArray) (hz : vs.length ≤ sizeLine) (hp : ∀ v ∈ vs, IsTup s.heap v (k v) ∧ shp (k v) = c :: sh)
    (h : ∀ (h' : Heap) (d : Addr) (out : List Value), SrtO.Srtd (fun v u => llt (k v) (k u)) out → SrtO.Stb (fun v u => llt (k v) (k u)) out vs → (∀ b o, s.heap.get? b = some o → h'.get? b = some o) → s.heap.objs.size ≤ d → (∃ n, h'.get? d = some (seqObj "list" out.toArray n)) → Q (.ref d) { s with heap := h' }) :
    wpAny (model prog w) A (call (.builtin "sorted") [.ref l]) Q E s := by
  refine SrtO.sorted_ord (llt_swo k) hl hz (fun h2 h₁ a ha kk => ?_) fun out hs hb => ?_
  · refine tups_sortable (s := { s with heap := h₁ }) (by omega) (fun v hm => ⟨(hp v hm).1.keeps fun b o e _ => (kk b o e).2, (hp v hm).2⟩) fun o e => ?_
    have e' : some o = some (seqObj "list" vs.toArray 0) := e.symm.trans ha
    cases e'
    intro c
    exact absurd (Value.type.inj c) (by decide)
  · exact h _ _ out hs hb (fun b o e => sortedAll_old e) (Nat.le_succ _) (sortedAll_at s.heap vs out.toArray)
end
/-- sorted(xs), xs a list of tuples of ints and texts that are alike: a new list, sorted -/
def rSortedTup (K : PySem.W.Frag) : List V → Hp → VK → Prop := fun vs H Q => ∃ (a : Addr) (xs : List V) (k : V → List Key) (c : Bool) (sh : List Bool), vs = [V.ref a] ∧ SqL K H a xs ∧ (∀ x ∈ xs, ∃ t, x = V.ref t ∧ H t = some (.tup ((k x).map kV)) ∧ shp (k x) = c :: sh) ∧
  ∀ ys p, SrtO.Srtd (fun x y => llt (k x) (k y)) ys → ys.Perm xs → H p = none → Q (.ref p) (upd H p (.lst ys))
theorem cr_sortedTup {X : Cx} : CallR X (.builtin "sorted") (rSortedTup X.K) := by
  intro pins s σ H vs us Q I r h
  obtain ⟨a, xs, k, c, sh, rfl, hs, hx, q⟩ := h
  obtain ⟨its, rv, hl, hz⟩ := I.list hs
  obtain ⟨u, rfl, ru⟩ := vals1 r
  obtain rfl : u = Value.ref a := ru
  obtain ⟨e1, e2⟩ := refs_back rv fun x m => by
    obtain ⟨t, e, _⟩ := hx x m
    exact ⟨t, e⟩
  refine sorted_tups (k := fun u => k (backV u)) (c := c) (sh := sh) hl.isList (by rw [← rv.length]; exact hz) (fun v hv => ?_) fun h' d out h1 h2 kp hd hn => ?_
  · obtain ⟨t, rfl⟩ := e2 v hv
    have hm : V.ref t ∈ xs := by rw [e1]; exact List.mem_map.mpr ⟨_, hv, rfl⟩
    obtain ⟨t', e, ht, hsh⟩ := hx _ hm
    cases e
    obtain ⟨_, its2, r2, o, ho, hc, n, hd⟩ := I.hok _ _ ht
    exact ⟨⟨t, o, its2, n, rfl, ho, hc, hd, kvals_of r2⟩, hsh⟩
  · have h3 : ∀ u ∈ out, ∃ a, u = Value.ref a := fun u hu => e2 u (h2.perm.mem_iff.mp hu)
    obtain ⟨n, hn⟩ := hn
    have hb : (out.map backV).Perm xs := by
      rw [e1]
      exact h2.perm.map backV
    refine ⟨.ref d, upd H d (.lst (out.map backV)), I.laid (t' := s.toks) kp hd ⟨?_, out, n, vals_back h3, hn⟩, rfl, q _ d (SrtO.srtd_map (lt := fun x y => llt (k x) (k y)) h1) hb (I.hok.fresh hd)⟩
    rw [hb.length_eq]
    exact hz
end FB

namespace FB
open PySem PySem.Spec PyProof.Rows L2
/-! ### setdefault of a dict whose keys are tuples -/
def tDSetdT (td ty tx : TE) : TE := fun σ H Q => td σ H fun x H1 => ∃ a, x = .ref a ∧ IsD H1 a ∧ ty σ H1 fun y H2 => tx σ H2 fun z H3 => ∃ (kvs : List (List Key × V)) (k : List Key) (b : Addr), H3 a = some (.dT kvs) ∧ y = .ref b ∧ H3 b = some (.tup (k.map kV)) ∧ kvs.length < sizeLine ∧
  (∀ v, valV kvs k = some v → Q v H3) ∧ (valV kvs k = none → Q z (upd H3 a (.dT (putK kvs k z))))
section
variable {X : Cx} {o e f : Expr} {td ty tx : TE} {apos cpos : Pos}
theorem pe_dsetdT (hu : X.A.units + 1 < cLine) (ho : PE X o td) (he : PE X e ty) (hf : PE X f tx) (m : M2 X o "setdefault" apos e f cpos) : PE X (.Call (.Attribute o "setdefault" apos) [e, f] [] cpos) (tDSetdT td ty tx) := by
  refine ⟨fun pins s σ H Q I h => ?_⟩
  refine wpAny_Call_method m.base m.few m.line PySem.F.plainAttrs_dict PySem.F.slot_dict_setdefault PySem.F.type_dict_setdefault (thn (ho.run pins s σ H _ I h) fun u s1 q0 => ?_)
  obtain ⟨x, H1, I1, rx, a, rfl, d, q1⟩ := q0
  obtain rfl : u = Value.ref a := rx
  obtain ⟨t1, t2, hsm⟩ := isD_at I1 d
  refine ⟨t1, t2, ?_⟩
  rw [m.trees]
  refine Calls.callWith_builtin rfl (Calls.evalArgs_plain (Calls.spliced_cons (thn (he.run pins s1 σ H1 _ I1 q1) fun iv s2 p2 => ?_)))
  obtain ⟨y, H2, I2, ry, q2⟩ := p2
  refine Calls.spliced_cons (thn (hf.run pins s2 σ H2 _ I2 q2) fun fv s3 p3 => ?_)
  obtain ⟨z, H3, I3, rz, kvs, k, b, ea, rfl, eb, hl, q3, q4⟩ := p3
  obtain rfl : iv = Value.ref b := ry
  refine Calls.spliced_nil ?_
  obtain ⟨zz, hd, xs, rel, dd⟩ := dt_of I3.hok ea
  have hz : xs.length ≤ sizeLine := by
    rw [← Paired.length rel]
    exact zz
  have hv := rel.val k
  refine call_setdefault_heap (hsz := hz) (tupleKind_room_in1 hu) (key_of I3.hok eb) hd dd (fun p hp => ?_) fun hn h' dd' hs => ?_
  · rw [hp] at hv
    cases q0 : valV kvs k with
    | none =>
      rw [q0] at hv
      exact (show False from hv).elim
    | some v0 =>
      rw [q0] at hv
      exact ⟨v0, H3, I3.tok _, hv, q3 v0 q0⟩
  · rw [hn] at hv
    cases q0 : valV kvs k with
    | some v0 =>
      rw [q0] at hv
      exact (show False from hv).elim
    | none =>
      have hl2 : (putK kvs k z).length ≤ sizeLine := by
        have := length_putK kvs k z
        omega
      obtain ⟨ob, es, ep, hq, h2, h3, h4, _, h5⟩ := dd'
      refine ⟨z, upd H3 a (.dT (putK kvs k z)), d_write I3 (by rw [ea]; exact True.intro) hs ⟨ob, hq⟩ ⟨hl2, hd, _, (rel.put k eb rz).keeps fun c ys ec => ?_, ob, es, ep, hq, h2, h3, h4, h5⟩, rz, q4 q0⟩
      rw [upd_ne (ne_of ec ea (fun z => nomatch z))]
      exact ec
end
end FB

namespace FB
open PySem PySem.Spec PyProof.Rows L2
/-! ### data that are equal, sort by sort -/
def Pl : Nat → PyData → Prop
  | 0, d => d = .none ∨ (∃ i, d = .int i) ∨ ∃ x, d = .str x
  | n + 1, d => (d = .none ∨ (∃ i, d = .int i) ∨ ∃ x, d = .str x) ∨ ∃ ds, (d = .list ds ∨ d = .tuple ds) ∧ ∀ e ∈ ds, Pl n e
def spSame (K : PySem.W.Frag) (n : Nat) : Sp := fun vs H Q _ => ∃ (x y : V) (d : PyData), vs = [x, y] ∧ Dp K H x d ∧ Dp K H y d ∧ Pl n d ∧ ∀ H', Same H H' → Q (.bl true) H'
theorem ty_list {K : PySem.W.Frag} {H : Hp} {a : Addr} {xs : List V} (h : SqL K H a xs) : TyX K H (.ref a) (.type "list") := by
  rcases h with (h | ⟨o, h⟩) | ⟨o, its, n, hk, hc, _⟩
  · exact .base (.lst h)
  · exact .base (.frz h)
  · exact .kList hk hc
theorem ty_tup {K : PySem.W.Frag} {H : Hp} {a : Addr} {xs : List V} (h : SqT K H a xs) : TyX K H (.ref a) (.type "tuple") := by
  rcases h with (h | ⟨o, h⟩) | ⟨o, its, n, hk, hc, _⟩
  · exact .base (.tup h)
  · exact .fTuple h
  · exact .kTuple hk hc
theorem same_tup {K : PySem.W.Frag} {H H' : Hp} {a : Addr} {xs : List V} (e : Same H H') (h : SqT K H a xs) : SqT K H' a xs := by
  rcases h with (h | ⟨o, h⟩) | h
  · exact .inl (.inl (e _ _ h))
  · exact .inl (.inr ⟨o, e _ _ h⟩)
  · exact .inr h
mutual
theorem dp_same {K : PySem.W.Frag} {H H' : Hp} (e : Same H H') : ∀ (d : PyData) (v : V), Dp K H v d → Dp K H' v d
  | .none, _, h => by cases h; exact .non
  | .bool b, _, h => by cases h; exact .bl b
  | .int i, _, h => by cases h; exact .int i
  | .str x, _, h => by cases h; exact .str x
  | .list ds, _, h => by
    cases h with
    | lst hs ha => exact .lst (e.seq hs) (dpall_same e ds _ ha)
  | .tuple ds, _, h => by
    cases h with
    | tup hs ha => exact .tup (same_tup e hs) (dpall_same e ds _ ha)
  | .dict _, _, h => by cases h
theorem dpall_same {K : PySem.W.Frag} {H H' : Hp} (e : Same H H') : ∀ (ds : List PyData) (vs : List V), DpAll K H vs ds → DpAll K H' vs ds
  | [], _, h => by cases h; exact .nil
  | d :: ds, _, h => by
    cases h with
    | cons h1 h2 => exact .cons (dp_same e d _ h1) (dpall_same e ds _ h2)
end
theorem dpall_get {K : PySem.W.Frag} {H : Hp} : ∀ {vs : List V} {ds : List PyData} {i : Nat} {v : V}, DpAll K H vs ds → vs[i]? = some v → ∃ d, ds[i]? = some d ∧ Dp K H v d
  | _, _, _, _, .nil, h => by simp at h
  | x :: _, _, 0, v, .cons h1 h2, h => by
    have e : x = v := by simpa using h
    subst e
    exact ⟨_, rfl, h1⟩
  | _, _, i + 1, v, .cons h1 h2, h => by
    obtain ⟨d, e1, e2⟩ := dpall_get (i := i) (v := v) h2 (by simpa using h)
    exact ⟨d, by simpa using e1, e2⟩
theorem dpall_len {K : PySem.W.Frag} {H : Hp} : ∀ {vs : List V} {ds : List PyData}, DpAll K H vs ds → vs.length = ds.length
  | _, _, .nil => rfl
  | _, _, .cons _ h => by rw [List.length_cons, List.length_cons, dpall_len h]
section
variable {K : PySem.W.Frag}
theorem kt (a b : String) (r : Bool) (h : kitB a b = some r) : PySem.W.kitOne K (.type a) (.type b) = some r := kit_ty h
theorem ki_nl : PySem.W.kitOne K (.type "NoneType") (.type "list") = some false := kit_ty (by decide +kernel)
theorem ki_nt : PySem.W.kitOne K (.type "NoneType") (.type "tuple") = some false := kit_ty (by decide +kernel)
theorem ki_il : PySem.W.kitOne K (.type "int") (.type "list") = some false := kit_ty (by decide +kernel)
theorem ki_it : PySem.W.kitOne K (.type "int") (.type "tuple") = some false := kit_ty (by decide +kernel)
theorem ki_is : PySem.W.kitOne K (.type "int") (.type "str") = some false := kit_ty (by decide +kernel)
theorem ki_ii : PySem.W.kitOne K (.type "int") (.type "int") = some true := kit_ty (by decide +kernel)
theorem ki_ib : PySem.W.kitOne K (.type "int") (.type "bool") = some false := kit_ty (by decide +kernel)
theorem ki_sl : PySem.W.kitOne K (.type "str") (.type "list") = some false := kit_ty (by decide +kernel)
theorem ki_st : PySem.W.kitOne K (.type "str") (.type "tuple") = some false := kit_ty (by decide +kernel)
theorem ki_ss : PySem.W.kitOne K (.type "str") (.type "str") = some true := kit_ty (by decide +kernel)
theorem ki_ll : PySem.W.kitOne K (.type "list") (.type "list") = some true := kit_ty (by decide +kernel)
theorem ki_lt : PySem.W.kitOne K (.type "list") (.type "tuple") = some false := kit_ty (by decide +kernel)
theorem ki_tl : PySem.W.kitOne K (.type "tuple") (.type "list") = some false := kit_ty (by decide +kernel)
theorem ki_tt : PySem.W.kitOne K (.type "tuple") (.type "tuple") = some true := kit_ty (by decide +kernel)
theorem ki_bb : PySem.W.kitOne K (.type "bool") (.type "bool") = some true := kit_ty (by decide +kernel)
end
end FB

namespace FB
open PySem PySem.Spec PyProof.Rows L2
def spanD (z : Sp3) : PyData := .tuple [.str z.2.1, .str z.2.2]
theorem dp_span {K : PySem.W.Frag} {H : Hp} {z : Sp3} (h : H z.1 = some (.tup [.str z.2.1, .str z.2.2])) : Dp K H (.ref z.1) (spanD z) := .tup (SqT.of h) (.cons (.str _) (.cons (.str _) .nil))
theorem dpall_spans {K : PySem.W.Frag} {H : Hp} : ∀ zs : List Sp3, (∀ z ∈ zs, H z.1 = some (.tup [.str z.2.1, .str z.2.2])) → DpAll K H (zs.map fun z => V.ref z.1) (zs.map spanD)
  | [], _ => .nil
  | z :: r, h => .cons (dp_span (h z (by simp))) (dpall_spans r fun y hy => h y (by simp [hy]))
theorem lay_spans : ∀ zs : List Sp3, (∀ z ∈ zs, KeyOr z.2.1 ∧ KeyOr z.2.2) → PyData.canLayAll0 (zs.map spanD) = true ∧ PyData.depthAll (zs.map spanD) ≤ 1
  | [], _ => ⟨by simp [PyData.canLayAll0], by simp [PyData.depthAll]⟩
  | z :: r, h => by
    obtain ⟨h1, h2⟩ := lay_spans r fun y hy => h y (by simp [hy])
    obtain ⟨k1, k2⟩ := h z (by simp)
    refine ⟨?_, ?_⟩
    · rw [List.map_cons, PyData.canLayAll0, h1]
      simp [spanD, PyData.canLay0, PyData.canLayAll0, k1.ok, k2.ok]
    · rw [List.map_cons, PyData.depthAll]
      have : (spanD z).depth = 1 := by simp [spanD, PyData.depth, PyData.depthAll]
      omega
theorem shaped_spans {zs : List Sp3} (h : ∀ z ∈ zs, KeyOr z.2.1 ∧ KeyOr z.2.2) : SeqAt.shaped (.list (zs.map spanD)) = true := by
  obtain ⟨h1, h2⟩ := lay_spans zs h
  unfold SeqAt.shaped
  rw [PyData.canLay0, h1, decide_eq_true (show (PyData.list (zs.map spanD)).depth ≤ 64 by rw [PyData.depth]; omega)]
  rfl
theorem shaped_nil : SeqAt.shaped (.list []) = true := by decide +kernel
theorem eqv_nil : PyData.eqv (.list []) (.list []) = true := by simp [PyData.eqv, PyData.eqvAll]
theorem eqv_cons (x : PyData) (r : List PyData) : PyData.eqv (.list (x :: r)) (.list []) = false := by simp [PyData.eqv, PyData.eqvAll]
def spLaw (K : PySem.W.Frag) : Sp := fun vs H Q _ => ∃ (a : Addr) (ns : List Int), vs = [.ref a] ∧ SqL K H a (ns.map V.int) ∧ ns.length ≤ 63 ∧ ∀ H', Q (.bl true) H'
theorem pl_span (z : Sp3) : Pl 1 (spanD z) := .inr ⟨_, .inr rfl, fun e he => by
  have : e = .str z.2.1 ∨ e = .str z.2.2 := by simpa using he
  rcases this with h | h
  · exact .inr (.inr ⟨_, h⟩)
  · exact .inr (.inr ⟨_, h⟩)⟩
theorem pl_spans (zs : List Sp3) : Pl 2 (.list (zs.map spanD)) := .inr ⟨_, .inl rfl, fun e he => by
  obtain ⟨z, _, rfl⟩ := List.mem_map.mp he
  exact pl_span z⟩
theorem spanD_eq {ws us : List Sp3} (h : ws.map (·.2) = us.map (·.2)) : ws.map spanD = us.map spanD := by
  have e : ∀ l : List Sp3, l.map spanD = (l.map (·.2)).map fun p => PyData.tuple [.str p.1, .str p.2] := fun l => by
    rw [List.map_map]
    rfl
  rw [e ws, e us, h]
theorem dp_spans {K : PySem.W.Frag} {H : Hp} {a : Addr} {zs : List Sp3} (h : SpansAt H a zs) : Dp K H (.ref a) (.list (zs.map spanD)) := .lst (SqL.of h.ls) (dpall_spans zs h.tp)
theorem eqv_spans {zs : List Sp3} (h : ∀ z ∈ zs, KeyOr z.2.1 ∧ KeyOr z.2.2) : PyData.eqv (.list (zs.map spanD)) (.list (zs.map spanD)) = true := by
  refine SeqAt.eqv_refl _ ?_
  rw [PyData.canLay0]
  exact (lay_spans zs h).1
theorem asked_keys {zs : List Sp3} {ks : List Str} (hz : ∀ z ∈ zs, KeyOr z.2.1 ∧ KeyOr z.2.2) (h : ∃ ds : List Str, (∀ k ∈ ds, IsKey k) ∧ ks = ds ++ (zs.map fun z => [z.2.1, z.2.2].filter fun x => !decide (V.str x = V.str "")).flatten) : ∀ k ∈ ks, IsKey k := by
  obtain ⟨ds, h1, rfl⟩ := h
  intro k hk
  rcases List.mem_append.mp hk with m | m
  · exact h1 k m
  · obtain ⟨l, hl, hkl⟩ := List.mem_flatten.mp m
    obtain ⟨z, hz', rfl⟩ := List.mem_map.mp hl
    obtain ⟨m1, m2⟩ := List.mem_filter.mp hkl
    have hne : k ≠ "" := fun e => by
      rw [e, decide_eq_true rfl] at m2
      cases m2
    have : k = z.2.1 ∨ k = z.2.2 := by simpa using m1
    rcases this with rfl | rfl
    · exact (hz z hz').1.resolve_left hne
    · exact (hz z hz').2.resolve_left hne
end FB

namespace FB
open PySem PySem.Spec PyProof.Rows L2
/-! ### lists of spans that grow -/
theorem SpansAt.add {H : Hp} {pl : Addr} {ws : List Sp3} {z : Sp3} (h : SpansAt H pl ws) (hz : H z.1 = some (.tup [.str z.2.1, .str z.2.2])) :
    SpansAt (upd H pl (.lst (ws.map (fun z => V.ref z.1) ++ [.ref z.1]))) pl (ws ++ [z]) := by
  refine ⟨by rw [upd_same, List.map_append]; rfl, fun y hy => ?_⟩
  have hy' : H y.1 = some (.tup [.str y.2.1, .str y.2.2]) := by
    rcases List.mem_append.mp hy with m | m
    · exact h.tp y m
    · rw [show y = z by simpa using m]
      exact hz
  rw [upd_ne (ne_of hy' h.ls (by intro z; cases z))]
  exact hy'
theorem SpansAt.addNew {H : Hp} {pl t : Addr} {ws : List Sp3} {x y : Str} (h : SpansAt H pl ws) (ht : H t = none) :
    SpansAt (upd (upd H t (.tup [.str x, .str y])) pl (.lst (ws.map (fun z => V.ref z.1) ++ [.ref t]))) pl (ws ++ [(t, x, y)]) :=
  (h.same (same_new ht)).add (z := (t, x, y)) upd_same
theorem same_mut {H H' : Hp} {p : Addr} {o : HO} (k : Same H H') (h : H p = none) : Same H (upd H' p o) := fun b x e => by
  rw [upd_ne (ne_of_none e h)]
  exact k b x e
/-! ### the least key of a span -/
def leastS (l : Str) : Str := if l = "" then "a" else l
theorem key_ge_a {k : Str} (h : IsKey k) : ltS k "a" = false := by
  obtain ⟨h0, _, hc⟩ := h
  apply decide_eq_false
  have ea : ("a" : Str).cps.toList = [97] := by decide +kernel
  rw [ea]
  cases e : k.cps.toList with
  | nil =>
    have : k.length = 0 := by
      show k.cps.size = 0
      rw [← Array.length_toList, e]
      rfl
    omega
  | cons c r =>
    have h1 := (hc c (by rw [e]; simp)).1
    intro hlt
    rcases List.cons_lt_cons_iff.mp hlt with q | ⟨q, q'⟩
    · omega
    · exact absurd q' (by simp)
theorem isKey_of {z : Str} (h : KeyOr z) (h' : z ≠ "") : IsKey z := h.resolve_left h'
theorem a_key : IsKey "a" := by
  unfold IsKey
  decide +kernel
theorem lt_empty_a : ltS "" "a" = true := by decide +kernel
theorem no_lt_empty (k : Str) : ltS k "" = false := by
  apply decide_eq_false
  have ea : ("" : Str).cps.toList = [] := by decide +kernel
  rw [ea]
  exact List.not_lt_nil _
theorem empty_lt {k : Str} (h : k ≠ "") : ltS "" k = true := ltS_tri (no_lt_empty k) (fun e => h e.symm)
theorem IsKey.ne {z : Str} (h : IsKey z) : z ≠ "" := fun e => by
  subst e
  have := h.1
  exact absurd this (by decide +kernel)
theorem max_a {l : Str} (h : KeyOr l) : maxS l "a" = leastS l := by
  unfold maxS leastS
  rcases h with rfl | h
  · rw [if_pos lt_empty_a, if_pos rfl]
  · rw [key_ge_a h, if_neg (by decide), if_neg h.ne]
def canB (l h k : Str) : Bool := hasB l h k && ltS (maxS l "a") k
theorem can_eq {l h k : Str} (hl : KeyOr l) (hk : IsKey k) : canB l h k = (hasB l h k && !decide (V.str k = V.str (leastS l))) := by
  unfold canB
  rw [max_a hl]
  cases e : hasB l h k with
  | false => rfl
  | true =>
    have e1 : ltS k l = false := by
      unfold hasB at e
      rw [Bool.and_eq_true] at e
      cases q : ltS k l with
      | false => rfl
      | true => rw [q] at e; exact absurd e.1 (by decide)
    have e2 : ltS k (leastS l) = false := by
      unfold leastS
      split
      · exact key_ge_a hk
      · exact e1
    rw [Bool.true_and, Bool.true_and]
    by_cases q : k = leastS l
    · rw [← q, ltS_irrefl, decide_eq_true rfl]
      rfl
    · rw [ltS_tri e2 (fun z => q z.symm), decide_eq_false (fun z => q (V.str.inj z))]
      rfl
def spLeast (K : PySem.W.Frag) : Sp := fun vs H Q _ => ∃ (p : Addr) (l h : Str), vs = [.ref p] ∧ SqT K H p [.str l, .str h] ∧ ∀ H', Same H H' → Q (.str (leastS l)) H'
def spCan (K : PySem.W.Frag) : Sp := fun vs H Q _ => ∃ (p : Addr) (l h k : Str), vs = [.ref p, .str k] ∧ SqT K H p [.str l, .str h] ∧ Q (.bl (canB l h k)) H
def cutL (k : Str) (c : Str → Str → Bool) (zs : List (Str × Str)) : List (Str × Str) := (zs.map fun z => if c z.1 z.2 = true then [(z.1, k), (k, z.2)] else [z]).flatten
theorem cutL_snoc (k : Str) (c : Str → Str → Bool) (zs : List (Str × Str)) (z : Str × Str) : cutL k c (zs ++ [z]) = cutL k c zs ++ (if c z.1 z.2 = true then [(z.1, k), (k, z.2)] else [z]) := by
  unfold cutL
  rw [List.map_append, List.flatten_append]
  show _ ++ (_ ++ []) = _
  rw [List.append_nil]
theorem take_snoc {α : Type} {zs : List α} {i : Nat} {z : α} (h : zs[i]? = some z) : zs.take (i + 1) = zs.take i ++ [z] := by
  rw [List.take_add_one, h]
  rfl
/-- a new list of spans, made of those of a list and cut at the key as c says -/
def spCut (c : Str → Str → Str → Bool) : Sp := fun vs H Q _ => ∃ (a : Addr) (zs : List Sp3) (k : Str), vs = [.ref a, .str k] ∧ SpansAt H a zs ∧ zs.length ≤ 60 ∧
  ∀ (p : Addr) (ws : List Sp3) (H' : Hp), Same H H' → H p = none → SpansAt H' p ws → ws.map (·.2) = cutL k (fun l h => c l h k) (zs.map (·.2)) → ws.length ≤ 2 * zs.length → Q (.ref p) H'
end FB

namespace FB
open PySem PySem.Spec PyProof.Rows L2 GenW
/-! ### a def's table of code objects, by what is true of it -/
def TabX (P : Addr) : HO := .ext fun h => ∃ ps : Array Value, h.get? P = some { cls := .none, data := .fields ps } ∧ TriplesOk ps.toList
section
variable {X : Cx} {pins : List (Addr × Obj)} {σ : L2.St} {H : Hp} {s : Shared}
theorem tabX_ok {P : Addr} {Pg : Program} {w : World} {H : Hp} {h : Heap} {ps : Array Value} (hm : h.get? P = some { cls := .none, data := .fields ps }) (ht : TriplesOk ps.toList) : ObjOk Pg w H h P (TabX P) :=
  ⟨⟨ps, hm, ht⟩, ⟨_, hm⟩, fun _ _ ⟨qs, e, t⟩ q => ⟨qs, q _ e, t⟩⟩
theorem inv_tabX {P : Addr} {ps : Array Value} {h' : Heap} {t' : Nat} (I : Inv X pins σ H s) (hP : H P = some (TabX P)) (k : ∀ b o, b ≠ P → s.heap.get? b = some o → h'.get? b = some o)
    (hm : h'.get? P = some { cls := .none, data := .fields ps }) (ht : TriplesOk ps.toList) : Inv X pins σ H { s with heap := h', toks := t' } := by
  have J := I.write (x := P) (e := P) (o := TabX P) (t' := t') (by rw [hP]; trivial) (.inl rfl) k ⟨_, hm⟩ (tabX_ok hm ht)
  have e : upd H P (TabX P) = H := by
    funext b
    unfold upd
    split
    · rename_i e
      rw [e, hP]
    · rfl
  rw [e] at J
  exact J
/-- the state again, the heap as it was -/
theorem Inv.woke {s' : Shared} (I : Inv X pins σ H s) (h : s'.heap = s.heap) (ho : s'.os = s.os) (hb : AllBare s'.gens) : Inv X pins σ H s' :=
  ⟨I.ok, ho.trans I.os, hb, by rw [h]; exact I.base, by rw [h]; exact I.loc, by rw [h]; exact I.cell, I.free, I.freeC, by rw [h]; exact I.pin, by rw [h]; exact I.hok, I.len⟩
end
/-! ### a def whose code object is known -/
structure FunC (K : PySem.W.Frag) (x qual : Str) (st : Stmt) (f : Addr) (fd : FuncData) (c : Addr) : Prop where
  ex : ∃ (oc : Value) (od : Option Addr) (kV doc pm : Value) (an : Option Addr) (ct : Value) (osl : Array (Option Value)),
    fd = PySem.W.fnOf x qual (defArgs st) (defBody st) (defScope st) .none kV doc pm an (.ref c) ct ∧ K.lookup f = some ⟨oc, od, .func fd, osl⟩ ∧ PySem.W.codeIn K (.ref c) qual = true
  kp : PySem.W.keepIn K (.ref f) = true
theorem FunC.ok {P : Program} {w : World} {K : PySem.W.Frag} {mg : Str → Option Value} {base : Heap} {x qual : Str} {st : Stmt} {f c : Addr} {fd : FuncData} {N ps : List Str} {k : Nat} {sp : Sp} (F : FunC K x qual st f fd c) (S : FnScope N ps (defScope st)) (len : ∀ vs H Q E, sp vs H Q E → vs.length = ps.length)
    (hbody : ∀ (A : Around) (outer : List Env) (s : Shared) (H : Hp) (vs : List V) (Q : VK) (E : XK), Room k (A.deeper (envOfC qual (defScope st) s.heap.objs.size f (.ref c))) → sp vs H Q E →
      ∃ t, PSs (cxOf CX0 P w K mg base N qual (defScope st) f (.ref c) A outer s H E).nox (defBody st) t ∧ t { nx := fun _ H' => Q .non H', rt := Q } (start N vs) H) : FnOk P w K mg base CX0 (k + 1) f fd ps sp := by
  obtain ⟨oc, od, kV, doc, pm, an, ct, osl, rfl, lk, hcd⟩ := F.ex
  refine fn_of lk hcd S len fun A outer s H vs Q E hr hsp => ?_
  obtain ⟨t, h, q⟩ := hbody A outer s H vs Q E hr hsp
  exact ⟨t, h.nox, q⟩
theorem FunC.fn {K : PySem.W.Frag} {x qual : Str} {st : Stmt} {f c : Addr} {fd : FuncData} (F : FunC K x qual st f fd c) : Fun K x qual st f fd := by
  obtain ⟨oc, od, kV, doc, pm, an, ct, osl, e, lk, hcd⟩ := F.ex
  exact ⟨⟨oc, od, kV, doc, pm, an, .ref c, ct, osl, e, lk, hcd⟩, F.kp⟩
/-! ### a generator expression's frame -/
abbrev gA (X : Cx) (cenv : Env) : Around := X.A.in1.in1.deeper cenv
abbrev gCx (X : Cx) (s : Shared) (H : Hp) (cenv : Env) (fp : List Addr) (pn : List (Addr × Obj)) : Cx :=
  { X with A := gA X cenv, s_0 := s, H_0 := H, env := cenv, outer := X.stack, stack := cenv :: X.stack, ex := fp, fn := fun _ => false, pn := pn, xe := fun _ _ => False }
def genC (scope : Scope) : Bool := !scope.isCoroutine && (scope.names.all fun y => decide (y.2 ≠ .cell)) && decide (scope.names.lookup (".0" : Str) = some NameKind.local)
section
variable {X : Cx} {pins : List (Addr × Obj)} {σ : L2.St} {H : Hp} {s : Shared}
theorem gen_start {scope : Scope} {own : List (Str × Nat)} {fp : List Addr} {h5 : Heap} {a : Addr} {go : Obj} {g' : Array GenState} {tk : Nat} {code : Value} {m : Str → Option Value} (I : Inv X pins σ H s) (ok : BlkOk X.N X.env.scope scope own) (hN : X.N.Nodup)
    (hfp : ∀ b ∈ fp, FpOk X pins H b ∧ b < s.heap.objs.size) (hns : h5.Ns s.heap.objs.size m) (kp : ∀ b o, s.heap.get? b = some o → h5.get? b = some o) (ha : h5.get? a = some go) (hga : s.heap.objs.size < a) (hgd : ∀ v, go.data ≠ .cell v) (hg : AllBare g') (hh : X.A.handled = none) (hcellN : ∀ y ∈ scope.names, y.2 ≠ .cell) :
    Inv (gCx X s H (genEnv scope (cloFrom X.env.cells scope.names []) s.heap.objs.size code builtinsNs X.env) fp [(a, go)]) [] (wipe σ (own.map (·.2))) H { s with heap := h5, gens := g', toks := tk } := by
  have hfree : ∀ y ∈ scope.names, y.2 = .free → ∃ c, X.env.cells.lookup y.1 = some c := fun y hy e => by
    rcases ok.free y hy e with k | k
    · exact I.ok.has _ (.inl k)
    · exact I.ok.has _ (.inr k)
  generalize hcenv : genEnv scope (cloFrom X.env.cells scope.names []) s.heap.objs.size code builtinsNs X.env = cenv
  have hL : cenv.locals = s.heap.objs.size := by rw [← hcenv]; rfl
  have hcl : cenv.cells = cloFrom X.env.cells scope.names [] := by rw [← hcenv]; rfl
  have hsc : cenv.scope = scope := by rw [← hcenv]; rfl
  have cm : ∀ {y c}, (y, c) ∈ cloFrom X.env.cells scope.names [] → X.env.cells.lookup y = some c ∧ c < s.heap.objs.size := fun {y c} hm => by
    rcases cloFrom_mem hm with hm | ⟨h1, rfl⟩
    · cases hm
    · obtain ⟨c, hc⟩ := hfree _ h1 rfl
      rw [hc]
      obtain ⟨w, z⟩ := I.cell _ _ hc
      exact ⟨rfl, z.lt⟩
  have mem : ∀ {y c}, cenv.cells.lookup y = some c → X.env.cells.lookup y = some c ∧ c < s.heap.objs.size := fun {y c} e => by
    rw [hcl] at e
    exact cm (PySem.mem_of_lookup e)
  have look : ∀ {y}, scope.names.lookup y = some .free → ∃ c, cenv.cells.lookup y = some c ∧ X.env.cells.lookup y = some c := fun {y} hl => by
    have hy : (y, NameKind.free) ∈ scope.names := PySem.mem_of_lookup hl
    obtain ⟨c', e'⟩ := mem_lookup (cloFrom_has (cells := X.env.cells) (acc := []) hy)
    rw [← hcl] at e'
    exact ⟨c', e', (mem e').1⟩
  have okB : (gCx X s H cenv fp [(a, go)]).Ok := by
    refine ⟨I.ok.mod, by show cenv.scope.kind = _; rw [hsc]; exact ok.kind, by show cenv.globals = _; rw [← hcenv]; exact I.ok.glob, by show cenv.builtins = _; rw [← hcenv]; rfl, by show s.heap.objs.size ≤ cenv.locals; rw [hL]; exact Nat.le_refl _,
      fun y z c e1 e2 => I.ok.inj y z c (mem e1).1 (mem e2).1, fun y hy => ?_, fun y c z e => (by cases z), fun _ => hh, Around.frames_deeper (show X.A.in1.in1.frames = some X.stack from I.ok.frames), .inr ⟨rfl, by rw [← hcenv]; rfl⟩,
      fun b hb => ⟨?_, fun y c e z => ?_⟩, I.bs, Nat.le_trans I.ok.bsz I.sz, fun b o e hb => ?_, fun b hb z => ?_, I.stack, I.stkFree⟩
    · have key : ∀ k, cenv.kindOf y = some k → (k = .cell ∨ k = .free) → ∃ c, cenv.cells.lookup y = some c := fun k hk hk' => by
        unfold Env.kindOf at hk
        rw [hsc] at hk
        rcases hk' with rfl | rfl
        · obtain ⟨c, e⟩ := mem_lookup (PySem.mem_of_lookup hk)
          exact absurd rfl (hcellN _ (PySem.mem_of_lookup hk))
        · obtain ⟨c, h1, _⟩ := look hk
          exact ⟨c, h1⟩
      rcases hy with hy | hy
      · exact key _ hy (.inl rfl)
      · exact key _ hy (.inr rfl)
    · show b ≠ cenv.locals
      rw [hL]; exact Nat.ne_of_lt (hfp b hb).2
    · exact (hfp b hb).1.2.2.2.2.1 y c (mem e).1 z
    · rcases (hfp b hb).1.2.2.2.1 with z | z
      · exact I.ok.noex b o e z
      · exact absurd (Nat.lt_of_lt_of_le (Heap.lt_size e) (Nat.le_trans I.ok.bsz z)) (Nat.lt_irrefl _)
    · rcases List.mem_cons.mp (I.stkSub b z) with z | z
      · exact (hfp b hb).1.2.1 z
      · exact (hfp b hb).1.2.2.1 z
  refine ⟨okB, rfl, hg, Un.kept kp, ⟨m, by rw [hL]; exact hns, fun i y av e1 e2 e3 => ?_⟩, fun y c e => ?_, ?_, fun y c e => ?_, fun p hp => ?_, I.hok.kept kp, by rw [wipe_length]; exact I.len⟩
  · obtain ⟨e2, hne⟩ := wipe_some e2
    have hfr : scope.names.lookup y = some .free ∧ (cenv.kindOf y = some .cell ∨ cenv.kindOf y = some .free) := by
      have key : ∀ k, cenv.scope.names.lookup y = some k → k = .local ∨ k = .cell ∨ k = .free → scope.names.lookup y = some .free ∧ (cenv.kindOf y = some .cell ∨ cenv.kindOf y = some .free) := fun k hk hk' => by
        have hk0 := hk
        rw [hsc] at hk
        have no : ¬ (k = .local ∨ k = .cell) := fun hh => by
          rcases ok.own _ (PySem.mem_of_lookup hk) hh with e' | e'
          · obtain ⟨p, hp, hpy⟩ := List.mem_map.mp e'
            have e3 := ok.ix p hp
            have : p.1 = y := hpy
            rw [this] at e3
            exact hne (List.mem_map.mpr ⟨p, hp, nodup_ix hN e3 e1⟩)
          · exact e' (List.mem_of_getElem? e1)
        rcases hk' with rfl | rfl | rfl
        · exact absurd (.inl rfl) no
        · exact absurd (.inr rfl) no
        · exact ⟨hk, .inr hk0⟩
      have e3 : Vis cenv.scope y := e3
      rcases e3 with e3 | e3 | e3
      · exact key _ e3 (.inl rfl)
      · exact key _ e3 (.inr (.inl rfl))
      · exact key _ e3 (.inr (.inr rfl))
    obtain ⟨m, hn, hl⟩ := I.loc
    have hvis : Vis X.env.scope y := (ok.free _ (PySem.mem_of_lookup hfr.1) rfl).elim (fun k => .inr (.inl k)) (fun k => .inr (.inr k))
    obtain ⟨w, r, q⟩ := hl i y av e1 e2 hvis
    refine ⟨w, r, .inr ⟨hfr.2, ?_⟩⟩
    obtain ⟨c, h1, h2⟩ := look hfr.1
    rcases q with ⟨k, _⟩ | ⟨_, c', e', z⟩
    · have k : X.env.scope.names.lookup y = some .local := k
      rcases ok.free _ (PySem.mem_of_lookup hfr.1) rfl with k' | k' <;> rw [show X.env.scope.names.lookup y = _ from k'] at k <;> cases k
    · rw [h2] at e'; cases e'
      exact ⟨c, h1, z.keeps kp⟩
  · obtain ⟨w, z⟩ := I.cell y c (mem e).1
    exact ⟨w, z.keeps kp⟩
  · show H cenv.locals = none
    rw [hL]; exact I.hok.fresh (Nat.le_refl _)
  · exact I.freeC y c (mem e).1
  · have e : p = (a, go) := by simpa using hp
    subst e
    refine ⟨ha, I.hok.fresh (Nat.le_of_lt hga), by show a ≠ cenv.locals; rw [hL]; exact Nat.ne_of_gt hga, fun z => ?_, hgd⟩
    rcases List.mem_cons.mp (I.stkSub a z) with z | z
    · have := I.lt
      rw [← z] at this
      exact absurd (Nat.lt_trans hga this) (Nat.lt_irrefl _)
    · exact I.nofs (Nat.le_of_lt hga) z
end
end FB

namespace FB
open PySem PySem.Spec PyProof.Rows L2 GenW
theorem over_comp {A : Around} {elt it acc : Value} {e : Expr} {gens : List Comprehension} {scope : Scope} {pos : Pos} {env : Env} : A.over (.compLoop (.GeneratorExp e gens scope pos) 0 it acc env) [] = A.deeper env := by
  first
    | rfl
    | (obtain ⟨hd, d, fr, gs, u⟩ := A; simp [Around.over, Around.deeper, marksOver, frameCount, unitsOf, envsOf, guardsOf, pushEnvs, pushGuards, Code.envs, Code.env?, Code.isFrame, Code.guards, Code.isGuard, Code.weight, Code.frames, Code.isCreation, Code.isCaller, Code.cUnits])
theorem over_compS {A : Around} {elt it acc : Value} {e : Expr} {gens : List Comprehension} {scope : Scope} {pos : Pos} {env : Env} : A.over (.compStart (.GeneratorExp e gens scope pos) 0 it acc env) [] = A.deeper env := by
  first
    | rfl
    | (obtain ⟨hd, d, fr, gs, u⟩ := A; simp [Around.over, Around.deeper, marksOver, frameCount, unitsOf, envsOf, guardsOf, pushEnvs, pushGuards, Code.envs, Code.env?, Code.isFrame, Code.guards, Code.isGuard, Code.weight, Code.frames, Code.isCreation, Code.isCaller, Code.cUnits])
/-- an item is handed out: a bool; the consumer ends at st -/
def yG (X : Cx) (st : Bool) (Q : VK) : Protocol := fun _ _ v s kap => ∃ (b : Bool) (H : Hp) (σ : L2.St), v = .bool b ∧ Inv X [] σ H s ∧ (if b = st then Q (.bl st) H else ∀ s' : Shared, s'.heap = s.heap → s'.os = s.os → AllBare s'.gens → kap (.send .none) s')
def pG (X : Cx) (st : Bool) (Q : VK) : Nat → Shared → Shared → Prop := fun _ _ s => ∃ (H : Hp) (σ : L2.St), Inv X [] σ H s ∧ Q (.bl (!st)) H
abbrev rG (X : Cx) (st : Bool) (Q : VK) : GenEnd := fun n s₀ r s => r = .ok .next ∧ pG X st Q n s₀ s
/-- the turns: a measure m, the turn i -/
def GStep (st : Bool) (J : It) (g : TG) (te : TE) (σ : L2.St) (vs : List Nat) (Q : VK) (W : Nat → Nat → Hp → Prop) : Prop := ∀ i m H, W i m H →
  (J.stop i H ∧ Q (.bl (!st)) H) ∨ (J.go i H ∧ ∃ Nx : Hp → Prop, (∀ H', Nx H' → ∃ m', m' < m ∧ W (i + 1) m' H') ∧ ∀ x H', J.yld i H x H' → g x (wipe σ vs) H' fun σ2 H2 => wipe σ2 vs = wipe σ vs ∧ te σ2 H2 fun v H3 => ∃ b : Bool, v = .bl b ∧ if b = st then Q (.bl st) H3 else Nx H3)
section
variable {X : Cx} {scope : Scope} {cl : List (Str × Addr)} {C : Addr} {code : Value} {fp : List Addr} {pn : List (Addr × Obj)} {s4 : Shared} {H4 : Hp} {st : Bool} {J : It} {g : TG} {te : TE} {σ : L2.St} {vs : List Nat} {Q : VK} {W : Nat → Nat → Hp → Prop}
  {elt iter : Expr} {x : Str} {px pos : Pos} {it : Addr} {tn : Nat → Heap → Prop}
theorem seg_gen (hc : X.calm = true) (hco : scope.isCoroutine = false) (T : Turn X.prog X.w X.K (.Name x px) J fp it tn)
    (hpn : ∀ b ∈ fp, ∀ p ∈ pn, p.1 ≠ b)
    (pg : PG (gCx X s4 H4 (genEnv scope cl C code builtinsNs X.env) fp pn) (.Name x px) g) (pe : PE (gCx X s4 H4 (genEnv scope cl C code builtinsNs X.env) fp pn) elt te)
    (step : GStep st J g te σ vs Q W) : ∀ (n i m : Nat) (H : Hp) (s₀ s : Shared), W i m H → m < n → Inv (gCx X s4 H4 (genEnv scope cl C code builtinsNs X.env) fp pn) [] (wipe σ vs) H s → tn i s.heap → (∀ b ∈ fp, H b = none) →
      Seg (model X.prog X.w) X.A.in1.in1 (rG (gCx X s4 H4 (genEnv scope cl C code builtinsNs X.env) fp pn) st Q) (yG (gCx X s4 H4 (genEnv scope cl C code builtinsNs X.env) fp pn) st Q) n s₀
        (.compLoop (.GeneratorExp elt [⟨.Name x px, iter, [], 0⟩] scope pos) 0 (.ref it) .none (genEnv scope cl C code builtinsNs X.env))
        ((model X.prog X.w).den (.compLoop (.GeneratorExp elt [⟨.Name x px, iter, [], 0⟩] scope pos) 0 (.ref it) .none (genEnv scope cl C code builtinsNs X.env))) [] s := by
  generalize hce : genEnv scope cl C code builtinsNs X.env = ce at pg pe ⊢
  have hce2 : ce.scope.isCoroutine = false := by rw [← hce]; exact hco
  have ov : X.A.in1.in1.over (.compLoop (.GeneratorExp elt [⟨.Name x px, iter, [], 0⟩] scope pos) 0 (.ref it) .none ce) [] = (gCx X s4 H4 ce fp pn).A := over_comp (elt := .none)
  have stat : ∀ {σ' : L2.St} {H' : Hp} {s' : Shared}, Inv (gCx X s4 H4 ce fp pn) [] σ' H' s' → (∀ b ∈ fp, H' b = none) → ∀ b ∈ fp, FpOk (gCx X s4 H4 ce fp pn) [] H' b := fun {σ' H' s'} I' hn b hb =>
    ⟨hn b hb, (I'.ok.exf b hb).1, I'.ok.exfs b hb, .inl hb, fun y c e => (I'.ok.exf b hb).2 y c e, fun p hp => hpn b hb p (by simpa using hp)⟩
  intro n
  induction n with
  | zero => intro i m H s₀ s _ hm; exact absurd hm (Nat.not_lt_zero _)
  | succ n ih =>
    intro i m H s₀ s hW hm I ht hn
    show Seg _ _ _ _ _ s₀ _ ((compTurn (.GeneratorExp elt [⟨.Name x px, iter, [], 0⟩] scope pos) 0 (.ref it) .none ce).onRaise (leaving ce)) [] s
    rw [compTurn_gen, Sem.onRaise_eq_wrap]
    refine seg_bind_wrap (wpAny_standAt ?_)
    rcases step i m H hW with ⟨stop, q⟩ | ⟨go, Nx, hNx, stp⟩
    · refine seg_bind_wrap ?_
      rw [ov]
      refine wpAny_mono (T.done (gCx X s4 H4 ce fp pn) rfl rfl rfl hc i [] s _ H (fun _ _ => False) I (stat I hn) ht stop) (fun r s1 h1 => ?_) (fun _ _ h => h.elim)
      obtain ⟨hr, I1⟩ := h1
      subst hr
      exact seg_end (.ok .next) ⟨rfl, H, _, I1, q⟩
    · refine seg_bind_wrap ?_
      rw [ov]
      refine wpAny_mono (T.item (gCx X s4 H4 ce fp pn) rfl rfl rfl hc i [] s _ H (fun _ _ => False) I (stat I hn) ht go) (fun r s1 h1 => ?_) (fun _ _ h => h.elim)
      obtain ⟨u, hr, h1⟩ := h1
      subst hr
      refine seg_bind_wrap ?_
      rw [ov]
      refine wpAny_mono h1 (fun _ s2 h2 => ?_) (fun _ _ h => h.elim)
      obtain ⟨xv, H2, I2, r2, y2, tn2, n2⟩ := h2
      have I2' := I2.pinned (stat I2 n2) (T.obj _ _ tn2)
      refine seg_bind_wrap ?_
      rw [ov]
      refine wpAny_mono (pg.run _ s2 _ H2 xv u _ I2' r2 (stp xv H2 y2)) (fun _ s3 h3 => ?_) (fun _ _ h => h.elim)
      obtain ⟨σ3, H3, I3, hw3, q3⟩ := h3
      refine seg_bind_wrap (wpAny_tests_nil ?_)
      simp only [if_true]
      have hy : ∀ v, yieldOut ce v = yieldValue v := fun v => by simp only [yieldOut, hce2, Bool.false_eq_true, if_false]
      simp only [hy]
      rw [Sem.bind_eq_wrap', Sem.bind_eq_wrap', Sem.wrap_wrap, Sem.wrap_wrap]
      refine seg_wrap ?_
      rw [ov]
      refine wpAny_mono (pe.run _ s3 σ3 H3 _ I3 q3) (fun y s5 h5 => ?_) (fun _ _ h => h.elim)
      obtain ⟨v, H5, I5, r5, b, rfl, q5⟩ := h5
      obtain rfl : y = Value.bool b := r5
      refine seg_at (seg_yield rfl rfl rfl ⟨b, H5, σ3, rfl, I5.unpinned (pins := []), ?_⟩)
      by_cases hb : b = st
      · rw [if_pos hb] at q5 ⊢
        exact q5
      · rw [if_neg hb] at q5 ⊢
        obtain ⟨m', hm', hW'⟩ := hNx H5 q5
        intro s6 e1 e2 e3
        have pin' : ∀ b ∈ fp, ∀ o, s2.heap.get? b = some o → s5.heap.get? b = some o ∧ H5 b = none := fun b hb o e =>
          let z := I5.pin (b, o) (List.mem_append_right _ (List.mem_append_right _ (mem_pinsAt hb e)))
          ⟨z.1, z.2.1⟩
        have hl : (wipe σ vs).length = σ3.length := by rw [← hw3, wipe_length]
        have I6 : Inv (gCx X s4 H4 ce fp pn) [] (wipe σ vs) H5 s6 := FB.Inv.woke ((I5.unpinned (pins := [])).weak hl (fun j v e => by
          rw [← hw3] at e
          exact (wipe_some e).1)) e1 e2 e3
        refine seg_again rfl (ih (i + 1) m' H5 s6 s6 hW' (by omega) I6 ?_ fun b hb => ?_)
        · rw [e1]
          exact T.keep _ _ _ tn2 fun b hb o e => (pin' b hb o e).1
        · obtain ⟨o, e, _⟩ := T.obj _ _ tn2 b hb
          exact (pin' b hb o e).2
theorem seg_gen0 (hc : X.calm = true) (hco : scope.isCoroutine = false) (T : Turn X.prog X.w X.K (.Name x px) J fp it tn)
    (hpn : ∀ b ∈ fp, ∀ p ∈ pn, p.1 ≠ b)
    (pg : PG (gCx X s4 H4 (genEnv scope cl C code builtinsNs X.env) fp pn) (.Name x px) g) (pe : PE (gCx X s4 H4 (genEnv scope cl C code builtinsNs X.env) fp pn) elt te)
    (step : GStep st J g te σ vs Q W) (n m : Nat) (H : Hp) (s₀ s : Shared) (hW : W 0 m H) (hm : m < n) (I : Inv (gCx X s4 H4 (genEnv scope cl C code builtinsNs X.env) fp pn) [] (wipe σ vs) H s) (ht : tn 0 s.heap) (hn : ∀ b ∈ fp, H b = none) :
      Seg (model X.prog X.w) X.A.in1.in1 (rG (gCx X s4 H4 (genEnv scope cl C code builtinsNs X.env) fp pn) st Q) (yG (gCx X s4 H4 (genEnv scope cl C code builtinsNs X.env) fp pn) st Q) n s₀
        (.compStart (.GeneratorExp elt [⟨.Name x px, iter, [], 0⟩] scope pos) 0 (.ref it) .none (genEnv scope cl C code builtinsNs X.env))
        ((model X.prog X.w).den (.compStart (.GeneratorExp elt [⟨.Name x px, iter, [], 0⟩] scope pos) 0 (.ref it) .none (genEnv scope cl C code builtinsNs X.env))) [] s := by
  have loop := seg_gen (iter := iter) (pos := pos) hc hco T hpn pg pe step n 0 m H s₀ s hW hm I ht hn
  generalize hce : genEnv scope cl C code builtinsNs X.env = ce at loop ⊢
  show Seg _ _ _ _ _ s₀ _ ((compStart (.GeneratorExp elt [⟨.Name x px, iter, [], 0⟩] scope pos) 0 (.ref it) .none ce).onRaise (leaving ce)) [] s
  unfold compStart
  rw [Sem.onRaise_eq_wrap]
  show Seg _ _ _ _ _ s₀ _ ((ask >>= _).wrap _ _ _ _) [] s
  refine seg_bind_wrap (wpAny_askSetting ?_)
  split
  · exact seg_again rfl loop
  · first
      | exact seg_bind_wrap (wpAny_rule (seg_bind_wrap (wpAny_standAt (seg_bind_wrap (T.self _ 0 s _ _ ht (seg_again rfl loop))))))
      | (refine seg_bind_wrap (wpAny_rule ?_); show Seg _ _ _ _ _ s₀ _ ((standAt iter.pos >>= _).wrap _ _ _ _) [] s; exact seg_bind_wrap (wpAny_standAt (seg_bind_wrap (T.self _ 0 s _ _ ht (seg_again rfl loop)))))
end
/-! ### the consumer -/
section
variable {P : Program} {w : World} {X : Cx} {st : Bool} {Q : VK} {A : Around} {R : Result → Shared → Prop} {a : Addr} {go : Obj} {g : Nat}
theorem next_gen (hp : X.prog = P) (hw : X.w = w) (hh : A.handled = none) (hd : A.depth < recursionLimit) (hpn : (a, go) ∈ X.pn) (hgo : ∀ h : Heap, h.get? a = some go → h.IsGen a g) {QQ : Option Value → Shared → Prop} {E : Value → Shared → Prop} (n : Nat) (s : Shared) (hg : s.heap.IsGen a g) (hl : s.heap.NoLimit)
    (hr : ∃ gs, s.gens[g]? = some gs ∧ gs.Goes (model P w) A.in1 (rG X st Q) (yG X st Q) n (.send .none) (s.setGen g .running))
    (hend : ∀ H σ s', Inv X [] σ H s' → Q (.bl (!st)) H → QQ none s')
    (hstop : ∀ H σ s', Inv X [] σ H s' → Q (.bl st) H → QQ (some (.bool st)) s')
    (hgoon : ∀ m H σ s', n = m + 1 → Inv X [] σ H s' → s'.heap.IsGen a g → s'.heap.NoLimit → (∃ gs, s'.gens[g]? = some gs ∧ gs.Goes (model P w) A.in1 (rG X st Q) (yG X st Q) m (.send .none) (s'.setGen g .running)) → QQ (some (.bool (!st))) s') :
    wpAny (model P w) A (pyNext (.ref a)) QQ E s := by
  obtain ⟨gs, hgs, hG⟩ := hr
  have hgl : g < s.gens.size := (Array.getElem?_eq_some_iff.mp hgs).1
  refine wpAny_gsz (n := g + 1) hgl (wpAny_pyNext_genexpQ (P := pG X st Q) hh hl hd hg hgs hG (fun v s₁ gs' hb hv => ?_) (fun s₁ hp h' hk => ?_))
  · intro hsz
    rw [setGen_size] at hsz
    obtain ⟨b, H, σ, rfl, I, q⟩ := hv
    have I1 : Inv X [] σ H (s₁.setGen g gs') := FB.Inv.woke I rfl rfl (allBare_setGen I.bare hb)
    by_cases e : b = st
    · rw [if_pos e] at q
      rw [e]
      exact hstop H σ _ I1 q
    · rw [if_neg e] at q
      have eb : b = !st := by cases b <;> cases st <;> first | rfl | exact absurd rfl e
      rw [eb]
      cases n with
      | zero => exact (q s₁ rfl rfl I.bare).elim
      | succ m =>
        have hx : s₁.heap.get? a = some go := (I.pin (a, go) (List.mem_append_left _ hpn)).1
        refine hgoon m H σ _ rfl I1 (hgo _ hx) I.nolimit ⟨gs', setGen_at (by omega), q _ rfl rfl (allBare_setGen I1.bare rfl)⟩
  · intro _
    obtain ⟨H, σ, I, q⟩ := hp
    refine hend H σ _ ?_ q
    have I1 : Inv X [] σ H (s₁.setGen g .finished) := FB.Inv.woke I rfl rfl (allBare_setGen I.bare rfl)
    exact I1.kept (t' := s₁.toks) hk
theorem any_loopG {X : Cx} (hp : X.prog = P) (hw : X.w = w) (hh : A.handled = none) (hd : A.depth < recursionLimit) (hpn : (a, go) ∈ X.pn) (hgo : ∀ h : Heap, h.get? a = some go → h.IsGen a g)
    (hres : ∀ b H σ s', Inv X [] σ H s' → Q (.bl b) H → R (.ok (.ret (.bool b))) s') : ∀ (n : Nat) (s : Shared), s.heap.IsGen a g → s.heap.NoLimit →
      (∃ gs, s.gens[g]? = some gs ∧ gs.Goes (model P w) A.in1.in1 (rG X true Q) (yG X true Q) n (.send .none) (s.setGen g .running)) →
      codeAny (model P w) A (.builtin "any.loop" ⟨[.ref a], []⟩) R s := by
  intro n
  induction n with
  | zero =>
    intro s hg hl hr
    refine codeAny_builtin F.entry_any_loop ?_
    rw [Around.under_plainId F.plain_any_loop _]
    show wpAny _ A.in1 (pyNext (.ref a) >>= _) _ _ s
    refine wpAny_bind (next_gen (A := A.in1) hp hw hh hd hpn hgo 0 s hg hl hr (fun H σ s' I q => ?_) (fun H σ s' I q => ?_) (fun m H σ s' e => ?_))
    · exact wpAny_bind (wpAny_rule (wpAny_pure (hres _ H σ s' I q)))
    · refine wpAny_bind (wpAny_holding (wpAny_truthy_bool ?_))
      refine wpAny_bind (wpAny_letGo ?_)
      simp only [if_true]
      exact wpAny_bind (wpAny_rule (wpAny_pure (hres _ H σ s' I q)))
    · cases e
  | succ n ih =>
    intro s hg hl hr
    refine codeAny_builtin F.entry_any_loop ?_
    rw [Around.under_plainId F.plain_any_loop _]
    show wpAny _ A.in1 (pyNext (.ref a) >>= _) _ _ s
    refine wpAny_bind (next_gen (A := A.in1) hp hw hh hd hpn hgo (n + 1) s hg hl hr (fun H σ s' I q => ?_) (fun H σ s' I q => ?_) (fun m H σ s' e I hg' hl' hr' => ?_))
    · exact wpAny_bind (wpAny_rule (wpAny_pure (hres _ H σ s' I q)))
    · refine wpAny_bind (wpAny_holding (wpAny_truthy_bool ?_))
      refine wpAny_bind (wpAny_letGo ?_)
      simp only [if_true]
      exact wpAny_bind (wpAny_rule (wpAny_pure (hres _ H σ s' I q)))
    · cases e
      refine wpAny_bind (wpAny_holding (wpAny_truthy_bool ?_))
      refine wpAny_bind (wpAny_letGo ?_)
      simp only [Bool.not_true, Bool.false_eq_true, if_false]
      exact wpAny_pure ⟨plainId_quiet F.plain_any_loop _, ih s' hg' hl' hr'⟩
theorem all_loopG {X : Cx} (hp : X.prog = P) (hw : X.w = w) (hh : A.handled = none) (hd : A.depth < recursionLimit) (hpn : (a, go) ∈ X.pn) (hgo : ∀ h : Heap, h.get? a = some go → h.IsGen a g)
    (hres : ∀ b H σ s', Inv X [] σ H s' → Q (.bl b) H → R (.ok (.ret (.bool b))) s') : ∀ (n : Nat) (s : Shared), s.heap.IsGen a g → s.heap.NoLimit →
      (∃ gs, s.gens[g]? = some gs ∧ gs.Goes (model P w) A.in1.in1 (rG X false Q) (yG X false Q) n (.send .none) (s.setGen g .running)) →
      codeAny (model P w) A (.builtin "all.loop" ⟨[.ref a], []⟩) R s := by
  intro n
  induction n with
  | zero =>
    intro s hg hl hr
    refine codeAny_builtin F.entry_all_loop ?_
    rw [Around.under_plainId F.plain_all_loop _]
    show wpAny _ A.in1 (pyNext (.ref a) >>= _) _ _ s
    refine wpAny_bind (next_gen (A := A.in1) hp hw hh hd hpn hgo 0 s hg hl hr (fun H σ s' I q => ?_) (fun H σ s' I q => ?_) (fun m H σ s' e => ?_))
    · exact wpAny_bind (wpAny_rule (wpAny_pure (hres _ H σ s' I q)))
    · refine wpAny_bind (wpAny_holding (wpAny_truthy_bool ?_))
      refine wpAny_bind (wpAny_letGo ?_)
      simp only [Bool.false_eq_true, if_false]
      exact wpAny_bind (wpAny_rule (wpAny_pure (hres _ H σ s' I q)))
    · cases e
  | succ n ih =>
    intro s hg hl hr
    refine codeAny_builtin F.entry_all_loop ?_
    rw [Around.under_plainId F.plain_all_loop _]
    show wpAny _ A.in1 (pyNext (.ref a) >>= _) _ _ s
    refine wpAny_bind (next_gen (A := A.in1) hp hw hh hd hpn hgo (n + 1) s hg hl hr (fun H σ s' I q => ?_) (fun H σ s' I q => ?_) (fun m H σ s' e I hg' hl' hr' => ?_))
    · exact wpAny_bind (wpAny_rule (wpAny_pure (hres _ H σ s' I q)))
    · refine wpAny_bind (wpAny_holding (wpAny_truthy_bool ?_))
      refine wpAny_bind (wpAny_letGo ?_)
      simp only [Bool.false_eq_true, if_false]
      exact wpAny_bind (wpAny_rule (wpAny_pure (hres _ H σ s' I q)))
    · cases e
      refine wpAny_bind (wpAny_holding (wpAny_truthy_bool ?_))
      refine wpAny_bind (wpAny_letGo ?_)
      simp only [Bool.not_false, if_true]
      exact wpAny_pure ⟨plainId_quiet F.plain_all_loop _, ih s' hg' hl' hr'⟩
end
end FB

namespace FB
open PySem PySem.Spec PyProof.Rows L2 GenW
/-- any, all of a generator expression; st: the bool at which the walk ends -/
def tGenB (st : Bool) (P : Addr) (wi : TI) (g : TG) (te : TE) (vs : List Nat) : TE := fun σ H Q => wi σ H fun J H1 => H1 P = some (TabX P) ∧ ∃ W : Nat → Nat → Hp → Prop, (∃ m, W 0 m H1) ∧ GStep st J g te σ vs Q W
section
variable {X : Cx} {pins : List (Addr × Obj)} {σ : L2.St} {H : Hp} {s : Shared} {st : Bool} {c P : Addr} {elt iter : Expr} {x : Str} {px gpos : Pos} {scope : Scope} {own : List (Str × Nat)} {wi : TI} {g : TG} {te : TE} {k : Nat} {Q : VK} {Q' : Value → Shared → Prop}
theorem room_gen {cenv : Env} (hr : Room (k + 1) X.A) : Room k (gA X cenv) := ⟨hr.hd, by have := hr.dp; show X.A.depth + 1 + 3 * k + 5 < _; omega, by have := hr.un; show X.A.units + 1 + 1 + 3 + 16 * k + 200 < _; omega⟩
theorem gen_core (hr : Room (k + 1) X.A) (hc : X.calm = true) (hN : X.N.Nodup) (TB : LamX.TabB X.base X.mg c P) (hcode : X.env.code = .ref c) (ok : BlkOk X.N X.env.scope scope own) (hsc : genC scope = true)
    (hi : PI X (.Name x px) iter wi) (hg : ∀ (s : Shared) (H : Hp) (C : Addr) (cl : List (Str × Addr)) (code : Value) (fp : List Addr) (pn : List (Addr × Obj)), PG (gCx X s H (genEnv scope cl C code builtinsNs X.env) fp pn) (.Name x px) g)
    (he : ∀ (s : Shared) (H : Hp) (C : Addr) (cl : List (Str × Addr)) (code : Value) (fp : List Addr) (pn : List (Addr × Obj)), Room k (gA X (genEnv scope cl C code builtinsNs X.env)) → PE (gCx X s H (genEnv scope cl C code builtinsNs X.env) fp pn) elt te)
    (hs : ∀ v, genFold iter X.env v = pure v) (I : Inv X pins σ H s) (h : tGenB st P wi g te (own.map (·.2)) σ H Q)
    (hQ : ∀ (XG : Cx) (a : Addr) (go : Obj) (gi n : Nat) (s5 : Shared), XG.prog = X.prog → XG.w = X.w → (a, go) ∈ XG.pn → (∀ h : Heap, h.get? a = some go → h.IsGen a gi) → s5.heap.IsGen a gi → s5.heap.NoLimit →
      (∃ gs, s5.gens[gi]? = some gs ∧ gs.Goes (model X.prog X.w) X.A.in1.in1 (rG XG st Q) (yG XG st Q) n (.send .none) (s5.setGen gi .running)) →
      (∀ b H' σ' s', Inv XG [] σ' H' s' → Q (.bl b) H' → EP X pins σ Q (.bool b) s') → Q' (.ref a) s5) :
    wpAny (model X.prog X.w) X.A (eval (.GeneratorExp elt [⟨.Name x px, iter, [], 0⟩] scope gpos) X.env) Q' X.xe s := by
  have hsc2 : scope.isCoroutine = false ∧ (∀ y ∈ scope.names, y.2 ≠ .cell) ∧ scope.names.lookup (".0" : Str) = some NameKind.local := by
    unfold genC at hsc
    simp only [Bool.and_eq_true, List.all_eq_true, decide_eq_true_eq, Bool.not_eq_true'] at hsc
    exact ⟨hsc.1.1, hsc.1.2, hsc.2⟩
  obtain ⟨hco, hcell, hdot⟩ := hsc2
  have hfree : ∀ y ∈ scope.names, y.2 = .free → ∃ c, X.env.cells.lookup y.1 = some c := fun y hy e => by
    rcases ok.free y hy e with k | k
    · exact I.ok.has _ (.inl k)
    · exact I.ok.has _ (.inr k)
  refine wpAny_GeneratorExp_make hco (closure_ok hfree) hcell hdot ok.kind (by have := hr.dp; omega) ?_ hs
  refine thn (hi.run pins s σ H _ I h) fun v s1 h1 => thn h1 fun itv s2 h2 => ?_
  obtain ⟨it, fp, tn, J, H2, rfl, I2, T, st2, f2, hP, W, ⟨m0, w0⟩, step⟩ := h2
  obtain ⟨ps, hPs, ht⟩ := (I2.hok P _ hP).1
  have sz : ∀ b ∈ fp, b < s2.heap.objs.size := fun b hb => by
    obtain ⟨o, e, _⟩ := T.obj _ _ st2 b hb
    exact Heap.lt_size e
  have cd : PySem.W.CodeHd s2.heap c P := TB.code.keeps fun b u e => I2.bk b u e
  have cont : ∀ (code : Value) (h3 : Heap) (tk : Nat) (ps' : Array Value), Heap.ExtBut P s2.heap h3 → s2.heap.objs.size ≤ h3.objs.size → h3.get? P = some { cls := .none, data := .fields ps' } → TriplesOk ps'.toList →
      wpAny (model X.prog X.w) X.A (builtinsFor X.env.globals X.env.builtins) (fun bi s₄ =>
        ∀ h', h'.Ns s₄.heap.objs.size (fun y => if y = ".0" then some (.ref it) else none) → Heap.SameBut s₄.heap.objs.size (s₄.heap.push { cls := .type "frame", data := .dict #[] }) h' →
          Q' (.ref h'.objs.size) { s₄ with
            gens := s₄.gens.push (.fresh (.compStart (.GeneratorExp elt [⟨.Name x px, iter, [], 0⟩] scope gpos) 0 (.ref it) .none (genEnv scope (cloFrom X.env.cells scope.names []) s₄.heap.objs.size code bi X.env))),
            toks := s₄.toks + 1 + 1 + 1,
            heap := h'.push { cls := .type "generator", data := .fields #[.int s₄.gens.size 0, .str "<genexpr>" (s₄.toks + 1), .str (X.env.qual ++ "<genexpr>") (s₄.toks + 1 + 1)] } }) X.xe { s2 with heap := h3, toks := tk } := by
    intro code h3 tk ps' hx hsz hP3 ht3
    obtain ⟨bm, ob, e1, e2, e3, e4, e5, e6, e7, e8⟩ := TB.bm
    have keep3 : ∀ b u, b ≠ P → s2.heap.get? b = some u → h3.get? b = some u := fun b u hb e => hx b u hb e
    refine wpAny_builtinsFor (m := X.mg) (by rw [I2.ok.glob]; exact (I2.mod.glob.keeps I2.bk).extBut hx TB.gP) e1 e2 (keep3 _ _ e4 (I2.bk _ _ e5)) e6 e7 e8 ?_
    have I3 : Inv X pins σ H2 { s2 with heap := h3, toks := tk } := inv_tabX I2 hP keep3 hP3 ht3
    generalize hs3 : ({ s2 with heap := h3, toks := tk } : Shared) = s3 at I3 ⊢
    have e3h : s3.heap = h3 := by rw [← hs3]
    have nfp : ∀ b ∈ fp, H2 b = none := fun b hb => (f2 b hb).1
    have neP : ∀ b ∈ fp, b ≠ P := fun b hb z => by
      have := nfp b hb
      rw [z, hP] at this
      cases this
    have f3 : ∀ b ∈ fp, FpOk X pins H2 b ∧ b < s3.heap.objs.size := fun b hb => ⟨f2 b hb, by rw [e3h]; exact Nat.lt_of_lt_of_le (sz b hb) hsz⟩
    have st3 : tn 0 s3.heap := T.keep _ _ _ st2 fun b hb o e => by rw [e3h]; exact keep3 b o (neP b hb) e
    intro h' hns hsb
    have hsz' : h'.objs.size = s3.heap.objs.size + 1 := by rw [hsb.1, Heap.size_push]
    generalize hgo : ({ cls := .type "generator", data := .fields #[.int s3.gens.size 0, .str "<genexpr>" (s3.toks + 1), .str (X.env.qual ++ "<genexpr>") (s3.toks + 1 + 1)] } : Obj) = go
    have keep' : ∀ b o, s3.heap.get? b = some o → h'.get? b = some o := fun b o e => hsb.extBut b o (Nat.ne_of_lt (Heap.lt_size e)) (Heap.get?_push_of_some _ e)
    have keep5 : ∀ b o, s3.heap.get? b = some o → (h'.push go).get? b = some o := fun b o e => Heap.get?_push_of_some _ (keep' b o e)
    have ha : (h'.push go).get? h'.objs.size = some go := Heap.get?_push_size _ (by rw [← hgo]; rfl)
    have hgd : ∀ v, go.data ≠ .cell v := fun v z => by rw [← hgo] at z; cases z
    have hga : s3.heap.objs.size < h'.objs.size := by omega
    have hfr : (.fresh (.compStart (.GeneratorExp elt [⟨.Name x px, iter, [], 0⟩] scope gpos) 0 (.ref it) .none (genEnv scope (cloFrom X.env.cells scope.names []) s3.heap.objs.size code builtinsNs X.env)) : GenState).bare = true := rfl
    have I5 := gen_start (h5 := h'.push go) (a := h'.objs.size) (go := go) (g' := s3.gens.push (.fresh (.compStart (.GeneratorExp elt [⟨.Name x px, iter, [], 0⟩] scope gpos) 0 (.ref it) .none (genEnv scope (cloFrom X.env.cells scope.names []) s3.heap.objs.size code builtinsNs X.env)))) (tk := s3.toks + 1 + 1 + 1) (code := code)
      I3 ok hN f3 (hns.push go) keep5 ha hga hgd (I3.bare.push hfr) hr.hd hcell
    have isg : ∀ h : Heap, h.get? h'.objs.size = some go → h.IsGen h'.objs.size s3.gens.size := fun h e => ⟨go, _, _, e, by rw [← hgo], by rw [← hgo], by rw [← hgo]⟩
    have hpn : ∀ b ∈ fp, ∀ p ∈ [(h'.objs.size, go)], p.1 ≠ b := fun b hb p hp => by
      have e : p = (h'.objs.size, go) := by simpa using hp
      rw [e]
      exact Nat.ne_of_gt (Nat.lt_trans (f3 b hb).2 hga)
    refine hQ (gCx X s3 H2 (genEnv scope (cloFrom X.env.cells scope.names []) s3.heap.objs.size code builtinsNs X.env) fp [(h'.objs.size, go)]) h'.objs.size go s3.gens.size (m0 + 1) _ rfl rfl List.mem_cons_self isg (isg _ ha) I5.nolimit ⟨_, Array.getElem?_push_size .., rfl, ?_⟩ ?_
    · have I6 := FB.Inv.woke (s' := ({ s3 with gens := s3.gens.push (.fresh (.compStart (.GeneratorExp elt [⟨.Name x px, iter, [], 0⟩] scope gpos) 0 (.ref it) .none (genEnv scope (cloFrom X.env.cells scope.names []) s3.heap.objs.size code builtinsNs X.env))), toks := s3.toks + 1 + 1 + 1, heap := h'.push go } : Shared).setGen s3.gens.size .running) I5 rfl rfl (allBare_setGen I5.bare rfl)
      exact seg_gen0 hc hco T hpn (hg _ _ _ _ _ _ _) (he _ _ _ _ _ _ _ (room_gen hr)) step (m0 + 1) m0 H2 _ _ w0 (Nat.lt_succ_self _) I6 (T.keep _ _ _ st3 fun b hb o e => keep5 b o e) nfp
    · intro b H' σ' s' I' q
      refine ⟨.bl b, H', I3.call' (ch := fp) I'.os I'.base I'.hok I'.bare fun b hb => ⟨(f3 b hb).1.2.2.2.1, (f3 b hb).1.2.1, (f3 b hb).1.2.2.2.2.1, (f3 b hb).1.2.2.2.2.2⟩, rfl, q⟩
  refine ⟨I2.nolimit, ?_⟩
  cases hf : codeAmong gpos ps.toList with
  | none =>
    refine wpAny_genexprCodeX hcode (cd.code hPs ht) (cd.tab hPs) hf fun c' h' tk hx hge hlt hco' _ htab' _ => ?_
    obtain ⟨o1, vs, f1, tf, fl, tg, inF, tx, tt, op, _, _, _, _, _, _, _, _, _, htr, _⟩ := hco'
    exact cont _ h' tk _ hx (Nat.le_trans hge (Nat.le_of_lt hlt)) htab'.2 htr
  | some cv =>
    refine wpAny_genexprCode_hit hcode (cd.code hPs ht) hf ?_
    exact cont cv s2.heap s2.toks ps (Heap.ExtBut.refl _ _) (Nat.le_refl _) hPs ht
theorem pe_anyG {p pos : Pos} (hr : Room (k + 1) X.A) (hc : X.calm = true) (hN : X.N.Nodup) (hgl : Gl X "any") (hm : X.mg "any" = none) (TB : LamX.TabB X.base X.mg c P) (hcode : X.env.code = .ref c) (hi : PI X (.Name x px) iter wi) (ok : BlkOk X.N X.env.scope scope own) (hsc : genC scope = true)
    (hg : ∀ (s : Shared) (H : Hp) (C : Addr) (cl : List (Str × Addr)) (code : Value) (fp : List Addr) (pn : List (Addr × Obj)), PG (gCx X s H (genEnv scope cl C code builtinsNs X.env) fp pn) (.Name x px) g)
    (he : ∀ (s : Shared) (H : Hp) (C : Addr) (cl : List (Str × Addr)) (code : Value) (fp : List Addr) (pn : List (Addr × Obj)), Room k (gA X (genEnv scope cl C code builtinsNs X.env)) → PE (gCx X s H (genEnv scope cl C code builtinsNs X.env) fp pn) elt te)
    (hs : ∀ v, genFold iter X.env v = pure v := by intro _; rfl)
    (he' : starEach [.GeneratorExp elt [⟨.Name x px, iter, [], 0⟩] scope gpos] X.env = (false, eval (.GeneratorExp elt [⟨.Name x px, iter, [], 0⟩] scope gpos) X.env) :: starEach [] X.env := by rfl) :
    PE X (.Call (.Name "any" p) [.GeneratorExp elt [⟨.Name x px, iter, [], 0⟩] scope gpos] [] pos) (tGenB true P wi g te (own.map (·.2))) := by
  refine ⟨fun pins s σ H Q I h => ?_⟩
  refine wpAny_Call_Name_kw (ld_blt I hgl hm boot_any ?_)
  refine PyProof.Rows.callWith_builtin1 ?_ he' (by rfl)
  rw [he']
  show wpAny _ _ (spliced ((false, eval (.GeneratorExp elt [⟨.Name x px, iter, [], 0⟩] scope gpos) X.env) :: backTo pos (starEach [] X.env))) _ _ s
  refine Calls.spliced_cons (gen_core hr hc hN TB hcode ok hsc hi hg he hs I h fun XG a go gi n s5 hp hw hpn hgo hg5 hl5 hr5 hres => ?_)
  refine Calls.spliced_nil ?_
  refine call_function_tree F.kind_any F.plain_any F.entry_any (F.args_any1 _) ?_
  unfold Builtin.«any»
  refine wpAny_bind (m := oneArg "any" _) (wpAny_pure ?_)
  refine wpAny_bind (wpAny_pyIter_gen hg5 ?_)
  exact wpAny_pure ⟨plainId_quiet F.plain_any_loop _, any_loopG hp hw hr.hd (by have := hr.dp; show X.A.depth < _; omega) hpn hgo (fun b H' σ' s' I' q => hres b H' σ' s' I' q) n s5 hg5 hl5 hr5⟩
theorem pe_allG {p pos : Pos} (hr : Room (k + 1) X.A) (hc : X.calm = true) (hN : X.N.Nodup) (hgl : Gl X "all") (hm : X.mg "all" = none) (TB : LamX.TabB X.base X.mg c P) (hcode : X.env.code = .ref c) (hi : PI X (.Name x px) iter wi) (ok : BlkOk X.N X.env.scope scope own) (hsc : genC scope = true)
    (hg : ∀ (s : Shared) (H : Hp) (C : Addr) (cl : List (Str × Addr)) (code : Value) (fp : List Addr) (pn : List (Addr × Obj)), PG (gCx X s H (genEnv scope cl C code builtinsNs X.env) fp pn) (.Name x px) g)
    (he : ∀ (s : Shared) (H : Hp) (C : Addr) (cl : List (Str × Addr)) (code : Value) (fp : List Addr) (pn : List (Addr × Obj)), Room k (gA X (genEnv scope cl C code builtinsNs X.env)) → PE (gCx X s H (genEnv scope cl C code builtinsNs X.env) fp pn) elt te)
    (hs : ∀ v, genFold iter X.env v = pure v := by intro _; rfl)
    (he' : starEach [.GeneratorExp elt [⟨.Name x px, iter, [], 0⟩] scope gpos] X.env = (false, eval (.GeneratorExp elt [⟨.Name x px, iter, [], 0⟩] scope gpos) X.env) :: starEach [] X.env := by rfl) :
    PE X (.Call (.Name "all" p) [.GeneratorExp elt [⟨.Name x px, iter, [], 0⟩] scope gpos] [] pos) (tGenB false P wi g te (own.map (·.2))) := by
  refine ⟨fun pins s σ H Q I h => ?_⟩
  refine wpAny_Call_Name_kw (ld_blt I hgl hm (show bootBuiltins "all" = some (.builtin "all") by decide +kernel) ?_)
  refine PyProof.Rows.callWith_builtin1 ?_ he' (by rfl)
  rw [he']
  show wpAny _ _ (spliced ((false, eval (.GeneratorExp elt [⟨.Name x px, iter, [], 0⟩] scope gpos) X.env) :: backTo pos (starEach [] X.env))) _ _ s
  refine Calls.spliced_cons (gen_core hr hc hN TB hcode ok hsc hi hg he hs I h fun XG a go gi n s5 hp hw hpn hgo hg5 hl5 hr5 hres => ?_)
  refine Calls.spliced_nil ?_
  refine call_function_tree F.kind_all F.plain_all F.entry_all (F.args_all1 _) ?_
  unfold Builtin.«all»
  refine wpAny_bind (m := oneArg "all" _) (wpAny_pure ?_)
  refine wpAny_bind (wpAny_pyIter_gen hg5 ?_)
  exact wpAny_pure ⟨plainId_quiet F.plain_all_loop _, all_loopG hp hw hr.hd (by have := hr.dp; show X.A.depth < _; omega) hpn hgo (fun b H' σ' s' I' q => hres b H' σ' s' I' q) n s5 hg5 hl5 hr5⟩
end
end FB

namespace FB
open PySem PySem.Spec PyProof.Rows L2
/-! ### the end of a law with tables -/
abbrev Tabs (cs : List (Addr × Addr)) (H : Hp) : Prop := ∀ p ∈ cs, H p.2 = some (TabX p.2)
abbrev emptyTab : Obj := { cls := .none, data := .fields #[] }
section
variable {P : Program} {w : World} {K : PySem.W.Frag} {mg mb : Str → Option Value} {k : Nat} {fa a : Addr} {cs : List (Addr × Addr)} {fd : FuncData} {x : Str} {sp : Sp} {s₁ : Shared} {vs : List Value} {ns : List Int}
/-- the heap at the law's entry: the script (if it is not written), the tables -/
def heap0 (K : PySem.W.Frag) (a : Addr) (o : Obj) (xs : List V) (cs : List (Addr × Addr)) : Hp := fun b => if b ∈ cs.map (·.2) then some (TabX b) else if b = a ∧ K.lookup a = none then some (.frz o (.lst xs)) else none
theorem law_callX (KX : K.In s₁.heap) (gN : s₁.heap.Ns mainGlobals mg) (bN : s₁.heap.Ns builtinsNs mb) (bB : ∀ x : Str, x ≠ "__name__" → mb x = bootBuiltins x) (lim : s₁.heap.NoLimit) (g0 : s₁.gens = #[])
    (hT : ∀ p ∈ cs, s₁.heap.get? p.2 = some emptyTab) (nT : ∀ p ∈ cs, K.lookup p.2 = none) (cH : ∀ p ∈ cs, PySem.W.CodeHd s₁.heap p.1 p.2)
    (bM : ∃ (bm : Addr) (ob : Obj), mg "__builtins__" = some (.ref bm) ∧ bm ≠ builtinsNs ∧ s₁.heap.get? bm = some ob ∧ ob.cls = .type "module" ∧ ob.dict = some builtinsNs ∧ ob.data = .plain)
    (ha : s₁.heap.get? a = some { cls := .type "list", data := .seq vs.toArray }) (hi : IntsAre vs ns) (hl : ns.length ≤ sizeLine) (hr : Room k callerA)
    (F : ∀ base : Heap, K.In base → base.Ns mainGlobals mg → (∀ p ∈ cs, LamX.TabB base mg p.1 p.2) → FnOk P w K mg base CX0 k fa fd [x] sp) (bd : ∀ (s : Shared) (u : Value), BindsTo s fd ⟨[u], []⟩ [(x, u)])
    (hsp : ∀ H : Hp, Tabs cs H → SqL K H a (ns.map V.int) → sp [.ref a] H (fun v H' => v = .bl true ∧ Tabs cs H') fun _ _ _ => False) :
    codeAny (model P w) callerA (.call (.ref fa) ⟨[.ref a], []⟩) (fun r s' => r = .ok (.ret (.bool true)) ∧ OldK s₁.heap s'.heap ∧ s'.os = s₁.os ∧ AllBare s'.gens) s₁ := by
  have rv := vals_ints hi
  have lenV := hi.length
  have tabAt : ∀ b, b ∈ cs.map (·.2) → s₁.heap.get? b = some emptyTab := fun b hb => by
    obtain ⟨p, hp, e⟩ := List.mem_map.mp hb
    exact e ▸ hT p hp
  have inT : ∀ p ∈ cs, p.2 ∈ cs.map (·.2) := fun p hp => List.mem_map.mpr ⟨p, hp, rfl⟩
  have aT : a ∉ cs.map (·.2) := fun z => by
    have q := congrArg Obj.data (Option.some.inj ((tabAt a z).symm.trans ha))
    cases q
  generalize hH : heap0 K a { cls := .type "list", data := .seq vs.toArray } (ns.map V.int) cs = H
  have H_tab : Tabs cs H := fun p hp => by rw [← hH]; exact if_pos (inT p hp)
  have H_is : ∀ b u, H b = some u → (b ∈ cs.map (·.2) ∧ u = TabX b) ∨ (b = a ∧ K.lookup a = none ∧ u = .frz { cls := .type "list", data := .seq vs.toArray } (.lst (ns.map V.int))) := fun b u e => by
    rw [← hH] at e
    unfold heap0 at e
    split at e
    · rename_i hb
      exact .inl ⟨hb, (Option.some.inj e).symm⟩
    · split at e
      · rename_i hb
        exact .inr ⟨hb.1, hb.2, (Option.some.inj e).symm⟩
      · cases e
  have hok : HOk P w H s₁.heap := fun b u e => by
    rcases H_is b u e with ⟨hb, rfl⟩ | ⟨rfl, _, rfl⟩
    · exact tabX_ok (tabAt b hb) trivial
    · exact ⟨ha, by rw [List.length_map]; exact hl, vs, _, rv, ha⟩
  have hS : SqL K H a (ns.map V.int) := by
    cases hk : K.lookup a with
    | none => exact .inl (.inr ⟨{ cls := .type "list", data := .seq vs.toArray }, by rw [← hH]; exact (if_neg aT).trans (if_pos ⟨rfl, hk⟩)⟩)
    | some o =>
      have e := KX a o hk
      rw [ha] at e
      cases e
      exact .inr ⟨_, vs.toArray, _, hk, rfl, rfl, rfl, by rw [List.size_toArray, lenV]; exact hl, by simpa using rv⟩
  -- nothing but a list or an empty table is tracked
  have free : ∀ {b : Addr} {o : Obj}, s₁.heap.get? b = some o → (∀ us n, o.data ≠ .seq us n) → o.data ≠ .fields #[] → H b = none := fun {b o} e h1 h2 => by
    cases q : H b with
    | none => rfl
    | some u =>
      rcases H_is b u q with ⟨hb, _⟩ | ⟨rfl, _, _⟩
      · rw [tabAt b hb] at e
        exact absurd (congrArg Obj.data (Option.some.inj e)).symm h2
      · rw [ha] at e
        exact absurd (congrArg Obj.data (Option.some.inj e)).symm (h1 _ _)
  have nsH : ∀ {b : Addr} {m : Str → Option Value}, s₁.heap.Ns b m → (hidT s₁.heap H).Ns b m := fun {b m} ⟨o, es, ep, e, d, r⟩ =>
    ⟨o, es, ep, hidT_get e (free e (fun us n z => by rw [d] at z; cases z) fun z => by rw [d] at z; cases z), d, r⟩
  have KH : K.In (hidT s₁.heap H) := fun b o e => hidT_get (KX b o e) (by
    cases q : H b with
    | none => rfl
    | some u =>
      rcases H_is b u q with ⟨hb, _⟩ | ⟨rfl, hk, _⟩
      · obtain ⟨p, hp, ep⟩ := List.mem_map.mp hb
        rw [← ep, nT p hp] at e
        cases e
      · rw [hk] at e
        cases e)
  have TB : ∀ p ∈ cs, LamX.TabB (hidT s₁.heap H) mg p.1 p.2 := fun p hp => by
    have hTp := hT p hp
    refine ⟨?_, ?_, fun z => ?_⟩
    · obtain ⟨o, us, file, tf, flags, tg, inF, text, tt, e1, r1, r2, r3, rr⟩ := cH p hp
      refine ⟨o, us, file, tf, flags, tg, inF, text, tt, hidT_get e1 (free e1 (fun us' n z => by rw [r2] at z; cases z) fun z => ?_), r1, r2, r3, rr⟩
      rw [r2] at z
      cases z
      simp at r3
    · obtain ⟨bm, ob, b1, b2, b3, b4, b5, b6⟩ := bM
      refine ⟨bm, ob, b1, b2, fun q => ?_, fun q => ?_, hidT_get b3 (free b3 (fun us n z => by rw [b6] at z; cases z) fun z => by rw [b6] at z; cases z), b4, b5, b6⟩
      · obtain ⟨o, es, ep, e, d, _⟩ := gN
        rw [q, e] at b3
        cases b3
        rw [d] at b6
        cases b6
      · rw [q, hTp] at b3
        cases b3
        cases b6
    · obtain ⟨o, es, ep, e, d, _⟩ := gN
      rw [z, hTp] at e
      cases e
      cases d
  have e0 : Env0 P w K mg (hidT s₁.heap H) callerA [] s₁ H := ⟨rfl, ⟨KH, nsH gN, ⟨mb, nsH bN, bB⟩, let ⟨mc, h1, h2⟩ := lim; ⟨mc, nsH h1, h2⟩⟩, fun b o e => of_hidT e, Nat.le_of_eq (hidT_size _ _), trivial, fun b hb => absurd (show b ∈ ([] : List Addr) from hb) (by simp), hok, .of_eq g0⟩
  refine codeAny_mono ((F _ KH (nsH gN) TB).run callerA [] s₁ H ⟨[.ref a], []⟩ [.ref a] [.ref a] _ _ hr e0 (bd s₁ (.ref a)) (.cons rfl .nil) (hsp H H_tab hS)) fun r s' h => ?_
  cases r with
  | error e => exact False.elim h
  | ok fl =>
    cases fl with
    | next => exact False.elim h
    | brk => exact False.elim h
    | cont => exact False.elim h
    | ret u =>
      obtain ⟨v, H', os, bare, un, hok', r', q⟩ := h
      obtain ⟨rfl, hT'⟩ := q
      obtain rfl : u = Value.bool true := r'
      have stays : ∀ b o, b ∉ cs.map (·.2) → s₁.heap.get? b = some o → s'.heap.get? b = some o := fun b o nb e => by
        cases q : H b with
        | none => exact un.keep b o e q (fun z => absurd (show b ∈ ([] : List Addr) from z) (by simp)) (by simp)
        | some u =>
          rcases H_is b u q with ⟨hb, _⟩ | ⟨_, _, rfl⟩
          · exact absurd hb nb
          · have z2 := un.frzs b _ _ q
            obtain ⟨e1, _⟩ := hok b _ q
            obtain ⟨e2, _⟩ := hok' b _ z2
            rw [e] at e1
            cases e1
            exact e2
      have grown : ∀ p ∈ cs, ∃ more : Array Value, s'.heap.get? p.2 = some { cls := .none, data := .fields more } := fun p hp => by
        obtain ⟨ps, e, _⟩ := (hok' p.2 _ (hT' p hp)).1
        exact ⟨ps, e⟩
      refine ⟨rfl, ⟨fun b o e => ?_, fun b o e => ?_⟩, os, bare⟩
      · by_cases hb : b ∈ cs.map (·.2)
        · obtain ⟨p, hp, rfl⟩ := List.mem_map.mp hb
          obtain ⟨more, hm⟩ := grown p hp
          rw [hT p hp] at e
          cases e
          exact .inr (.inl ⟨((cH p hp).tab (hT p hp)).isCodeTable, rfl, #[], more, rfl, by rw [Array.empty_append]; exact hm⟩)
        · exact .inl (stays b o hb e)
      · by_cases hb : b ∈ cs.map (·.2)
        · obtain ⟨p, hp, rfl⟩ := List.mem_map.mp hb
          obtain ⟨more, hm⟩ := grown p hp
          exact ⟨_, hm⟩
        · exact ⟨o, stays b o hb e⟩
/-- what is known of the law's promise at the head's heap -/
def LawX (l : PySem.W.OpenLaw) (w : World) (K : PySem.W.Frag) (k n : Nat) (x : Str) (mg : Str → Option Value) (fa : Addr) (h : Heap) : Prop :=
  ∃ (fd : FuncData) (cs : List (Addr × Addr)) (sp : Sp), (∀ p ∈ cs, h.get? p.2 = some emptyTab) ∧ (∀ p ∈ cs, K.lookup p.2 = none) ∧ (∀ p ∈ cs, PySem.W.CodeHd h p.1 p.2) ∧ (∀ (s : Shared) (u : Value), BindsTo s fd ⟨[u], []⟩ [(x, u)]) ∧
    (∀ (H : Hp) (a : Addr) (ns : List Int), ns.length ≤ n → (∀ z ∈ ns, Builtin.Int.intBits z ≤ 1048576) → Tabs cs H → SqL K H a (ns.map V.int) → sp [.ref a] H (fun v H' => v = .bl true ∧ Tabs cs H') fun _ _ _ => False) ∧
    ∀ base : Heap, K.In base → base.Ns mainGlobals mg → (∀ p ∈ cs, LamX.TabB base mg p.1 p.2) → FnOk l.prog w K mg base CX0 k fa fd [x] sp
theorem walk_ofX {l : PySem.W.OpenLaw} {n k : Nat} {q : Program} {loose : List Str} {XP : (Str → Option Value) → Heap → Prop} {YP : World → Heap → Prop} {d : DefRec} {K : Params → PySem.W.Frag} {x : Str}
    (hn : l.most = some n) (hn2 : n ≤ sizeLine) (hdf : d.params.defaults = []) (hr : Room k callerA) (hY : ∀ (w : World) (h : Heap), YP w h → (K w.params).In h)
    (F : ∀ (w : World) (mg : Str → Option Value) (fa : Addr) (h : Heap), YP w h → (K w.params).In h → h.Ns mainGlobals mg → mg d.name = some (.ref fa) → LawX l w (K w.params) k n x mg fa h) :
    PySem.W.WalkO q loose XP YP l.row.toRowW d [] (fun f vs => PySem.call f vs) := by
  refine Att.attach_callB hn hdf fun w s₀ s₁ mg mb fa o pm cd doc a vs ns G Y ho hd hcd hmg hobj hints hlen hbits hg => ?_
  obtain ⟨fd, cs, sp, h1, h2, h3, hb, hsp, hF⟩ := F w mg fa _ Y (hY w _ Y) G.T.g hmg
  exact law_callX (hY w _ Y) G.T.g G.T.b G.T.builtins G.T.nolimit hg h1 h2 h3 G.T.bmain hobj hints (Nat.le_trans hlen hn2) hr hF hb (fun H hH hS => hsp H a ns hlen hbits hH hS)
end
end FB
namespace FB
open PySem PySem.Spec PyProof.Rows L2
/-! ### defs and methods with a known code object -/
theorem funC_mk {K : PySem.W.Frag} {x qual : Str} {st : Stmt} {f c : Addr} {oc : Value} {od an : Option Addr} {osl : Array (Option Value)} {kV doc pm ct : Value} (l : K.lookup f = some ⟨oc, od, .func (PySem.W.fnOf x qual (defArgs st) (defBody st) (defScope st) .none kV doc pm an (.ref c) ct), osl⟩)
    (cd : PySem.W.codeIn K (.ref c) qual = true) (kp : PySem.W.keepIn K (.ref f) = true) : FunC K x qual st f (PySem.W.fnOf x qual (defArgs st) (defBody st) (defScope st) .none kV doc pm an (.ref c) ct) c := ⟨⟨oc, od, kV, doc, pm, an, ct, osl, rfl, l, cd⟩, kp⟩
def spLawX (K : PySem.W.Frag) (cs : List (Addr × Addr)) : Sp := fun vs H Q _ => ∃ (a : Addr) (ns : List Int), vs = [.ref a] ∧ SqL K H a (ns.map V.int) ∧ ns.length ≤ 63 ∧ Tabs cs H ∧ ∀ H' : Hp, Tabs cs H' → Q (.bl true) H'
end FB

namespace FB
open PySem PySem.Spec PyProof.Rows L2
def DefAtC (K : PySem.W.Frag) (mg : Str → Option Value) (x : Str) (st : Stmt) (ps : List Str) (c : Addr) : Prop :=
  ∃ f fd, FunC K x x st f fd c ∧ mg x = some (.ref f) ∧ L2.Binds K fd ps []
theorem DefAtC.ok {P : Program} {w : World} {K : PySem.W.Frag} {mg : Str → Option Value} {base : Heap} {k : Nat} {x : Str} {st : Stmt} {ps : List Str} {sp : Sp} {c : Addr} (A : DefAtC K mg x st ps c)
    (h : ∀ f fd, FunC K x x st f fd c → FnOk P w K mg base CX0 k f fd ps sp) : DefOk P w K mg base k x ps sp := by
  obtain ⟨f, fd, F, hm, hb⟩ := A
  exact ⟨f, fd, h f fd F, hm, F.kp, hb⟩
end FB

namespace FB
open PySem PySem.Spec PyProof.Rows L2
theorem cr_anyK {X : Cx} {K : PySem.W.Frag} (hK : X.K = K) (hc : X.calm = true) : CallR X (.builtin "any") (rAny K) := by
  subst hK
  exact cr_any hc
theorem cr_allK {X : Cx} {K : PySem.W.Frag} (hK : X.K = K) (hc : X.calm = true) : CallR X (.builtin "all") (rAll K) := by
  subst hK
  exact cr_all hc
theorem pi_listK {X : Cx} {K : PySem.W.Frag} {tg l : Expr} {tl : TE} (hK : X.K = K) (hl : PE X l tl) : PI X tg l (iList K tl) := by
  subst hK
  exact pi_list hl
theorem pi_tupK {X : Cx} {K : PySem.W.Frag} {tg l : Expr} {tl : TE} (hK : X.K = K) (hl : PE X l tl) : PI X tg l (iTup K tl) := by
  subst hK
  exact pi_tup hl
theorem any_congr {α : Type} {p q : α → Bool} : ∀ {l : List α}, (∀ x ∈ l, p x = q x) → l.any p = l.any q
  | [], _ => rfl
  | x :: r, h => by
    rw [List.any_cons, List.any_cons, h x (by simp), any_congr (l := r) fun y hy => h y (by simp [hy])]
/-! ### any, all over a list, a tuple -/
section
variable {K : PySem.W.Frag} {a : Addr} {xs : List V} {g : TG} {te : TE} {σ : L2.St} {vs : List Nat} {Q : VK} {st : Bool} {H : Hp}
theorem ge_list (Pv : Nat → Hp → Prop) (h0 : Pv 0 H) (hl : ∀ i H, i ≤ xs.length → Pv i H → SqL K H a xs)
    (hs : ∀ i x H, xs[i]? = some x → Pv i H → g x (wipe σ vs) H fun σ2 H2 => wipe σ2 vs = wipe σ vs ∧ te σ2 H2 fun v H3 => ∃ b : Bool, v = .bl b ∧ if b = st then Q (.bl st) H3 else Pv (i + 1) H3) (hd : ∀ H, Pv xs.length H → Q (.bl (!st)) H) :
    ∃ W : Nat → Nat → Hp → Prop, (∃ m, W 0 m H) ∧ GStep st (Itl K a) g te σ vs Q W := by
  refine ⟨fun i m H => m = xs.length - i ∧ i ≤ xs.length ∧ Pv i H, ⟨_, rfl, Nat.zero_le _, h0⟩, ?_⟩
  rintro i m H ⟨rfl, hi, p⟩
  have q := hl i H hi p
  by_cases hlt : i < xs.length
  · refine .inr ⟨⟨xs, _, q, List.getElem?_eq_getElem hlt⟩, Pv (i + 1), fun H' p' => ⟨xs.length - (i + 1), by omega, rfl, hlt, p'⟩, fun x H' y => ?_⟩
    obtain ⟨rfl, y⟩ := y
    exact hs i x _ (y xs q) p
  · have e : i = xs.length := by omega
    subst e
    exact .inl ⟨⟨xs, q, Nat.le_refl _⟩, hd H p⟩
theorem ge_tup (Pv : Nat → Hp → Prop) (h0 : Pv 0 H) (hl : ∀ i H, i ≤ xs.length → Pv i H → SqT K H a xs)
    (hs : ∀ i x H, xs[i]? = some x → Pv i H → g x (wipe σ vs) H fun σ2 H2 => wipe σ2 vs = wipe σ vs ∧ te σ2 H2 fun v H3 => ∃ b : Bool, v = .bl b ∧ if b = st then Q (.bl st) H3 else Pv (i + 1) H3) (hd : ∀ H, Pv xs.length H → Q (.bl (!st)) H) :
    ∃ W : Nat → Nat → Hp → Prop, (∃ m, W 0 m H) ∧ GStep st (Itt K a) g te σ vs Q W := by
  refine ⟨fun i m H => m = xs.length - i ∧ i ≤ xs.length ∧ Pv i H, ⟨_, rfl, Nat.zero_le _, h0⟩, ?_⟩
  rintro i m H ⟨rfl, hi, p⟩
  have q := hl i H hi p
  by_cases hlt : i < xs.length
  · refine .inr ⟨⟨xs, _, q, List.getElem?_eq_getElem hlt⟩, Pv (i + 1), fun H' p' => ⟨xs.length - (i + 1), by omega, rfl, hlt, p'⟩, fun x H' y => ?_⟩
    obtain ⟨rfl, y⟩ := y
    exact hs i x _ (y xs q) p
  · have e : i = xs.length := by omega
    subst e
    exact .inl ⟨⟨xs, q, Nat.le_refl _⟩, hd H p⟩
end
end FB
namespace FB
open PySem PySem.Spec PyProof.Rows L2
/-! ### lists of texts as data -/
theorem dpall_strs {K : PySem.W.Frag} {H : Hp} : ∀ ks : List Str, DpAll K H (ks.map V.str) (ks.map PyData.str)
  | [] => .nil
  | k :: r => .cons (.str k) (dpall_strs r)
theorem lay_strs : ∀ ks : List Str, (∀ k ∈ ks, KeyOr k) → PyData.canLayAll0 (ks.map PyData.str) = true ∧ PyData.depthAll (ks.map PyData.str) ≤ 1
  | [], _ => ⟨by simp [PyData.canLayAll0], by simp [PyData.depthAll]⟩
  | k :: r, h => by
    obtain ⟨h1, h2⟩ := lay_strs r fun y hy => h y (by simp [hy])
    refine ⟨?_, ?_⟩
    · rw [List.map_cons, PyData.canLayAll0, h1]
      simp [PyData.canLay0, (h k (by simp)).ok]
    · rw [List.map_cons, PyData.depthAll]
      have : (PyData.str k).depth = 0 := by simp [PyData.depth]
      omega
theorem shaped_strs {ks : List Str} (h : ∀ k ∈ ks, KeyOr k) : SeqAt.shaped (.list (ks.map PyData.str)) = true := by
  obtain ⟨h1, h2⟩ := lay_strs ks h
  unfold SeqAt.shaped
  rw [PyData.canLay0, h1, decide_eq_true (show (PyData.list (ks.map PyData.str)).depth ≤ 64 by rw [PyData.depth]; omega)]
  rfl
end FB

namespace FB
open PySem PySem.Spec PyProof.Rows L2
/-! ### match: cases that are tuples, their first item a written text, the others names -/
def setAll : L2.St → List Nat → List V → L2.St
  | σ, i :: is, v :: vs => setAll (σ.set i (some v)) is vs
  | σ, _, _ => σ
structure PCs (X : Cx) (cs : List MatchCase) (t : V → TS) : Prop where
  run : ∀ (pins : List (Addr × Obj)) (s : Shared) (σ : L2.St) (H : Hp) (D : Ends) (v : V) (u : Value) (first : Bool), Inv X pins σ H s → RelV v u → t v D σ H → wpAny (model X.prog X.w) X.A (matchCases cs X.env u first) (SP X pins D) X.xe s
inductive Caps (X : Cx) : List Pattern → List Str → List Nat → Prop
  | nil : Caps X [] [] []
  | cons {i : Nat} {x : Str} {pos : Pos} {ps : List Pattern} {ns : List Str} {is : List Nat} (hi : X.N[i]? = some x) (hx : Loc X.env.scope x) (hf : X.fn x = true ∨ X.env.scope.names.lookup x = some .local) (r : Caps X ps ns is) : Caps X (.MatchAs none (some x) pos :: ps) (x :: ns) (i :: is)
section
variable {X : Cx} {pins : List (Addr × Obj)}
theorem caps_match {A : Around} {E : Value → Shared → Prop} : ∀ {ps : List Pattern} {ns : List Str} {is : List Nat} {us : List Value} {s : Shared} {Q : Option (List (Str × Value)) → Shared → Prop}, Caps X ps ns is → us.length = is.length → Q (some (ns.zip us)) s →
    wpAny (model X.prog X.w) A (matchEach ps X.env us) Q E s
  | _, _, _, [], _, _, .nil, _, q => wpAny_matchEach_nil q
  | _, _, _, u :: us, _, _, .nil, h, _ => by cases h
  | _, _, _, [], _, _, .cons _ _ _ _, h, _ => by cases h
  | _, _, _, u :: us, _, _, .cons _ _ _ r, h, q => by
    refine wpAny_matchEach_cons (wpAny_matchPattern_Capture ?_)
    exact caps_match r (Nat.succ.inj h) q
theorem caps_store {A : Around} {E : Value → Shared → Prop} (hN : X.N.Nodup) : ∀ {ps : List Pattern} {ns : List Str} {is : List Nat} {us : List Value} {vs : List V} {σ : L2.St} {H : Hp} {s : Shared} {Q : Unit → Shared → Prop}, Caps X ps ns is → Vals vs us → us.length = is.length → Inv X pins σ H s →
    (∀ s', Inv X pins (setAll σ is vs) H s' → Q () s') → wpAny (model X.prog X.w) A (assignInOrder ((ns.zip us).map fun (n, _) => bindName X.env n) ((ns.zip us).map (·.2))) Q E s
  | _, _, _, [], _, _, _, s, _, .nil, .nil, _, I, q => wpAny_assignInOrder_none (q s I)
  | _, _, _, _ :: _, _, _, _, _, _, .nil, _, h, _, _ => by cases h
  | _, _, _, [], _, _, _, _, _, .cons _ _ _ _, _, h, _, _ => by cases h
  | _, _, _, u :: us, v :: vs, σ, H, s, Q, .cons hi hx hf r, .cons rv rr, h, I, q => by
    refine wpAny_assignInOrder_more ?_
    unfold bindName
    refine wpAny_bind (wpAny_holding (wpAny_point ?_))
    refine wpAny_bind (store_ok I hN hi hx rv (fun s' I' => wpAny_point ?_) hf)
    exact caps_store hN r rr (Nat.succ.inj h) I' q
def tMatch (te : TE) (tc : V → TS) : TS := fun D σ H => te σ H fun v H1 => tc v D σ H1
theorem ps_match {e : Expr} {cs : List MatchCase} {pos : Pos} {te : TE} {tc : V → TS} (he : PE X e te) (hc : PCs X cs tc) : PS X (.Match e cs pos) (tMatch te tc) := by
  refine ⟨fun pins s σ H D I h => ?_⟩
  refine wpAny_Match (thn (he.run pins s σ H _ I h) fun u s1 h1 => ?_)
  obtain ⟨v, H1, I1, r, q⟩ := h1
  exact hc.run pins s1 σ H1 D v u true I1 r q
theorem pcs_nil : PCs X [] (fun _ D σ H => D.nx σ H) := ⟨fun pins s σ H D v u first I _ h => wpAny_matchCases_nil ⟨σ, H, I, h⟩⟩
/-- the case ("k", n1, ..): its names go to the slots is -/
def tCase (K : PySem.W.Frag) (k : Str) (is : List Nat) (tb : TS) (tr : V → TS) : V → TS := fun v D σ H => ∃ (a : Addr) (z : Str) (xs : List V), v = .ref a ∧ SqT K H a (.str z :: xs) ∧ if xs.length = is.length ∧ z = k then tb D (setAll σ is xs) H else tr v D σ H
theorem pcs_case {k : Str} {j : Nat} {p1 p2 pos : Pos} {ps : List Pattern} {ns : List Str} {is : List Nat} {body : List Stmt} {rest : List MatchCase} {tb : TS} {tr : V → TS} (hc : X.calm = true) (hN : X.N.Nodup) (hp : Caps X ps ns is) (hb : PSs X body tb) (hr : PCs X rest tr)
    (hstar : (Pattern.MatchValue (.Constant (.str k) j p1) p2 :: ps).findIdx? (·.isStar) = none := by rfl) (hwild : ((Pattern.MatchValue (.Constant (.str k) j p1) p2 :: ps).all fun p => p.isWildcard || (p.isStar && p.names.isEmpty)) = false := by rfl) :
    PCs X (⟨.MatchSequence (.MatchValue (.Constant (.str k) j p1) p2 :: ps) pos, none, body⟩ :: rest) (tCase X.K k is tb tr) := by
  have hl : ps.length = is.length := by
    clear hb hr hstar hwild
    induction hp with
    | nil => rfl
    | cons _ _ _ _ ih => simp [ih]
  refine ⟨fun pins s σ H D v u first I r h => ?_⟩
  obtain ⟨a, z, xs, rfl, hT, h⟩ := h
  obtain rfl : u = Value.ref a := r
  obtain ⟨its, rv, ht, hz⟩ := I.tuple hT
  have hln := rv.length
  have hfit : (its.toArray.size : Int) < 2 ^ 63 := by
    have : its.toArray.size ≤ sizeLine := by rw [List.size_toArray, ← hln]; exact hz
    have h2 : (sizeLine : Int) < 2 ^ 63 := by decide
    omega
  refine wpAny_matchCases_cons ?_
  by_cases hn : its.toArray.size = (Pattern.MatchValue (.Constant (.str k) j p1) p2 :: ps).length
  · refine matchSeq_tuple_hit ht hfit hn ?_ hstar hwild
    rw [← hn]
    refine PyProof.Rows.unpackItems_tuple (s := { s with toks := s.toks + 1 + 1 }) (I.ok.hd hc) ht fun h' he => ?_
    have I2 : Inv X pins σ H { s with heap := h', toks := s.toks + 1 + 1 } := I.kept fun b o e => he b o (Nat.ne_of_lt (Heap.lt_size e)) e
    generalize ({ s with heap := h', toks := s.toks + 1 + 1 } : Shared) = s2 at I2
    cases rv with
    | cons r1 rr =>
      rename_i u1 us
      obtain ⟨t, rfl⟩ := r1
      have hus : us.length = is.length := by
        have := hn
        simp at this
        omega
      have hxs : xs.length = is.length := by rw [← hus]; exact rr.length
      refine wpAny_matchEach_cons (wpAny_matchPattern_Value (Calls.Constant_str (PyProof.Rows.eq_str (wpAny_truthy_bool ?_))))
      have I3 : Inv X pins σ H { s2 with toks := s2.toks + 1 } := I2.tok _
      by_cases hk : z = k
      · rw [if_pos ⟨hxs, hk⟩] at h
        rw [show (z == k) = true by simpa using hk, if_pos rfl]
        refine caps_match hp hus ?_
        refine caps_store hN hp rr hus I3 fun s' I' => ?_
        exact hb.run pins s' _ H D I' h
      · rw [if_neg fun q => hk q.2] at h
        rw [show (z == k) = false by simpa using hk, if_neg Bool.false_ne_true]
        exact hr.run pins _ σ H D (.ref a) (.ref a) false I3 rfl h
  · refine matchSeq_tuple_miss ht hfit hn ?_ hstar hwild
    have hne : ¬ (xs.length = is.length ∧ z = k) := fun q => hn (by
      have : its.length = xs.length + 1 := hln.symm
      simp
      omega)
    rw [if_neg hne] at h
    exact hr.run pins _ σ H D (.ref a) (.ref a) false (I.tok _) rfl h
end
end FB


namespace FB
open PySem PySem.Spec PyProof.Rows L2
/-! ### dicts whose keys are texts -/
def dkv {α : Type} (f : α → V) (l : List (Str × α)) : List (Key × V) := l.map fun e => (tk e.1, f e.2)
def getS {α : Type} (l : List (Str × α)) (k : Str) : Option α := (l.find? fun e => decide (e.1 = k)).map (·.2)
def setS {α : Type} (l : List (Str × α)) (k : Str) (v : α) : List (Str × α) := if (l.any fun e => decide (e.1 = k)) = true then l.map (fun e => if e.1 = k then (e.1, v) else e) else l ++ [(k, v)]
def delS {α : Type} (l : List (Str × α)) (k : Str) : List (Str × α) := l.filter fun e => decide (e.1 ≠ k)
theorem tk_eq {a b : Str} : (tk a = tk b) = (a = b) := propext ⟨fun z => Sum.inr.inj z, fun z => congrArg Sum.inr z⟩
section
variable {α : Type} {f : α → V} {l : List (Str × α)} {k j : Str} {v : α}
theorem len_dkv : (dkv f l).length = l.length := List.length_map ..
theorem val_dkv : valV (dkv f l) (tk k) = (getS l k).map f := by
  unfold valV dkv getS
  rw [List.find?_map]
  have : ((fun kv : Key × V => decide (kv.1 = tk k)) ∘ fun e : Str × α => (tk e.1, f e.2)) = fun e => decide (e.1 = k) := by
    funext e
    show decide (tk e.1 = tk k) = _
    simp only [tk_eq]
  rw [this]
  cases l.find? (fun e => decide (e.1 = k)) <;> rfl
theorem put_dkv : putK (dkv f l) (tk k) (f v) = dkv f (setS l k v) := by
  have e1 : ((dkv f l).any fun kv => decide (kv.1 = tk k)) = l.any fun e => decide (e.1 = k) := by
    unfold dkv
    rw [List.any_map]
    congr 1
    funext e
    show decide (tk e.1 = tk k) = _
    simp only [tk_eq]
  unfold putK setS
  rw [e1]
  split
  · unfold dkv
    rw [List.map_map, List.map_map]
    refine List.map_congr_left fun e _ => ?_
    show (if tk e.1 = tk k then (tk e.1, f v) else (tk e.1, f e.2)) = (tk (if e.1 = k then (e.1, v) else e).1, f (if e.1 = k then (e.1, v) else e).2)
    by_cases h : e.1 = k
    · rw [if_pos (congrArg Sum.inr h), if_pos h]
    · rw [if_neg fun z => h (Sum.inr.inj z), if_neg h]
  · unfold dkv
    rw [List.map_append]
    rfl
theorem drop_dkv : dropK (dkv f l) (tk k) = dkv f (delS l k) := by
  unfold dropK delS dkv
  rw [List.filter_map]
  congr 2
  funext e
  show decide (tk e.1 ≠ tk k) = _
  simp only [ne_eq, tk_eq]
theorem get_none : getS l k = none ↔ k ∉ l.map (·.1) := by
  unfold getS
  rw [Option.map_eq_none_iff, List.find?_eq_none]
  constructor
  · intro h hm
    obtain ⟨e, he, rfl⟩ := List.mem_map.mp hm
    exact h e he (decide_eq_true rfl)
  · intro h e he z
    exact h (List.mem_map.mpr ⟨e, he, of_decide_eq_true z⟩)
theorem get_mem (h : getS l k = some v) : (k, v) ∈ l := by
  unfold getS at h
  obtain ⟨e, he, rfl⟩ := Option.map_eq_some_iff.mp h
  have h1 := List.mem_of_find?_eq_some he
  have h2 : e.1 = k := by simpa using List.find?_some he
  rw [← h2]
  exact h1
theorem set_new (h : getS l k = none) : setS l k v = l ++ [(k, v)] := by
  unfold setS
  rw [if_neg]
  intro z
  obtain ⟨e, he, h2⟩ := List.any_eq_true.mp z
  exact get_none.mp h (List.mem_map.mpr ⟨e, he, of_decide_eq_true h2⟩)
theorem len_set : (setS l k v).length ≤ l.length + 1 := by
  unfold setS
  split
  · rw [List.length_map]
    omega
  · rw [List.length_append]
    exact Nat.le_refl _
theorem len_del : (delS l k).length ≤ l.length := List.length_filter_le _ _
theorem get_nil : getS ([] : List (Str × α)) k = none := rfl
theorem get_cons {e : Str × α} : getS (e :: l) k = if e.1 = k then some e.2 else getS l k := by
  unfold getS
  by_cases h : e.1 = k
  · rw [if_pos h, List.find?_cons_of_pos (by simpa using h)]
    rfl
  · rw [if_neg h, List.find?_cons_of_neg (by simpa using h)]
theorem get_append {r : List (Str × α)} : getS (l ++ r) k = (getS l k).or (getS r k) := by
  unfold getS
  rw [List.find?_append]
  cases l.find? (fun e => decide (e.1 = k)) <;> rfl
theorem keys_set_mem (h : k ∈ l.map (·.1)) : (setS l k v).map (·.1) = l.map (·.1) := by
  unfold setS
  obtain ⟨e, he, h2⟩ := List.mem_map.mp h
  rw [if_pos (List.any_eq_true.mpr ⟨e, he, decide_eq_true h2⟩), List.map_map]
  refine List.map_congr_left fun e _ => ?_
  show (if e.1 = k then (e.1, v) else e).1 = e.1
  split <;> rfl
theorem nodup_snoc {β : Type} {xs : List β} {x : β} (h : xs.Nodup) (hx : x ∉ xs) : (xs ++ [x]).Nodup := by
  rw [List.nodup_append]
  exact ⟨h, by simp, fun a ha b hb e => hx (by rw [show b = x by simpa using hb] at e; rw [← e]; exact ha)⟩
theorem nodup_set (h : (l.map (·.1)).Nodup) : ((setS l k v).map (·.1)).Nodup := by
  by_cases hk : k ∈ l.map (·.1)
  · rw [keys_set_mem hk]
    exact h
  · rw [set_new (get_none.mpr hk), List.map_append]
    exact nodup_snoc h hk
theorem nodup_del (h : (l.map (·.1)).Nodup) : ((delS l k).map (·.1)).Nodup := h.sublist (List.filter_sublist.map _)
theorem get_set : getS (setS l k v) j = if j = k then some v else getS l j := by
  by_cases hk : k ∈ l.map (·.1)
  · unfold setS
    obtain ⟨e, he, h2⟩ := List.mem_map.mp hk
    rw [if_pos (List.any_eq_true.mpr ⟨e, he, decide_eq_true h2⟩)]
    clear he h2 e
    induction l with
    | nil => cases hk
    | cons e r ih =>
      rw [List.map_cons, get_cons, get_cons]
      by_cases h1 : e.1 = k
      · rw [if_pos h1]
        show (if e.1 = j then some v else _) = _
        by_cases h2 : j = k
        · rw [if_pos (h1.trans h2.symm), if_pos h2]
        · rw [if_neg fun z => h2 (z.symm.trans h1), if_neg h2, if_neg fun z => h2 (z.symm.trans h1)]
          by_cases h3 : k ∈ r.map (·.1)
          · rw [ih h3, if_neg h2]
          · congr 1
            have : ∀ y ∈ r, (fun e : Str × α => if e.1 = k then (e.1, v) else e) y = y := fun y hy => if_neg fun z => h3 (List.mem_map.mpr ⟨y, hy, z⟩)
            rw [List.map_congr_left this, List.map_id']
      · rw [if_neg h1]
        have h3 : k ∈ r.map (·.1) := by
          rw [List.map_cons] at hk
          rcases List.mem_cons.mp hk with z | z
          · exact absurd z.symm h1
          · exact z
        rw [ih h3]
        by_cases h2 : e.1 = j
        · rw [if_pos h2, if_pos h2, if_neg fun z => h1 (h2.trans z)]
        · rw [if_neg h2, if_neg h2]
  · rw [set_new (get_none.mpr hk), get_append, get_cons, get_nil]
    show (getS l j).or (if k = j then some v else none) = _
    by_cases h2 : j = k
    · rw [if_pos h2, if_pos h2.symm, h2, get_none.mpr hk]
      rfl
    · rw [if_neg h2, if_neg fun z => h2 z.symm]
      cases getS l j <;> rfl
theorem get_del : getS (delS l k) j = if j = k then none else getS l j := by
  induction l with
  | nil => cases Decidable.em (j = k) <;> rename_i h <;> simp [delS, getS, h]
  | cons e r ih =>
    unfold delS at ih ⊢
    by_cases h1 : e.1 = k
    · rw [List.filter_cons_of_neg (by simpa using h1), ih, get_cons]
      by_cases h2 : j = k
      · rw [if_pos h2, if_pos h2]
      · rw [if_neg h2, if_neg h2, if_neg fun z => h2 (z.symm.trans h1)]
    · rw [List.filter_cons_of_pos (by simpa using h1), get_cons, get_cons, ih]
      by_cases h2 : e.1 = j
      · rw [if_pos h2, if_pos h2, if_neg fun z => h1 (h2.trans z)]
      · rw [if_neg h2, if_neg h2]
theorem mem_get (nd : (l.map (·.1)).Nodup) (h : (k, v) ∈ l) : getS l k = some v := by
  induction l with
  | nil => cases h
  | cons e r ih =>
    rw [List.map_cons, List.nodup_cons] at nd
    rw [get_cons]
    rcases List.mem_cons.mp h with z | z
    · rw [← z, if_pos rfl]
    · rw [if_neg fun q => nd.1 (List.mem_map.mpr ⟨_, z, q.symm⟩)]
      exact ih nd.2 z
end
end FB

namespace FB
open PySem PySem.Spec PyProof.Rows L2
def top (i : Nat) : Stmt := PySem.Challenge.pw_farbooks_k17_cut_and_joined.main.body.getD i (.Pass ⟨0, 0, 0, 0⟩)
abbrev s_has_key : Stmt := top 8
theorem sc_has_key : FnScope ["span", "key", "low", "high"] ["span", "key"] (defScope s_has_key) := ⟨rfl, rfl, rfl, by decide +kernel, rfl, by decide +kernel, by decide +kernel⟩
abbrev s_span_with : Stmt := top 9
theorem sc_span_with : FnScope ["spans", "key", "span"] ["spans", "key"] (defScope s_span_with) := ⟨rfl, rfl, rfl, by decide +kernel, rfl, by decide +kernel, by decide +kernel⟩
abbrev s_can_cut : Stmt := top 10
theorem sc_can_cut : FnScope ["span", "key"] ["span", "key"] (defScope s_can_cut) := ⟨rfl, rfl, rfl, by decide +kernel, rfl, by decide +kernel, by decide +kernel⟩
abbrev s_cut_at : Stmt := top 11
theorem sc_cut_at : FnScope ["spans", "key", "pieces", "span"] ["spans", "key"] (defScope s_cut_at) := ⟨rfl, rfl, rfl, by decide +kernel, rfl, by decide +kernel, by decide +kernel⟩
abbrev s_joined_at : Stmt := top 12
theorem sc_joined_at : FnScope ["spans", "key", "joined", "span"] ["spans", "key"] (defScope s_joined_at) := ⟨rfl, rfl, rfl, by decide +kernel, rfl, by decide +kernel, by decide +kernel⟩
abbrev s_drawn : Stmt := top 20
theorem sc_drawn : FnScope ["_law_script", "_law_cells"] ["_law_script"] (defScope s_drawn) := ⟨rfl, rfl, rfl, by decide +kernel, rfl, by decide +kernel, by decide +kernel⟩
abbrev s_pick : Stmt := top 21
theorem sc_pick : FnScope ["_law_draw", "_law_many", "_law_cells", "_law_value", "_law_k", "_law_once", "_law_twice"] ["_law_draw", "_law_many"] (defScope s_pick) := ⟨rfl, rfl, rfl, by decide +kernel, rfl, by decide +kernel, by decide +kernel⟩
abbrev s_key : Stmt := top 22
theorem sc_key : FnScope ["_law_draw", "_law_letters", "_law_some", "_law_k"] ["_law_draw"] (defScope s_key) := ⟨rfl, rfl, rfl, by decide +kernel, rfl, by decide +kernel, by decide +kernel⟩
abbrev s_keys : Stmt := top 23
theorem sc_keys : FnScope ["_law_draw", "_law_keys_here", "_law_many", "_law_k"] ["_law_draw"] (defScope s_keys) := ⟨rfl, rfl, rfl, by decide +kernel, rfl, by decide +kernel, by decide +kernel⟩
abbrev s_spans : Stmt := top 24
theorem sc_spans : FnScope ["_law_draw", "_law_keys_here", "_law_often", "_law_bounds", "_law_key_here", "_law_k"] ["_law_draw", "_law_keys_here", "_law_often"] (defScope s_spans) := ⟨rfl, rfl, rfl, by decide +kernel, rfl, by decide +kernel, by decide +kernel⟩
abbrev s_ops : Stmt := top 25
theorem sc_ops : FnScope ["_law_draw", "_law_keys_here", "_law_ops_here", "_law_key_here", "_law_number"] ["_law_draw", "_law_keys_here"] (defScope s_ops) := ⟨rfl, rfl, rfl, by decide +kernel, rfl, by decide +kernel, by decide +kernel⟩
abbrev s_deal : Stmt := top 26
theorem sc_deal : FnScope ["_law_draw", "_law_some"] ["_law_draw"] (defScope s_deal) := ⟨rfl, rfl, rfl, by decide +kernel, rfl, by decide +kernel, by decide +kernel⟩
abbrev s_has : Stmt := top 28
theorem sc_has : FnScope ["_law_span", "_law_key_here"] ["_law_span", "_law_key_here"] (defScope s_has) := ⟨rfl, rfl, rfl, by decide +kernel, rfl, by decide +kernel, by decide +kernel⟩
abbrev s_owns : Stmt := top 29
theorem sc_owns : FnScope ["_law_spans_here", "_law_key_here", "_law_span"] ["_law_spans_here", "_law_key_here"] (defScope s_owns) := ⟨rfl, rfl, rfl, by decide +kernel, rfl, by decide +kernel, by decide +kernel⟩
abbrev s_same : Stmt := top 30
theorem sc_same : FnScope ["_law_found", "_law_due", "_law_one", "_law_other"] ["_law_found", "_law_due"] (defScope s_same) := ⟨rfl, rfl, rfl, by decide +kernel, rfl, by decide +kernel, by decide +kernel⟩
abbrev s_do_bound : Stmt := top 31
theorem sc_do_bound : FnScope ["_law_made", "_law_word", "_law_key_here", "_law_spans_here", "_law_span", "_law_ahead", "_law_behind", "_law_rest", "_law_one"] ["_law_made", "_law_word", "_law_key_here"] (defScope s_do_bound) := ⟨rfl, rfl, rfl, by decide +kernel, rfl, by decide +kernel, by decide +kernel⟩
abbrev s_keys_owned : Stmt := top 32
theorem sc_keys_owned : FnScope ["_law_ledger", "_law_spans_here", "_law_keys_here", "_law_found", "_law_key_here"] ["_law_ledger", "_law_spans_here", "_law_keys_here"] (defScope s_keys_owned) := ⟨rfl, rfl, rfl, by decide +kernel, rfl, by decide +kernel, by decide +kernel⟩
abbrev s_law : Stmt := top 33
theorem sc_law : FnScope ["_law_script", "_law_draw", "_law_keys_here", "_law_spans_here", "_law_ledger", "_law_handed", "_law_made", "_law_k", "_law_word", "_law_key_here", "_law_found"] ["_law_script"] (defScope s_law) := ⟨rfl, rfl, rfl, by decide +kernel, rfl, by decide +kernel, by decide +kernel⟩
abbrev s_Shelf___init__ : Stmt := inClass (top 16) 0
theorem sc_Shelf___init__ : FnScope ["self"] ["self"] (defScope s_Shelf___init__) := ⟨rfl, rfl, rfl, by decide +kernel, rfl, by decide +kernel, by decide +kernel⟩
abbrev s_Shelf_put : Stmt := inClass (top 16) 1
theorem sc_Shelf_put : FnScope ["self", "key", "moment", "value", "page"] ["self", "key", "moment", "value"] (defScope s_Shelf_put) := ⟨rfl, rfl, rfl, by decide +kernel, rfl, by decide +kernel, by decide +kernel⟩
abbrev s_Shelf_at : Stmt := inClass (top 16) 2
theorem sc_Shelf_at : FnScope ["self", "key", "moment", "page", "moments", "known"] ["self", "key", "moment"] (defScope s_Shelf_at) := ⟨rfl, rfl, rfl, by decide +kernel, rfl, by decide +kernel, by decide +kernel⟩
abbrev s_Shelf_newest : Stmt := inClass (top 16) 3
theorem sc_Shelf_newest : FnScope ["self", "key", "page", "moment"] ["self", "key"] (defScope s_Shelf_newest) := ⟨rfl, rfl, rfl, by decide +kernel, rfl, by decide +kernel, by decide +kernel⟩
abbrev s_Shelf_rows : Stmt := inClass (top 16) 4
theorem sc_Shelf_rows : FnScope ["self", "span", "found", "key", "page", "moment", "value"] ["self", "span"] (defScope s_Shelf_rows) := ⟨rfl, rfl, rfl, by decide +kernel, rfl, by decide +kernel, by decide +kernel⟩
abbrev s_Shelf_take : Stmt := inClass (top 16) 5
theorem sc_Shelf_take : FnScope ["self", "rows", "key", "moment", "value"] ["self", "rows"] (defScope s_Shelf_take) := ⟨rfl, rfl, rfl, by decide +kernel, rfl, by decide +kernel, by decide +kernel⟩
abbrev s_Ledger___init__ : Stmt := inClass (top 18) 0
theorem sc_Ledger___init__ : FnScope ["self", "spans"] ["self", "spans"] (defScope s_Ledger___init__) := ⟨rfl, rfl, rfl, by decide +kernel, rfl, by decide +kernel, by decide +kernel⟩
abbrev s_Ledger_apply : Stmt := inClass (top 18) 1
theorem sc_Ledger_apply : FnScope ["self", "command", "deal", "ops", "moment", "verdict", "key", "move", "low", "group", "high", "rows"] ["self", "command"] (defScope s_Ledger_apply) := ⟨rfl, rfl, rfl, by decide +kernel, rfl, by decide +kernel, by decide +kernel⟩
abbrev s_Ledger_do_open : Stmt := inClass (top 18) 2
theorem sc_Ledger_do_open : FnScope ["self", "deal", "ops"] ["self", "deal", "ops"] (defScope s_Ledger_do_open) := ⟨rfl, rfl, rfl, by decide +kernel, rfl, by decide +kernel, by decide +kernel⟩
abbrev s_Ledger_do_ready : Stmt := inClass (top 18) 3
theorem sc_Ledger_do_ready : FnScope ["self", "deal", "ops", "moment", "key"] ["self", "deal", "ops", "moment"] (defScope s_Ledger_do_ready) := ⟨rfl, rfl, rfl, by decide +kernel, rfl, by decide +kernel, by decide +kernel⟩
abbrev s_Ledger_do_choose : Stmt := inClass (top 18) 4
theorem sc_Ledger_do_choose : FnScope ["self", "deal", "verdict"] ["self", "deal", "verdict"] (defScope s_Ledger_do_choose) := ⟨rfl, rfl, rfl, by decide +kernel, rfl, by decide +kernel, by decide +kernel⟩
abbrev s_Ledger_do_over : Stmt := inClass (top 18) 5
theorem sc_Ledger_do_over : FnScope ["self", "deal", "verdict", "moment", "ops"] ["self", "deal", "verdict"] (defScope s_Ledger_do_over) := ⟨rfl, rfl, rfl, by decide +kernel, rfl, by decide +kernel, by decide +kernel⟩
abbrev s_Ledger_do_mark : Stmt := inClass (top 18) 6
theorem sc_Ledger_do_mark : FnScope ["self", "moment"] ["self", "moment"] (defScope s_Ledger_do_mark) := ⟨rfl, rfl, rfl, by decide +kernel, rfl, by decide +kernel, by decide +kernel⟩
abbrev s_Ledger_do_cut : Stmt := inClass (top 18) 7
theorem sc_Ledger_do_cut : FnScope ["self", "key", "span"] ["self", "key"] (defScope s_Ledger_do_cut) := ⟨rfl, rfl, rfl, by decide +kernel, rfl, by decide +kernel, by decide +kernel⟩
abbrev s_Ledger_do_join : Stmt := inClass (top 18) 8
theorem sc_Ledger_do_join : FnScope ["self", "key", "joined"] ["self", "key"] (defScope s_Ledger_do_join) := ⟨rfl, rfl, rfl, by decide +kernel, rfl, by decide +kernel, by decide +kernel⟩
abbrev s_Ledger_do_give : Stmt := inClass (top 18) 9
theorem sc_Ledger_do_give : FnScope ["self", "move", "low", "group", "moment", "span", "gift", "key", "own"] ["self", "move", "low", "group", "moment"] (defScope s_Ledger_do_give) := ⟨rfl, rfl, rfl, by decide +kernel, rfl, by decide +kernel, by decide +kernel⟩
abbrev s_Ledger_do_take : Stmt := inClass (top 18) 10
theorem sc_Ledger_do_take : FnScope ["self", "move", "low", "high", "moment", "rows"] ["self", "move", "low", "high", "moment", "rows"] (defScope s_Ledger_do_take) := ⟨rfl, rfl, rfl, by decide +kernel, rfl, by decide +kernel, by decide +kernel⟩
abbrev s_Ledger_owns : Stmt := inClass (top 18) 11
theorem sc_Ledger_owns : FnScope ["self", "key"] ["self", "key"] (defScope s_Ledger_owns) := ⟨rfl, rfl, rfl, by decide +kernel, rfl, by decide +kernel, by decide +kernel⟩
abbrev s_Ledger_span_from : Stmt := inClass (top 18) 12
theorem sc_Ledger_span_from : FnScope ["self", "low", "span"] ["self", "low"] (defScope s_Ledger_span_from) := ⟨rfl, rfl, rfl, by decide +kernel, rfl, by decide +kernel, by decide +kernel⟩
abbrev s_Ledger_can_lock : Stmt := inClass (top 18) 13
theorem sc_Ledger_can_lock : FnScope ["self", "ops", "op"] ["self", "ops"] (defScope s_Ledger_can_lock) := ⟨rfl, rfl, rfl, by decide +kernel, rfl, by decide +kernel, by decide +kernel⟩
abbrev s_Ledger_end : Stmt := inClass (top 18) 14
theorem sc_Ledger_end : FnScope ["self", "deal", "verdict", "key", "holder"] ["self", "deal", "verdict"] (defScope s_Ledger_end) := ⟨rfl, rfl, rfl, by decide +kernel, rfl, by decide +kernel, by decide +kernel⟩
abbrev s_Ledger_put_all : Stmt := inClass (top 18) 15
theorem sc_Ledger_put_all : FnScope ["self", "ops", "moment", "op"] ["self", "ops", "moment"] (defScope s_Ledger_put_all) := ⟨rfl, rfl, rfl, by decide +kernel, rfl, by decide +kernel, by decide +kernel⟩
abbrev s_Ledger_raise_latest : Stmt := inClass (top 18) 16
theorem sc_Ledger_raise_latest : FnScope ["self", "moment"] ["self", "moment"] (defScope s_Ledger_raise_latest) := ⟨rfl, rfl, rfl, by decide +kernel, rfl, by decide +kernel, by decide +kernel⟩
abbrev s_Ledger_owned : Stmt := inClass (top 18) 17
theorem sc_Ledger_owned : FnScope ["self"] ["self"] (defScope s_Ledger_owned) := ⟨rfl, rfl, rfl, by decide +kernel, rfl, by decide +kernel, by decide +kernel⟩
abbrev s_Ledger_last : Stmt := inClass (top 18) 18
theorem sc_Ledger_last : FnScope ["self"] ["self"] (defScope s_Ledger_last) := ⟨rfl, rfl, rfl, by decide +kernel, rfl, by decide +kernel, by decide +kernel⟩
abbrev s_Ledger_locks : Stmt := inClass (top 18) 19
theorem sc_Ledger_locks : FnScope ["self", "key", "deal"] ["self"] (defScope s_Ledger_locks) := ⟨rfl, rfl, rfl, by decide +kernel, rfl, by decide +kernel, by decide +kernel⟩
abbrev s_Ledger_ready : Stmt := inClass (top 18) 20
theorem sc_Ledger_ready : FnScope ["self", "deal", "moment", "ops"] ["self"] (defScope s_Ledger_ready) := ⟨rfl, rfl, rfl, by decide +kernel, rfl, by decide +kernel, by decide +kernel⟩
abbrev s_Ledger_opened : Stmt := inClass (top 18) 21
theorem sc_Ledger_opened : FnScope ["self", "deal", "ops"] ["self"] (defScope s_Ledger_opened) := ⟨rfl, rfl, rfl, by decide +kernel, rfl, by decide +kernel, by decide +kernel⟩
abbrev s_Ledger_refused : Stmt := inClass (top 18) 22
theorem sc_Ledger_refused : FnScope ["self"] ["self"] (defScope s_Ledger_refused) := ⟨rfl, rfl, rfl, by decide +kernel, rfl, by decide +kernel, by decide +kernel⟩
abbrev s_Ledger_chosen : Stmt := inClass (top 18) 23
theorem sc_Ledger_chosen : FnScope ["self", "deal"] ["self", "deal"] (defScope s_Ledger_chosen) := ⟨rfl, rfl, rfl, by decide +kernel, rfl, by decide +kernel, by decide +kernel⟩
abbrev s_Ledger_verdicts : Stmt := inClass (top 18) 24
theorem sc_Ledger_verdicts : FnScope ["self"] ["self"] (defScope s_Ledger_verdicts) := ⟨rfl, rfl, rfl, by decide +kernel, rfl, by decide +kernel, by decide +kernel⟩
abbrev s_Ledger_ops_opened : Stmt := inClass (top 18) 25
theorem sc_Ledger_ops_opened : FnScope ["self", "deal"] ["self", "deal"] (defScope s_Ledger_ops_opened) := ⟨rfl, rfl, rfl, by decide +kernel, rfl, by decide +kernel, by decide +kernel⟩
abbrev s_Ledger_ended : Stmt := inClass (top 18) 26
theorem sc_Ledger_ended : FnScope ["self", "deal"] ["self", "deal"] (defScope s_Ledger_ended) := ⟨rfl, rfl, rfl, by decide +kernel, rfl, by decide +kernel, by decide +kernel⟩
abbrev s_Ledger_given : Stmt := inClass (top 18) 27
theorem sc_Ledger_given : FnScope ["self"] ["self"] (defScope s_Ledger_given) := ⟨rfl, rfl, rfl, by decide +kernel, rfl, by decide +kernel, by decide +kernel⟩
abbrev s_Ledger_taken : Stmt := inClass (top 18) 28
theorem sc_Ledger_taken : FnScope ["self"] ["self"] (defScope s_Ledger_taken) := ⟨rfl, rfl, rfl, by decide +kernel, rfl, by decide +kernel, by decide +kernel⟩
abbrev s_Ledger_newest : Stmt := inClass (top 18) 29
theorem sc_Ledger_newest : FnScope ["self", "key"] ["self", "key"] (defScope s_Ledger_newest) := ⟨rfl, rfl, rfl, by decide +kernel, rfl, by decide +kernel, by decide +kernel⟩
abbrev s_Ledger_value : Stmt := inClass (top 18) 30
theorem sc_Ledger_value : FnScope ["self", "key"] ["self", "key"] (defScope s_Ledger_value) := ⟨rfl, rfl, rfl, by decide +kernel, rfl, by decide +kernel, by decide +kernel⟩
abbrev s_Ledger_tells : Stmt := inClass (top 18) 31
theorem sc_Ledger_tells : FnScope ["self", "key", "moment"] ["self", "key", "moment"] (defScope s_Ledger_tells) := ⟨rfl, rfl, rfl, by decide +kernel, rfl, by decide +kernel, by decide +kernel⟩
abbrev s_Ledger_gave_later : Stmt := inClass (top 18) 32
theorem sc_Ledger_gave_later : FnScope ["self", "key", "moment"] ["self", "key", "moment"] (defScope s_Ledger_gave_later) := ⟨rfl, rfl, rfl, by decide +kernel, rfl, by decide +kernel, by decide +kernel⟩
abbrev s_Ledger_is_unsure : Stmt := inClass (top 18) 33
theorem sc_Ledger_is_unsure : FnScope ["self", "key", "moment"] ["self", "key", "moment"] (defScope s_Ledger_is_unsure) := ⟨rfl, rfl, rfl, by decide +kernel, rfl, by decide +kernel, by decide +kernel⟩
abbrev s_Ledger_twin : Stmt := inClass (top 18) 34
theorem sc_Ledger_twin : FnScope ["self"] ["self"] (defScope s_Ledger_twin) := ⟨rfl, rfl, rfl, by decide +kernel, rfl, by decide +kernel, by decide +kernel⟩
structure Blt (mg : Str → Option Value) : Prop where
  all : mg "all" = none
  any : mg "any" = none
  bool : mg "bool" = none
  int : mg "int" = none
  isinstance : mg "isinstance" = none
  len : mg "len" = none
  list : mg "list" = none
  max : mg "max" = none
  range : mg "range" = none
  sorted : mg "sorted" = none
  str : mg "str" = none
  tuple : mg "tuple" = none
  zip : mg "zip" = none
end FB

namespace FB
open PySem PySem.Spec PyProof.Rows L2
structure Txt (mg : Str → Option Value) : Prop where
  LEAST_KEY : ∃ t, mg "LEAST_KEY" = some (.str "a" t)
end FB

namespace FB
open PySem PySem.Spec PyProof.Rows L2
/-- a draw: at most 65 steps on -/
def spPickW : Sp := fun vs H Q _ => ∃ (d c : Addr) (cs : List Int) (n : Nat) (m : Int), vs = [.ref d, .int m] ∧ DrawAt H d c cs n ∧ 0 < m ∧ m < 1000000000000000 ∧ n < 1000000000 ∧
  ∀ (v : Int) (H' : Hp), 0 ≤ v → v < m → DrawAt H' d c cs (n + 65) → Keep d H H' → Q (.int v) H'
theorem dput_digits {c : Addr} {a l n : Int} {g b : Bool} : putK (drawKvs c a l n g) (tk "digits") (.bl b) = drawKvs c a l n b := by
  unfold putK drawKvs
  rw [if_pos (by simp)]
  simp only [List.map_cons, List.map_nil, k_cd, k_ad, k_ld, k_nd, if_false, if_true]
theorem dp_digits {H : Hp} {d c : Addr} {a l n : Int} {g b : Bool} : DPut (upd H d (.dK (drawKvs c a l n g))) d (.str "digits") (.bl b) (upd H d (.dK (drawKvs c a l n b))) := by
  have q := dput_of (k := tk "digits") (v := .bl b) (upd_same (H := H) (a := d) (o := .dK (drawKvs c a l n g))) five dput_digits
  rw [upd_upd] at q
  exact q
theorem upd_swap {H : Hp} {a b : Addr} {o u : HO} (h : a ≠ b) : upd (upd H a o) b u = upd (upd H b u) a o := by
  funext c
  unfold upd
  by_cases e1 : c = b
  · rw [if_pos e1, if_neg (fun z => h (z.symm.trans e1)), if_pos e1]
  · rw [if_neg e1]
    split
    · rfl
    · rfl
section
variable {P : Program} {w : World} {K : PySem.W.Frag} {mg : Str → Option Value} {base : Heap}
theorem ok_pickW {f : Addr} {fd : FuncData} (F : Fun K "_law_pick" "_law_pick" s_pick f fd) (B : Blt mg) : FnOk P w K mg base CX0 1 f fd ["_law_draw", "_law_many"] spPickW := by
  refine F.ok sc_pick (fun vs H Q E h => ?_) (fun cdv A outer s H vs Q E hr h => ?_)
  · obtain ⟨d, c, cs, n, m, rfl, _⟩ := h
    rfl
  · obtain ⟨d, c, cs, n, m, rfl, ⟨a, l, x, g, hd, hc, h0, h64, ha0, han⟩, hm, hm2, hn, q⟩ := h
    have hu := hu_of hr
    refine ⟨_, pss_cons (ps_set (i := 2) sc_pick.nd rfl (Or.inl rfl) (pe_dget hu (pv 0) pe_str (fun _ _ => rfl)))
    (pss_cons (ps_while PassesOwn.never (PW.pt (pw_and (pt_val (pe_dget hu (pv 0) pe_str (fun _ _ => rfl))) (pw_and1 (PW.pt (pw_or (pt_cmpR op_in_seq (pe_dget hu (pv 0) pe_str (fun _ _ => rfl)) (pe_tup (pa_cons pe_int (pa_cons (pe_un un_neg pe_int) pa_nil))) (by rfl)) (pw_or1 (pt_cmpR op_eq (pe_dget hu (pv 0) pe_str (fun _ _ => rfl)) pe_int (nomark _))))))))
      (pss_cons (ps_dput hu (pv 0) pe_str (pe_op op_add (pe_dget hu (pv 0) pe_str (fun _ _ => rfl)) pe_int) rfl)
      (pss_cons (ps_dput hu (pv 0) pe_str (pe_cmpR op_lt (pe_dget hu (pv 0) pe_str (fun _ _ => rfl)) (pe_callB call_len_seq (by rfl) B.len (by decide +kernel) (pa_cons (pv 2) pa_nil)) (nomark _)) rfl)
      (pss_cons (ps_dput hu (pv 0) pe_str (pe_ix ix_list (pv 2) (pe_op op_mod (pe_dget hu (pv 0) pe_str (fun _ _ => rfl)) (pe_callB call_len_seq (by rfl) B.len (by decide +kernel) (pa_cons (pv 2) pa_nil))) (fun _ _ => rfl)) rfl)
      (pss_one (ps_dput hu (pv 0) pe_str pe_int rfl))))))
    (pss_cons (ps_if (pt_val (pe_dget hu (pv 0) pe_str (fun _ _ => rfl)))
      (pss_cons (ps_set (i := 3) sc_pick.nd rfl (Or.inl rfl) (pe_op op_mod (pe_dget hu (pv 0) pe_str (fun _ _ => rfl)) (pv 1)))
      (pss_cons (ps_dput hu (pv 0) pe_str (pe_op op_fdivW (pe_dget hu (pv 0) pe_str (fun _ _ => rfl)) (pv 1)) rfl)
      (pss_cons (ps_dput hu (pv 0) pe_str (pe_op op_sub (pe_dget hu (pv 0) pe_str (fun _ _ => rfl)) pe_int) rfl)
      (pss_one (ps_ret (pv 3)))))) pss_nil)
    (pss_cons (ps_dput hu (pv 0) pe_str (pe_op op_add (pe_dget hu (pv 0) pe_str (fun _ _ => rfl)) pe_int) rfl)
    (pss_cons (ps_set (i := 4) sc_pick.nd rfl (Or.inl rfl) (pe_dget hu (pv 0) pe_str (fun _ _ => rfl)))
    (pss_cons (ps_set (i := 5) sc_pick.nd rfl (Or.inl rfl) (pe_op op_mod (pe_op op_mul (pe_op op_add (pe_op op_add (pe_op op_mod (pe_ix ix_list (pv 2) (pe_op op_mod (pv 4) (pe_callB call_len_seq (by rfl) B.len (by decide +kernel) (pa_cons (pv 2) pa_nil))) (fun _ _ => rfl)) pe_int) (pe_op op_mul (pe_op op_mul (pv 4) (pv 4)) pe_int)) pe_int) pe_int) pe_int))
    (pss_cons (ps_set (i := 6) sc_pick.nd rfl (Or.inl rfl) (pe_op op_mod (pe_op op_mul (pe_op op_add (pv 5) (pv 4)) (pe_op op_add (pe_op op_add (pe_op op_mod (pv 5) pe_int) (pe_op op_mul pe_int (pv 4))) pe_int)) pe_int))
    (pss_one (ps_ret (pe_op op_mod (pe_op op_fdivW (pv 6) pe_int) (pv 1)))))))))), ?_⟩
    have ncd : c ≠ d := ne_of hc hd (by intro z; cases z)
    have hlen : (0 : Int) < ((cs.map V.int).length : Int) := by
      rw [List.length_map]
      omega
    have hlenE : ((cs.map V.int).length : Int) = cs.length := by rw [List.length_map]
    have hdv : CDivW x m := wide_div (b := 60) hm (by omega) (by decide) (by decide)
    refine ⟨_, rfl, d, _, rfl, dget_of (k := tk "cells") hd (valV_pos rfl), ?_⟩
    refine ⟨fun k σ H' => ∃ a l x g, σ = [some (.ref d), some (.int m), some (.ref c), none, none, none, none] ∧ H' d = some (.dK (drawKvs c a l x g)) ∧ H' c = some (.lst (cs.map V.int)) ∧ Keep d H H' ∧ 0 ≤ a ∧ (g = true → a ≤ n + 63) ∧ (g = false → a ≤ n + 64) ∧ k = (if g = true then ((cs.length : Int) - a).toNat + 1 else 0),
      ⟨_, a, l, x, g, rfl, hd, hc, Keep.refl d H, ha0, fun _ => by omega, fun _ => by omega, rfl⟩, ?_⟩
    rintro k σ H' ⟨a, l, x, g, rfl, hd', hc', kp, a0, a1, a2, rfl⟩
    obtain ⟨H0, rfl⟩ : ∃ H0, H' = upd H0 d (.dK (drawKvs c a l x g)) := ⟨H', (upd_self hd').symm⟩
    refine ⟨_, rfl, d, _, rfl, dg_digits, _, rfl, ?_⟩
    cases g with
    | false =>
      refine iteF ?_
      refine iteF ?_
      have a2 := a2 rfl
      have hc2 : ∀ o, (upd H0 d o) c = some (.lst (cs.map V.int)) := fun o => by
        rw [upd_ne ncd] at hc' ⊢
        exact hc'
      have kp2 : ∀ o, Keep d H (upd H0 d o) := fun o b y e nb => by
        have := kp b y e nb
        rw [upd_ne nb] at this ⊢
        exact this
      have hsq : ∀ o, SqL K (upd H0 d o) c (cs.map V.int) := fun o => SqL.of (hc2 o)
      refine ⟨_, rfl, d, _, rfl, dg_digits, _, rfl, ?_⟩
      refine iteF ?_
      refine ⟨_, rfl, d, _, rfl, dg_at, _, _, rfl, rfl, _, rfl, d, _, rfl, dp_at, ?_⟩
      refine ⟨_, rfl, d, _, rfl, dg_at, ?_⟩
      obtain ⟨z, hz⟩ := at_mod h0 (a + 1)
      refine ⟨_, rfl, _, rfl, _, rfl, c, _, rfl, .inl (hsq _), _, _, rfl, rfl, hlen, c, _, _, _, rfl, rfl, hsq _, hz, _, _, rfl, rfl, (by show (0 : Int) < 2147483647; decide), _, rfl, _, rfl, _, _, rfl, rfl, .inl ⟨by omega, by omega⟩, _, _, rfl, rfl, .inr ⟨by decide, by decide⟩, _, _, rfl, rfl, _, _, rfl, rfl, _, _, rfl, rfl, .inr ⟨by decide, by decide⟩, _, _, rfl, rfl, (by show (0 : Int) < 2147483629; decide), ?_⟩
      generalize (z % 2147483647 + (a + 1) * (a + 1) * 7919 + 11) * 48271 = y
      have y0 := Int.emod_nonneg y (by decide : (2147483629 : Int) ≠ 0)
      have y1 := Int.emod_lt_of_pos y (by decide : (0 : Int) < 2147483629)
      refine ⟨_, rfl, _, rfl, _, _, rfl, rfl, _, rfl, _, _, rfl, rfl, (by show (0 : Int) < 40009; decide), _, rfl, _, _, rfl, rfl, .inl ⟨by decide, by decide⟩, _, _, rfl, rfl, _, _, rfl, rfl, _, _, rfl, rfl, .inl ⟨by omega, by omega⟩, _, _, rfl, rfl, (by show (0 : Int) < 1999999973; decide), ?_⟩
      exact ⟨_, rfl, _, _, rfl, rfl, wide_div (b := 8) (by decide) (by decide) (by decide) (by decide), _, rfl, _, _, rfl, rfl, hm, q _ _ (Int.emod_nonneg _ (by omega)) (Int.emod_lt_of_pos _ hm) ⟨_, _, _, _, upd_same, hc2 _, h0, h64, by omega, by omega⟩ (kp2 _)⟩
    | true =>
      refine iteT ?_
      have a1 := a1 rfl
      refine ⟨_, rfl, d, _, rfl, dg_number, _, rfl, by show 2 ≤ sizeLine; decide, fun t nt => ?_⟩
      have ndt : d ≠ t := ne_of_none upd_same nt
      have nct : c ≠ t := ne_of_none hc' nt
      rw [upd_swap ndt]
      have hc2 : ∀ o, (upd (upd H0 t (.tup [V.int 0, V.int (-1)])) d o) c = some (.lst (cs.map V.int)) := fun o => by
        rw [upd_ne ncd] at hc' ⊢
        rw [upd_ne nct]
        exact hc'
      have kp2 : ∀ o, Keep d H (upd (upd H0 t (.tup [V.int 0, V.int (-1)])) d o) := fun o b y e nb => by
        have h1 := kp b y e nb
        have h2 : b ≠ t := ne_of_none h1 nt
        rw [upd_ne nb] at h1 ⊢
        rw [upd_ne h2]
        exact h1
      have ht : (upd (upd H0 t (.tup [V.int 0, V.int (-1)])) d (.dK (drawKvs c a l x true))) t = some (.tup [V.int 0, V.int (-1)]) := by
        rw [upd_ne ndt.symm, upd_same]
      generalize upd H0 t (.tup [V.int 0, V.int (-1)]) = H1 at hc2 kp2 ht
      have hsq : ∀ o, SqL K (upd H1 d o) c (cs.map V.int) := fun o => SqL.of (hc2 o)
      refine ⟨t, _, rfl, .inr (SqT.of ht), rfl, rfl, _, rfl, ?_⟩
      refine ite2 (fun _ => ?_) (fun _ => ⟨_, rfl, d, _, rfl, dg_left, rfl, _, rfl, ite2 (fun _ => ?_) (fun _ => ?_)⟩)
      · refine iteT ?_
        obtain ⟨z, hz⟩ := at_mod h0 (a + 1)
        refine ⟨fun σ' H' => ∃ a' l x g, σ' = [some (.ref d), some (.int m), some (.ref c), none, none, none, none] ∧ H' d = some (.dK (drawKvs c a' l x g)) ∧ H' c = some (.lst (cs.map V.int)) ∧ Keep d H H' ∧ 0 ≤ a' ∧ a' = a + 1 ∧ (g = true → a' < cs.length), ?_, ?_⟩
        · rintro σ' H' ⟨a', l, x, g, rfl, h1, h2, h3, h4, rfl, h6⟩
          refine ⟨_, ?_, a + 1, l, x, g, rfl, h1, h2, h3, h4, fun e => ?_, fun e => by omega, rfl⟩
          · cases g with
            | false => rw [if_neg Bool.false_ne_true, if_pos rfl]; omega
            | true => have := h6 rfl; rw [if_pos rfl, if_pos rfl]; omega
          · have := h6 e
            omega
        · refine ⟨_, rfl, d, _, rfl, dg_at, _, _, rfl, rfl, _, rfl, d, _, rfl, dp_at, ?_⟩
          refine ⟨_, rfl, d, _, rfl, dg_at, _, rfl, c, _, rfl, .inl (hsq _), _, _, rfl, rfl, _, rfl, d, _, rfl, dp_digits, ?_⟩
          refine ⟨_, rfl, _, rfl, d, _, rfl, dg_at, _, rfl, c, _, rfl, .inl (hsq _), _, _, rfl, rfl, hlen, c, _, _, _, rfl, rfl, hsq _, hz, _, rfl, d, _, rfl, dp_number, ?_⟩
          refine ⟨_, rfl, d, _, rfl, dp_left, ?_⟩
          refine ⟨_, _, _, _, rfl, upd_same, hc2 _, kp2 _, by omega, rfl, fun e => ?_⟩
          have := of_decide_eq_true e
          rw [hlenE] at this
          exact this
      · obtain ⟨z, hz⟩ := at_mod h0 (a + 1)
        refine ⟨fun σ' H' => ∃ a' l x g, σ' = [some (.ref d), some (.int m), some (.ref c), none, none, none, none] ∧ H' d = some (.dK (drawKvs c a' l x g)) ∧ H' c = some (.lst (cs.map V.int)) ∧ Keep d H H' ∧ 0 ≤ a' ∧ a' = a + 1 ∧ (g = true → a' < cs.length), ?_, ?_⟩
        · rintro σ' H' ⟨a', l, x, g, rfl, h1, h2, h3, h4, rfl, h6⟩
          refine ⟨_, ?_, a + 1, l, x, g, rfl, h1, h2, h3, h4, fun e => ?_, fun e => by omega, rfl⟩
          · cases g with
            | false => rw [if_neg Bool.false_ne_true, if_pos rfl]; omega
            | true => have := h6 rfl; rw [if_pos rfl, if_pos rfl]; omega
          · have := h6 e
            omega
        · refine ⟨_, rfl, d, _, rfl, dg_at, _, _, rfl, rfl, _, rfl, d, _, rfl, dp_at, ?_⟩
          refine ⟨_, rfl, d, _, rfl, dg_at, _, rfl, c, _, rfl, .inl (hsq _), _, _, rfl, rfl, _, rfl, d, _, rfl, dp_digits, ?_⟩
          refine ⟨_, rfl, _, rfl, d, _, rfl, dg_at, _, rfl, c, _, rfl, .inl (hsq _), _, _, rfl, rfl, hlen, c, _, _, _, rfl, rfl, hsq _, hz, _, rfl, d, _, rfl, dp_number, ?_⟩
          refine ⟨_, rfl, d, _, rfl, dp_left, ?_⟩
          refine ⟨_, _, _, _, rfl, upd_same, hc2 _, kp2 _, by omega, rfl, fun e => ?_⟩
          have := of_decide_eq_true e
          rw [hlenE] at this
          exact this
      · refine ⟨_, rfl, d, _, rfl, dg_digits, _, rfl, ?_⟩
        refine iteT ?_
        refine ⟨_, rfl, d, _, rfl, dg_number, _, rfl, _, _, rfl, rfl, hm, ?_⟩
        refine ⟨_, rfl, d, _, rfl, dg_number, _, rfl, _, _, rfl, rfl, wide_div (b := 60) hm (by omega) (by decide) (by decide), _, rfl, d, _, rfl, dp_number, ?_⟩
        refine ⟨_, rfl, d, _, rfl, dg_left, _, _, rfl, rfl, _, rfl, d, _, rfl, dp_left, ?_⟩
        exact ⟨_, rfl, q _ _ (Int.emod_nonneg _ (by omega)) (Int.emod_lt_of_pos _ hm) ⟨_, _, _, _, upd_same, hc2 _, h0, h64, by omega, by omega⟩ (kp2 _)⟩
end
end FB

namespace FB
open PySem PySem.Spec PyProof.Rows L2
section
variable {P : Program} {w : World} {K : PySem.W.Frag} {mg : Str → Option Value} {base : Heap}
theorem ok_drawn {f : Addr} {fd : FuncData} (F : Fun K "_law_drawn" "_law_drawn" s_drawn f fd) (B : Blt mg) : FnOk P w K mg base CX0 1 f fd ["_law_script"] (spDrawn K) := by
  refine F.ok sc_drawn (fun vs H Q E h => ?_) (fun cdv A outer s H vs Q E hr h => ?_)
  · obtain ⟨a, ns, rfl, _⟩ := h
    rfl
  · obtain ⟨a, ns, rfl, hS, hl, q⟩ := h
    refine ⟨_, pss_cons (ps_set (i := 1) sc_drawn.nd rfl (Or.inl rfl) (pe_op op_cat (pe_callTy call_list_of (by rfl) B.list (by decide +kernel) (pa_cons (pv 0) pa_nil)) (pe_op op_rep (pe_lst (pa_cons pe_int pa_nil)) (pe_callTy call_int1 (by rfl) B.int (by decide +kernel) (pa_cons (pe_cmpR (op_eqD hr.units) (pv 0) (pe_lst pa_nil) (nomark _)) pa_nil)))))
    (pss_one (ps_ret (pe_disp (pps_cons pe_str (pv 1) (pps_cons pe_str pe_int (pps_cons pe_str pe_int (pps_cons pe_str (pe_op op_fdiv (pe_ix ix_list (pv 1) pe_int (fun _ _ => rfl)) pe_int) (pps_cons pe_str (pe_cmpR op_eq (pe_op op_mod (pe_ix ix_list (pv 1) pe_int (fun _ _ => rfl)) pe_int) pe_int (nomark _)) pps_nil))))) (by rfl) (by rfl) (fun z => by cases z) (by decide)))), ?_⟩
    refine ⟨_, rfl, a, _, rfl, .inl hS, fun l1 n1 => ?_⟩
    have s1 := same_new (o := .lst (ns.map V.int)) n1
    refine ⟨by show 1 ≤ sizeLine; decide, fun l2 n2 => ?_⟩
    have s2 := same_new (o := .lst [V.int 0]) n2
    refine ⟨_, rfl, Nat.zero_le _, fun l3 n3 => ?_⟩
    have s3 := same_new (o := .lst []) n3
    refine ⟨.list (ns.map PyData.int), .list [], .lst ((s1.trans (s2.trans s3)).seq hS) (dpall_int ns), .lst (SqL.of upd_same) .nil, shaped_ints ns, rfl, ?_⟩
    refine .inr ⟨_, rfl, ?_⟩
    have hb : ns = [] → PyData.eqv (.list (ns.map PyData.int)) (.list []) = true := fun e => by
      subst e
      rfl
    generalize PyData.eqv (.list (ns.map PyData.int)) (.list []) = b at hb
    have h2 : upd (upd (upd H l1 (.lst (ns.map V.int))) l2 (.lst [V.int 0])) l3 (.lst []) l2 = some (.lst [V.int 0]) := s3 _ _ upd_same
    have h1 : upd (upd (upd H l1 (.lst (ns.map V.int))) l2 (.lst [V.int 0])) l3 (.lst []) l1 = some (.lst (ns.map V.int)) := s3 _ _ (s2 _ _ upd_same)
    have hk : [V.int 0].length * (if b = true then (1 : Int) else 0).toNat ≤ sizeLine := by
      cases b <;> decide
    refine ⟨l2, _, _, rfl, rfl, h2, by cases b <;> decide, by cases b <;> decide, hk, fun l4 n4 => ?_⟩
    have s4 := same_new (o := .lst (List.replicate (if b = true then (1 : Int) else 0).toNat [V.int 0]).flatten) n4
    have ecs : ns.map V.int ++ (List.replicate (if b = true then (1 : Int) else 0).toNat [V.int 0]).flatten = (ns ++ List.replicate (if b = true then (1 : Int) else 0).toNat 0).map V.int := by
      cases b <;> simp
    have el : (ns.map V.int).length + (List.replicate (if b = true then (1 : Int) else 0).toNat [V.int 0]).flatten.length ≤ sizeLine := by
      have h : 64 ≤ sizeLine := by decide
      cases b <;> simp <;> omega
    refine ⟨l1, l4, _, _, rfl, rfl, s4 _ _ h1, upd_same, el, fun c nc => ?_⟩
    rw [ecs]
    have hlen : 0 < (ns ++ List.replicate (if b = true then (1 : Int) else 0).toNat 0).length ∧ (ns ++ List.replicate (if b = true then (1 : Int) else 0).toNat 0).length ≤ 64 := by
      rw [List.length_append, List.length_replicate]
      cases ns with
      | nil =>
        rw [hb rfl]
        decide
      | cons x r =>
        rw [List.length_cons] at hl ⊢
        omega
    generalize (ns ++ List.replicate (if b = true then (1 : Int) else 0).toNat 0) = cs at hlen
    have s5 := same_new (o := .lst (cs.map V.int)) nc
    have sm := s1.trans (s2.trans (s3.trans (s4.trans s5)))
    have hc5 : upd (upd (upd (upd (upd H l1 (.lst (ns.map V.int))) l2 (.lst [V.int 0])) l3 (.lst [])) l4 (.lst (List.replicate (if b = true then (1 : Int) else 0).toNat [V.int 0]).flatten)) c (.lst (cs.map V.int)) c = some (.lst (cs.map V.int)) := upd_same
    generalize upd (upd (upd (upd (upd H l1 (.lst (ns.map V.int))) l2 (.lst [V.int 0])) l3 (.lst [])) l4 (.lst (List.replicate (if b = true then (1 : Int) else 0).toNat [V.int 0]).flatten)) c (.lst (cs.map V.int)) = H5 at sm hc5
    obtain ⟨x, r, rfl⟩ : ∃ x r, cs = x :: r := by
      cases cs with
      | nil => exact absurd hlen.1 (by decide)
      | cons x r => exact ⟨x, r, rfl⟩
    refine fun d nd => ?_
    have s6 := same_new (o := .dK []) nd
    have hx : atI ((x :: r).map V.int) 0 = some (.int x) := atI_nat (j := 0) rfl
    refine ⟨_, rfl, _, rfl, c, _, _, _, rfl, rfl, SqL.of (s6 _ _ hc5), hx, _, _, rfl, rfl, ⟨by decide, by decide⟩, _, rfl, c, _, _, _, rfl, rfl, SqL.of (s6 _ _ hc5), hx, _, _, rfl, rfl, (by show (0 : Int) < 2; decide), rfl, upd_same, drawKvs c 0 60 (x / 2) (decide (V.int (x % 2) = V.int 0)), rfl, (by show 5 ≤ 15; decide), ?_⟩
    rw [merge_draw, upd_upd]
    have s7 := same_new (o := .dK (drawKvs c 0 60 (x / 2) (decide (V.int (x % 2) = V.int 0)))) nd
    exact q d c (x :: r) _ (sm.trans s7) (sm.free nd) ⟨0, 60, _, _, upd_same, s7 _ _ hc5, hlen.1, hlen.2, by decide, by decide⟩
end
end FB

namespace FB
open PySem PySem.Spec PyProof.Rows L2
def abc : Str := "abcdefghijklmnopqrstuvwxyz"
theorem abc_at : ∀ j : Nat, j < 26 → abc.cps.toList[j]? = some (97 + j) := by decide +kernel
theorem letter {v : Int} (h0 : 0 ≤ v) (h1 : v < 26) : ∃ c : Nat, atI abc.cps.toList v = some c ∧ 97 ≤ c ∧ c ≤ 122 := by
  obtain ⟨j, rfl⟩ : ∃ j : Nat, v = (j : Int) := ⟨v.toNat, (Int.toNat_of_nonneg h0).symm⟩
  exact ⟨97 + j, atI_nat (abc_at j (by omega)), by omega, by omega⟩
theorem abc_len : abc.length ≤ sizeLine := by decide +kernel
def menu : List Str := ["a", "b", "aa", "ab", "m", "mm", "z", "zzzzzzzz", "azzzzzzz", "aaaaaaaa"]
theorem menu_keys : ∀ z ∈ menu, IsKey z := by
  unfold IsKey
  decide +kernel
theorem at_list {α : Type} {xs : List α} {v : Int} (h0 : 0 ≤ v) (h1 : v < (xs.length : Int)) : ∃ x ∈ xs, atI xs v = some x := by
  obtain ⟨j, rfl⟩ : ∃ j : Nat, v = (j : Int) := ⟨v.toNat, (Int.toNat_of_nonneg h0).symm⟩
  have hj : j < xs.length := by omega
  exact ⟨xs[j], List.getElem_mem hj, atI_nat (List.getElem?_eq_getElem hj)⟩
def Letter (y : Str) : Prop := ∃ c : Nat, y = ⟨#[c]⟩ ∧ 97 ≤ c ∧ c ≤ 122
theorem key_k {c : Nat} (h : 97 ≤ c) (h2 : c ≤ 122) : IsKey (("k" : Str) ++ ⟨#[c]⟩) := by
  have e : ("k" : Str) ++ (⟨#[c]⟩ : Str) = ⟨#[107, c]⟩ := by rfl
  rw [e]
  refine ⟨by show 0 < 2; decide, by show 2 ≤ 8; decide, fun x hx => ?_⟩
  have : x = 107 ∨ x = c := by simpa using hx
  omega
theorem join_letters : ∀ ys : List Str, (∀ y ∈ ys, Letter y) → (Str.join ⟨#[]⟩ ys).length = ys.length ∧ ∀ c ∈ (Str.join ⟨#[]⟩ ys).cps.toList, 97 ≤ c ∧ c ≤ 122
  | [], _ => ⟨rfl, fun c hc => by simp [Str.join, Str.empty] at hc⟩
  | y :: r, h => by
    obtain ⟨c, rfl, h1, h2⟩ := h y (by simp)
    obtain ⟨e1, e2⟩ := join_letters r fun y hy => h y (by simp [hy])
    have ej : Str.join ⟨#[]⟩ (⟨#[c]⟩ :: r) = (⟨#[c]⟩ : Str) ++ Str.join ⟨#[]⟩ r := join_nil_cons _ _
    rw [ej]
    have ec : ((⟨#[c]⟩ : Str) ++ Str.join ⟨#[]⟩ r).cps = #[c] ++ (Str.join ⟨#[]⟩ r).cps := rfl
    refine ⟨?_, fun x hx => ?_⟩
    · show ((⟨#[c]⟩ : Str) ++ Str.join ⟨#[]⟩ r).cps.size = _
      rw [ec]
      have : (Str.join ⟨#[]⟩ r).cps.size = r.length := e1
      simp [this]
      omega
    · rw [ec] at hx
      have : x = c ∨ x ∈ (Str.join ⟨#[]⟩ r).cps.toList := by simpa using hx
      rcases this with q | q
      · omega
      · exact e2 x q
theorem sum_letters : ∀ ys : List Str, (∀ y ∈ ys, Letter y) → (ys.map (·.length)).sum = ys.length
  | [], _ => rfl
  | y :: r, h => by
    obtain ⟨c, rfl, _⟩ := h y (by simp)
    have ih := sum_letters r fun y hy => h y (by simp [hy])
    rw [List.map_cons, List.sum_cons, ih, List.length_cons]
    show 1 + r.length = r.length + 1
    omega
theorem txt_join (ys : List Str) : Txt.join ("" : Str) ys = Str.join ⟨#[]⟩ ys := by
  have h := join_plain_closes ("" : Str) ys
  exact (beq_iff_eq.mp h)
end FB

namespace FB
open PySem PySem.Spec PyProof.Rows L2
def menu2 : List Str := ["a", "aa", "ab", "b", "ba", "m", "ma", "mm", "mn", "n", "y", "z", "zz"]
def menu3 : List Str := ["zzzzzzzz", "azzzzzzz", "mnopqrst"]
theorem menu2_keys : ∀ z ∈ menu2 ++ menu3, IsKey z := by
  unfold IsKey
  decide +kernel
def spKeyW : Sp := fun vs H Q _ => ∃ (d c : Addr) (cs : List Int) (n : Nat), vs = [.ref d] ∧ DrawAt H d c cs n ∧ n < 900000000 ∧ ∀ (z : Str) (H' : Hp), IsKey z → DrawAt H' d c cs (n + 400) → Keep d H H' → Q (.str z) H'
section
variable {P : Program} {w : World} {K : PySem.W.Frag} {mg : Str → Option Value} {base : Heap}
theorem ok_keyW {f : Addr} {fd : FuncData} (F : Fun K "_law_key" "_law_key" s_key f fd) (B : Blt mg) (D_pick : DefOk P w K mg base 1 "_law_pick" ["_law_draw", "_law_many"] spPickW) : FnOk P w K mg base CX0 2 f fd ["_law_draw"] spKeyW := by
  refine F.ok sc_key (fun vs H Q E h => ?_) (fun cdv A outer s H vs Q E hr h => ?_)
  · obtain ⟨d, c0, cs, n, rfl, _⟩ := h
    rfl
  · obtain ⟨d, c0, cs, n, rfl, hD, hn, q⟩ := h
    refine ⟨_, pss_cons (ps_set (i := 1) sc_key.nd rfl (Or.inr rfl) pe_str)
    (pss_cons (ps_set (i := 2) sc_key.nd rfl (Or.inl rfl) (pe_lst (pa_cons pe_str (pa_cons pe_str (pa_cons pe_str (pa_cons pe_str (pa_cons pe_str (pa_cons pe_str (pa_cons pe_str (pa_cons pe_str (pa_cons pe_str (pa_cons pe_str (pa_cons pe_str (pa_cons pe_str (pa_cons pe_str pa_nil)))))))))))))))
    (pss_cons (ps_set (i := 2) sc_key.nd rfl (Or.inl rfl) (pe_op op_cat (pv 2) (pe_lst (pa_cons pe_str (pa_cons pe_str (pa_cons pe_str pa_nil))))))
    (pss_cons (ps_if (pt_cmpR op_gt (pe_def D_pick (hr.mono (by omega)) (by rfl) (pa_cons (pv 0) (pa_cons pe_int pa_nil))) pe_int (nomark _))
      (pss_one (ps_ret (pe_ix ix_list (pv 2) (pe_def D_pick (hr.mono (by omega)) (by rfl) (pa_cons (pv 0) (pa_cons pe_int pa_nil))) (fun _ _ => rfl)))) pss_nil)
    (pss_one (ps_ret (pe_join pe_str (pe_lc (own := [("_law_k", 3)]) (g := gName 3) (tt := tYes) rfl sc_key.nd (pi_range1 (by rfl) B.range (pa_cons (pe_op op_add pe_int (pe_def D_pick (hr.mono (by omega)) (by rfl) (pa_cons (pv 0) (pa_cons pe_int pa_nil)))) pa_nil)) (blkOk_by (own := [("_law_k", 3)]) (N := ["_law_draw", "_law_letters", "_law_some", "_law_k"]) (sc := defScope s_key) (by decide +kernel)) (fun _ _ _ _ _ => pg_name (i := 3) sc_key.nd rfl (Or.inl rfl)) (fun _ _ _ _ _ => pts_nil) (fun _ _ _ _ _ => pe_ix ix_str (pv 1) (pe_def D_pick (hr.mono (by omega)) (by rfl) (pa_cons (pv 0) (pa_cons pe_int pa_nil))) (fun _ _ => rfl))))))))), ?_⟩
    refine ⟨by show 13 ≤ sizeLine; decide, fun l1 n1 => ?_⟩
    have s1 := same_new (o := .lst (menu2.map V.str)) n1
    refine ⟨_, rfl, by show 3 ≤ sizeLine; decide, fun l2 n2 => ?_⟩
    have s2 := same_new (o := .lst (menu3.map V.str)) n2
    refine ⟨l1, l2, menu2.map V.str, menu3.map V.str, rfl, rfl, s2 _ _ upd_same, upd_same, by show 16 ≤ sizeLine; decide, fun l nl => ?_⟩
    have s3 := same_new (o := .lst (menu2.map V.str ++ menu3.map V.str)) nl
    have hl : upd (upd (upd H l1 (.lst (menu2.map V.str))) l2 (.lst (menu3.map V.str))) l (.lst (menu2.map V.str ++ menu3.map V.str)) l = some (.lst ((menu2 ++ menu3).map V.str)) := by rw [upd_same, List.map_append]
    have t := s1.trans (s2.trans s3)
    have D0 := hD.same t
    have nld : l ≠ d := (hD.same (s1.trans s2)).ne nl
    have k0 : Keep d H _ := keep_same t
    refine ⟨_, rfl, d, c0, cs, n, 3, rfl, D0, by decide, by decide, by omega, fun v H1 v0 v1 D1 k1 => ?_⟩
    refine ⟨_, _, rfl, rfl, _, rfl, ite2 (fun e => ?_) (fun e => ?_)⟩
    · refine ⟨_, rfl, _, rfl, d, c0, cs, _, 16, rfl, D1, by decide, by decide, by omega, fun v2 H2 w0 w1 D2 k2 => ?_⟩
      obtain ⟨z', hz', ha⟩ := at_list (xs := (menu2 ++ menu3).map V.str) w0 (by show v2 < 16; exact w1)
      obtain ⟨z, hz, rfl⟩ := List.mem_map.mp hz'
      refine ⟨l, _, _, _, rfl, rfl, SqL.of (k2 _ _ (k1 _ _ hl nld) nld), ha, ?_⟩
      exact q z H2 (menu2_keys z hz) (D2.mono (by omega)) (k0.trans (k1.trans k2))
    · refine ⟨⟨_, rfl⟩, _, rfl, d, c0, cs, _, 3, rfl, D1, by decide, by decide, by omega, fun v2 H2 w0 w1 D2 k2 => ?_⟩
      obtain ⟨kvs2, hd2⟩ := D2.is
      refine ⟨_, _, rfl, rfl, _, rfl, by omega, by omega, fun D nD => lc_range (lo := 0) (n := (1 + v2).toNat) (fun i H' => ∃ ys : List Str, ys.length = i ∧ (∀ y ∈ ys, Letter y) ∧ H' D = some (.lst (ys.map V.str)) ∧ DrawAt H' d c0 cs (n + 130 + 65 * i) ∧ Keep d H2 H') ?_ ?_ ?_⟩
      · exact ⟨[], rfl, fun y hy => by simp at hy, upd_same, (D2.same (same_new nD)).mono (by omega), keep_same (same_new nD)⟩
      · rintro i H' hi ⟨ys, hl, hy, hDl, D', k'⟩
        have nDd : D ≠ d := (ne_of_none hd2 nD).symm
        refine ⟨rfl, ?_⟩
        refine ⟨_, rfl, _, rfl, d, c0, cs, _, 26, rfl, D', by decide, by decide, by omega, fun v3 H3 x0 x1 D3 k3 => ?_⟩
        obtain ⟨c, hc, c1, c2⟩ := letter x0 x1
        have hD3 := k3 _ _ hDl nDd
        refine ⟨abc, _, c, rfl, rfl, abc_len, hc, _, hD3, small1000 (by rw [List.length_map]; omega), ys ++ [⟨#[c]⟩], by rw [List.length_append, hl]; rfl, fun y my => ?_, ?_, ?_, ?_⟩
        · rcases List.mem_append.mp my with m | m
          · exact hy y m
          · exact ⟨c, by simpa using m, c1, c2⟩
        · rw [upd_same, List.map_append]
          rfl
        · exact (D3.upd nDd (D2.neC nD)).mono (by omega)
        · exact keep_mut (k'.trans k3) nD
      · rintro H' ⟨ys, hl, hy, hDl, D', k'⟩
        refine ⟨_, D, ys, rfl, rfl, .inl (SqL.of hDl), by rw [sum_letters ys hy]; show ys.length + ys.length * 0 ≤ _; omega, ?_⟩
        rw [txt_join]
        obtain ⟨e1, e2⟩ := join_letters ys hy
        exact q _ H' ⟨by rw [e1]; omega, by rw [e1]; omega, e2⟩ (D'.mono (by omega)) (k0.trans (k1.trans (k2.trans k')))
end
end FB

namespace FB
open PySem PySem.Spec PyProof.Rows L2
/-! ### keys, spans, ops that the ledger's laws draw -/
structure KeyList (ks : List Str) : Prop where
  key : ∀ k ∈ ks, IsKey k
  up : ks.Pairwise (fun a b => ltS a b = true)
  one : 1 ≤ ks.length
  few : ks.length ≤ 12
def spKeysW : Sp := fun vs H Q _ => ∃ (d c : Addr) (cs : List Int) (n : Nat), vs = [.ref d] ∧ DrawAt H d c cs n ∧ n < 800000000 ∧ ∀ (l : Addr) (ks : List Str) (H' : Hp), KeyList ks → H' l = some (.lst (ks.map V.str)) → DrawAt H' d c cs (n + 6000) → Keep d H H' → H l = none → Q (.ref l) H'
theorem cutHi (xs : List V) (m : Nat) : cutV xs none (some (m : Int)) = xs.take m := by
  unfold cutV
  rw [show HT.sIx xs.length xs.length (some (m : Int)) = min m xs.length from HT.sIx_nat xs.length xs.length m, HT.sIx_none]
  rw [List.drop_zero, Nat.sub_zero]
  rw [List.take_eq_take_iff]
  omega
theorem free_of {H H' : Hp} {d l : Addr} (k : Keep d H H') (hd : ∃ kvs, H' d = some (.dK kvs)) (h : H' l = none) : H l = none := keep_free k (by obtain ⟨kvs, e⟩ := hd; exact ⟨_, e⟩) h
section
variable {P : Program} {w : World} {K : PySem.W.Frag} {mg : Str → Option Value} {base : Heap}
theorem ok_keysW {f : Addr} {fd : FuncData} (F : Fun K "_law_keys" "_law_keys" s_keys f fd) (B : Blt mg) (D_pick : DefOk P w K mg base 1 "_law_pick" ["_law_draw", "_law_many"] spPickW) (D_key : DefOk P w K mg base 2 "_law_key" ["_law_draw"] spKeyW) : FnOk P w K mg base CX0 3 f fd ["_law_draw"] spKeysW := by
  refine F.ok sc_keys (fun vs H Q E h => ?_) (fun cdv A outer s H vs Q E hr h => ?_)
  · obtain ⟨d, c0, cs, n, rfl, _⟩ := h
    rfl
  · obtain ⟨d, c, cs, n, rfl, hD, hn, q⟩ := h
    have hu := hu_of hr
    refine ⟨_, pss_cons (ps_set (i := 1) sc_keys.nd rfl (Or.inl rfl) pe_dnewK)
    (pss_cons (ps_set (i := 2) sc_keys.nd rfl (Or.inl rfl) (pe_op op_add pe_int (pe_def D_pick (hr.mono (by omega)) (by rfl) (pa_cons (pv 0) (pa_cons pe_int pa_nil)))))
    (pss_cons (ps_if (pt_cmpR op_eq (pe_def D_pick (hr.mono (by omega)) (by rfl) (pa_cons (pv 0) (pa_cons pe_int pa_nil))) pe_int (nomark _))
      (pss_one (ps_set (i := 2) sc_keys.nd rfl (Or.inl rfl) (pe_op op_add pe_int (pe_def D_pick (hr.mono (by omega)) (by rfl) (pa_cons (pv 0) (pa_cons pe_int pa_nil)))))) pss_nil)
    (pss_cons (ps_for PassesOwn.never rfl (pi_range1 (by rfl) B.range (pa_cons (pv 2) pa_nil)) (pg_name (i := 3) sc_keys.nd rfl (Or.inl rfl))
      (pss_one (ps_dput hu (pv 1) (pe_def D_key (hr.mono (by omega)) (by rfl) (pa_cons (pv 0) pa_nil)) pe_bl rfl)))
    (pss_one (ps_ret (pe_slice sl_list (pe_callB (call_sortedD rfl) (by rfl) B.sorted (by decide +kernel) (pa_cons (pv 1) pa_nil)) po_none (po_some pe_int))))))), ?_⟩
    intro kd nkd
    have s1 := same_new (o := .dK []) nkd
    have nkdd : kd ≠ d := hD.ne nkd
    have nkdc : kd ≠ c := hD.neC nkd
    refine ⟨_, rfl, d, c, cs, n, 5, rfl, hD.same s1, by decide, by decide, by omega, fun v H1 v0 v1 D1 k1 => ?_⟩
    have hk1 := k1 _ _ (upd_same (H := H) (a := kd) (o := .dK [])) nkdd
    have K1 := (keep_same s1).trans k1
    refine ⟨_, _, rfl, rfl, ?_⟩
    refine ⟨_, rfl, d, c, cs, _, 4, rfl, D1, by decide, by decide, by omega, fun v' H2 v0' v1' D2 k2 => ?_⟩
    have hk2 := k2 _ _ hk1 nkdd
    have K2 := K1.trans k2
    refine ⟨rfl, _, rfl, ite2 (fun e => ?_) (fun e => ?_)⟩
    · refine ⟨_, rfl, d, c, cs, _, 7, rfl, D2, by decide, by decide, by omega, fun u3 H3 w0 w1 D3 k3 => ?_⟩
      refine ⟨_, _, rfl, rfl, ?_⟩
      have hm1 : 2 ≤ 8 + u3 := by omega
      have hm2 : 8 + u3 ≤ 14 := by omega
      have hk3 := k3 _ _ hk2 nkdd
      have K3 := K2.trans k3
      have D3 := D3.mono (m := n + 195) (by omega)
      refine ⟨_, rfl, 8 + u3, rfl, by omega, by omega, for_range (lo := 0) (n := (8 + u3).toNat) (fun i σ H' => ∃ v3, ∃ ks : List Str, σ = [some (.ref d), some (.ref kd), some (.int (8 + u3)), v3] ∧ ks.length ≤ i ∧ (0 < i → ks ≠ []) ∧ (∀ k ∈ ks, IsKey k) ∧ ks.Nodup ∧ H' kd = some (.dK (dkv V.bl (ks.map fun k => (k, true)))) ∧ DrawAt H' d c cs (n + 195 + 400 * i) ∧ Keep d H H') ?_ ?_ ?_⟩
      · exact ⟨none, [], rfl, Nat.zero_le _, fun h => absurd h (by omega), fun k hk => by simp at hk, List.nodup_nil, hk3, D3, K3⟩
      · rintro i σ H' hi ⟨v3, ks, rfl, hl, hne, hk, nd, hkd, D', k'⟩
        refine ⟨_, rfl, _, rfl, d, c, cs, _, rfl, D', by omega, fun z H4 hz D4 k4 => ?_⟩
        have hkd4 := k4 _ _ hkd nkdd
        have ek : (ks.map fun k => (k, true)).map (·.1) = ks := by rw [List.map_map]; exact List.map_id' _
        refine ⟨kd, _, rfl, DPut.k (k := tk z) hkd4 (by rw [len_dkv, List.length_map]; exact small1000 (by omega)), ?_⟩
        rw [put_dkv]
        have hD5 := (D4.upd (o := .dK (dkv V.bl (setS (ks.map fun k => (k, true)) z true))) nkdd nkdc).mono (m := n + 195 + 400 * (i + 1)) (by omega)
        have hK5 := keep_mut (o := .dK (dkv V.bl (setS (ks.map fun k => (k, true)) z true))) (k'.trans k4) nkd
        by_cases hin : z ∈ ks
        · refine ⟨_, ks, rfl, by omega, fun _ h => ?_, hk, nd, ?_, hD5, hK5⟩
          · rw [h] at hin; cases hin
          · rw [upd_same]
            congr 2
            unfold setS
            rw [if_pos (List.any_eq_true.mpr ⟨(z, true), List.mem_map.mpr ⟨z, hin, rfl⟩, decide_eq_true rfl⟩), List.map_map]
            congr 1
            refine List.map_congr_left fun x _ => ?_
            show (if x = z then (x, true) else (x, true)) = (x, true)
            split <;> rfl
        · refine ⟨_, ks ++ [z], rfl, by rw [List.length_append]; show ks.length + 1 ≤ _; omega, fun _ h => by simp at h, fun x hx => ?_, nodup_snoc nd hin, ?_, hD5, hK5⟩
          · rcases List.mem_append.mp hx with h | h
            · exact hk x h
            · rw [show x = z by simpa using h]; exact hz
          · rw [upd_same, set_new (get_none.mpr (by rw [ek]; exact hin)), List.map_append]
            rfl
      · rintro σ H4 ⟨v3, ks, rfl, hl, hne, hk, nd, hkd, D4, K4⟩
        refine ⟨_, rfl, kd, _, ks, rfl, .inl hkd, by unfold dkv; rw [List.map_map, List.map_map]; rfl, by omega, fun ys p perm srt np => ?_⟩
        have s5 := same_new (o := .lst (ys.map V.str)) np
        have hyl : ys.length = ks.length := perm.length_eq
        have hst := strict_of_sorted ys srt (perm.nodup_iff.mpr nd)
        refine ⟨_, rfl, p, _, rfl, SqL.of upd_same, fun l nl => ?_⟩
        have e12 : cutV (ys.map V.str) none (some 12) = (ys.take 12).map V.str := by rw [show (12 : Int) = ((12 : Nat) : Int) from rfl, cutHi, List.map_take]
        rw [e12]
        have s6 := same_new (o := .lst ((ys.take 12).map V.str)) nl
        have hn0 : ks ≠ [] := hne (by omega)
        have hpos : 0 < ks.length := List.length_pos_iff.mpr hn0
        refine q l (ys.take 12) _ ⟨fun k h => hk k (perm.mem_iff.mp (List.mem_of_mem_take h)), hst.sublist (List.take_sublist _ _), by rw [List.length_take]; omega, by rw [List.length_take]; omega⟩ upd_same ((D4.same (s5.trans s6)).mono (by omega)) (K4.trans (keep_same (s5.trans s6))) ?_
        have D5 := D4.same s5
        exact free_of (K4.trans (keep_same s5)) D5.is nl
    · have hm1 : 2 ≤ 2 + v := by omega
      have hm2 : 2 + v ≤ 14 := by omega
      have hk3 := hk2
      have K3 := K2
      have D3 := D2.mono (m := n + 195) (by omega)
      refine ⟨_, rfl, 2 + v, rfl, by omega, by omega, for_range (lo := 0) (n := (2 + v).toNat) (fun i σ H' => ∃ v3, ∃ ks : List Str, σ = [some (.ref d), some (.ref kd), some (.int (2 + v)), v3] ∧ ks.length ≤ i ∧ (0 < i → ks ≠ []) ∧ (∀ k ∈ ks, IsKey k) ∧ ks.Nodup ∧ H' kd = some (.dK (dkv V.bl (ks.map fun k => (k, true)))) ∧ DrawAt H' d c cs (n + 195 + 400 * i) ∧ Keep d H H') ?_ ?_ ?_⟩
      · exact ⟨none, [], rfl, Nat.zero_le _, fun h => absurd h (by omega), fun k hk => by simp at hk, List.nodup_nil, hk3, D3, K3⟩
      · rintro i σ H' hi ⟨v3, ks, rfl, hl, hne, hk, nd, hkd, D', k'⟩
        refine ⟨_, rfl, _, rfl, d, c, cs, _, rfl, D', by omega, fun z H4 hz D4 k4 => ?_⟩
        have hkd4 := k4 _ _ hkd nkdd
        have ek : (ks.map fun k => (k, true)).map (·.1) = ks := by rw [List.map_map]; exact List.map_id' _
        refine ⟨kd, _, rfl, DPut.k (k := tk z) hkd4 (by rw [len_dkv, List.length_map]; exact small1000 (by omega)), ?_⟩
        rw [put_dkv]
        have hD5 := (D4.upd (o := .dK (dkv V.bl (setS (ks.map fun k => (k, true)) z true))) nkdd nkdc).mono (m := n + 195 + 400 * (i + 1)) (by omega)
        have hK5 := keep_mut (o := .dK (dkv V.bl (setS (ks.map fun k => (k, true)) z true))) (k'.trans k4) nkd
        by_cases hin : z ∈ ks
        · refine ⟨_, ks, rfl, by omega, fun _ h => ?_, hk, nd, ?_, hD5, hK5⟩
          · rw [h] at hin; cases hin
          · rw [upd_same]
            congr 2
            unfold setS
            rw [if_pos (List.any_eq_true.mpr ⟨(z, true), List.mem_map.mpr ⟨z, hin, rfl⟩, decide_eq_true rfl⟩), List.map_map]
            congr 1
            refine List.map_congr_left fun x _ => ?_
            show (if x = z then (x, true) else (x, true)) = (x, true)
            split <;> rfl
        · refine ⟨_, ks ++ [z], rfl, by rw [List.length_append]; show ks.length + 1 ≤ _; omega, fun _ h => by simp at h, fun x hx => ?_, nodup_snoc nd hin, ?_, hD5, hK5⟩
          · rcases List.mem_append.mp hx with h | h
            · exact hk x h
            · rw [show x = z by simpa using h]; exact hz
          · rw [upd_same, set_new (get_none.mpr (by rw [ek]; exact hin)), List.map_append]
            rfl
      · rintro σ H4 ⟨v3, ks, rfl, hl, hne, hk, nd, hkd, D4, K4⟩
        refine ⟨_, rfl, kd, _, ks, rfl, .inl hkd, by unfold dkv; rw [List.map_map, List.map_map]; rfl, by omega, fun ys p perm srt np => ?_⟩
        have s5 := same_new (o := .lst (ys.map V.str)) np
        have hyl : ys.length = ks.length := perm.length_eq
        have hst := strict_of_sorted ys srt (perm.nodup_iff.mpr nd)
        refine ⟨_, rfl, p, _, rfl, SqL.of upd_same, fun l nl => ?_⟩
        have e12 : cutV (ys.map V.str) none (some 12) = (ys.take 12).map V.str := by rw [show (12 : Int) = ((12 : Nat) : Int) from rfl, cutHi, List.map_take]
        rw [e12]
        have s6 := same_new (o := .lst ((ys.take 12).map V.str)) nl
        have hn0 : ks ≠ [] := hne (by omega)
        have hpos : 0 < ks.length := List.length_pos_iff.mpr hn0
        refine q l (ys.take 12) _ ⟨fun k h => hk k (perm.mem_iff.mp (List.mem_of_mem_take h)), hst.sublist (List.take_sublist _ _), by rw [List.length_take]; omega, by rw [List.length_take]; omega⟩ upd_same ((D4.same (s5.trans s6)).mono (by omega)) (K4.trans (keep_same (s5.trans s6))) ?_
        have D5 := D4.same s5
        exact free_of (K4.trans (keep_same s5)) D5.is nl
end
end FB

namespace FB
open PySem PySem.Spec PyProof.Rows L2
def spSpansW : Sp := fun vs H Q _ => ∃ (d c : Addr) (cs : List Int) (n : Nat) (a : Addr) (ks : List Str) (m : Int), vs = [.ref d, .ref a, .int m] ∧ DrawAt H d c cs n ∧ n < 800000000 ∧ H a = some (.lst (ks.map V.str)) ∧ KeyList ks ∧ 0 < m ∧ m < 1000 ∧
  ∀ (l : Addr) (zs : List Sp3) (H' : Hp), SpanList zs → SpansAt H' l zs → DrawAt H' d c cs (n + 2000) → Keep d H H' → H l = none → Q (.ref l) H'
def spHasW (K : PySem.W.Frag) : Sp := fun vs H Q _ => ∃ (p : Addr) (l h k : Str), vs = [.ref p, .str k] ∧ SqT K H p [.str l, .str h] ∧ Q (.bl (hasB l h k)) H
def ownsB (zs : List Sp2) (k : Str) : Bool := zs.any fun z => hasB z.1 z.2 k
def spOwnsW : Sp := fun vs H Q _ => ∃ (a : Addr) (zs : List Sp3) (k : Str), vs = [.ref a, .str k] ∧ SpansAt H a zs ∧ zs.length ≤ 900 ∧ ∀ H', Same H H' → Q (.bl (ownsB (zs.map (·.2)) k)) H'
section
variable {P : Program} {w : World} {K : PySem.W.Frag} {mg : Str → Option Value} {base : Heap}
theorem ok_spansW {f : Addr} {fd : FuncData} (F : Fun K "_law_spans" "_law_spans" s_spans f fd) (B : Blt mg) (D_pick : DefOk P w K mg base 1 "_law_pick" ["_law_draw", "_law_many"] spPickW) : FnOk P w K mg base CX0 2 f fd ["_law_draw", "_law_keys_here", "_law_often"] spSpansW := by
  refine F.ok sc_spans (fun vs H Q E h => ?_) (fun cdv A outer s H vs Q E hr h => ?_)
  · obtain ⟨d, c0, cs, n, a, ks, m, rfl, _⟩ := h
    rfl
  · obtain ⟨d, c, cs, n, a, ks, m, rfl, hD, hn, ha, hK, hm0, hm1, q⟩ := h
    refine ⟨_, pss_cons (ps_set (i := 3) sc_spans.nd rfl (Or.inr rfl) (pe_op op_cat (pe_op op_cat (pe_lst (pa_cons pe_str pa_nil)) (pe_lc (own := [("_law_key_here", 4)]) (g := gName 4) rfl sc_spans.nd (pi_list (pv 1)) (blkOk_by (own := [("_law_key_here", 4)]) (N := ["_law_draw", "_law_keys_here", "_law_often", "_law_bounds", "_law_key_here", "_law_k"]) (sc := defScope s_spans) (by decide +kernel)) (fun _ _ _ _ _ => pg_name (i := 4) sc_spans.nd rfl (Or.inl rfl)) (fun _ _ _ _ _ => pts_one (PW.pt (pw_and (pt_cmpR op_eq (pe_def D_pick (hr.mono (by omega)) (by rfl) (pa_cons (pv 0) (pa_cons pe_int pa_nil))) pe_int (nomark _)) (pw_and1 (pt_cmpR op_ne (pv 4) pe_str (nomark _)))))) (fun _ _ _ _ _ => pv 4))) (pe_lst (pa_cons pe_str pa_nil))))
    (pss_one (ps_ret (pe_lc (own := [("_law_k", 5)]) (g := gName 5) rfl sc_spans.nd (pi_range1 (by rfl) B.range (pa_cons (pe_op op_sub (pe_callB call_len_seq (by rfl) B.len (by decide +kernel) (pa_cons (pv 3) pa_nil)) pe_int) pa_nil)) (blkOk_by (own := [("_law_k", 5)]) (N := ["_law_draw", "_law_keys_here", "_law_often", "_law_bounds", "_law_key_here", "_law_k"]) (sc := defScope s_spans) (by decide +kernel)) (fun _ _ _ _ _ => pg_name (i := 5) sc_spans.nd rfl (Or.inl rfl)) (fun _ _ _ _ _ => pts_one (pt_cmpR op_gt (pe_def D_pick (hr.mono (by omega)) (by rfl) (pa_cons (pv 0) (pa_cons (pv 2) pa_nil))) pe_int (nomark _))) (fun _ _ _ _ _ => pe_tup (pa_cons (pe_ix (ix_listK (K := K) rfl) (pv 3) (pv 5) (fun _ _ => rfl)) (pa_cons (pe_ix (ix_listK (K := K) rfl) (pv 3) (pe_op op_add (pv 5) pe_int) (fun _ _ => rfl)) pa_nil)))))), ?_⟩
    have nad : a ≠ d := by
      obtain ⟨kvs, e⟩ := hD.is
      exact ne_of ha e (by intro z; cases z)
    have hkl := hK.few
    refine ⟨by show 1 ≤ sizeLine; decide, fun l1 n1 => ?_⟩
    have s1 := same_new (o := .lst [V.str ""]) n1
    have D1 := hD.same s1
    have nl1d : l1 ≠ d := hD.ne n1
    refine ⟨_, rfl, a, rfl, ⟨_, SqL.of (s1 _ _ ha)⟩, fun D nD => ?_⟩
    have nDd : D ≠ d := D1.ne nD
    have nDc : D ≠ c := D1.neC nD
    refine lc_list (K := K) (a := a) (xs := ks.map V.str) (fun i H' => ∃ ys : List Str, H' D = some (.lst (ys.map V.str)) ∧ ys.Sublist (ks.take i) ∧ (∀ y ∈ ys, y ≠ "a") ∧ DrawAt H' d c cs (n + 65 * i) ∧ Keep d (upd H l1 (.lst [V.str ""])) H') ?_ ?_ ?_ ?_
    · exact ⟨[], upd_same, List.nil_sublist _, fun y hy => by simp at hy, (D1.same (same_new nD)).mono (by omega), keep_same (same_new nD)⟩
    · rintro i H' _ ⟨ys, _, _, _, _, k'⟩
      exact SqL.of (k' _ _ (s1 _ _ ha) nad)
    · rintro i x H' hi ⟨ys, hDl, sub, hna, D', k'⟩
      rw [List.getElem?_map] at hi
      obtain ⟨k, hk, rfl⟩ := Option.map_eq_some_iff.mp hi
      have hil : i < ks.length := (List.getElem?_eq_some_iff.mp hk).1
      have et : ks.take (i + 1) = ks.take i ++ [k] := by rw [List.take_add_one, hk]; rfl
      refine ⟨rfl, _, rfl, d, c, cs, _, 2, rfl, D', by decide, by decide, by omega, fun v H2 v0 v1 D2 k2 => ?_⟩
      have hD2 := k2 _ _ hDl nDd
      have sub' : ys.Sublist (ks.take (i + 1)) := by rw [et]; exact sub.trans (List.sublist_append_left _ _)
      have hyl : ys.length ≤ i := Nat.le_trans sub.length_le (by rw [List.length_take]; omega)
      refine ⟨rfl, _, rfl, ite2 (fun e1 => ?_) (fun e1 => ?_)⟩
      · refine ⟨_, rfl, rfl, _, rfl, ite2 (fun e2 => ?_) (fun e2 => ?_)⟩
        · refine ⟨_, rfl, _, hD2, small1000 (by rw [List.length_map]; omega), ys ++ [k], by rw [upd_same, List.map_append]; rfl, by rw [et]; exact sub.append (List.Sublist.refl _), fun y hy => ?_, (D2.upd nDd nDc).mono (by omega), keep_mut (k'.trans k2) nD⟩
          rcases List.mem_append.mp hy with h | h
          · exact hna y h
          · rw [show y = k by simpa using h]
            intro z
            rw [z, decide_eq_true rfl] at e2
            cases e2
        · exact ⟨ys, hD2, sub', hna, D2.mono (by omega), k'.trans k2⟩
      · exact ⟨ys, hD2, sub', hna, D2.mono (by omega), k'.trans k2⟩
    · rintro H2 ⟨ys, hDl, sub, hna, D2, k2⟩
      rw [List.length_map] at sub D2
      rw [List.take_length] at sub
      have hyl : ys.length ≤ 12 := Nat.le_trans sub.length_le hkl
      have hl1 := k2 _ _ (upd_same (H := H) (a := l1) (o := .lst [V.str ""])) nl1d
      refine ⟨l1, D, _, _, rfl, rfl, hl1, hDl, by rw [List.length_map]; show 1 + ys.length ≤ sizeLine; exact Nat.le_trans (show 1 + ys.length ≤ 100 by omega) (by decide), fun l2 n2 => ?_⟩
      have t2 := same_new (o := .lst ([V.str ""] ++ ys.map V.str)) n2
      refine ⟨by show 1 ≤ sizeLine; decide, fun l3 n3 => ?_⟩
      have t3 := same_new (o := .lst [V.str ""]) n3
      refine ⟨l2, l3, _, _, rfl, rfl, t3 _ _ upd_same, upd_same, by rw [List.length_append, List.length_map]; show 1 + ys.length + 1 ≤ sizeLine; exact Nat.le_trans (show 1 + ys.length + 1 ≤ 100 by omega) (by decide), fun l4 n4 => ?_⟩
      have t4 := same_new (o := .lst ([V.str ""] ++ ys.map V.str ++ [V.str ""])) n4
      have efull : [V.str ""] ++ ys.map V.str ++ [V.str ""] = ((("" : Str) :: (ys ++ [("" : Str)])).map V.str) := by simp
      rw [efull] at t4 ⊢
      have hb : upd (upd (upd H2 l2 (.lst ([V.str ""] ++ ys.map V.str))) l3 (.lst [V.str ""])) l4 (.lst ((("" : Str) :: (ys ++ [("" : Str)])).map V.str)) l4 = some (.lst ((("" : Str) :: (ys ++ [("" : Str)])).map V.str)) := upd_same
      have t24 := t2.trans (t3.trans t4)
      have D4 := D2.same t24
      have nl4d : l4 ≠ d := (D2.same (t2.trans t3)).ne n4
      have K4 : Keep d H _ := (keep_same s1).trans (k2.trans (keep_same t24))
      generalize upd (upd (upd H2 l2 (.lst ([V.str ""] ++ ys.map V.str))) l3 (.lst [V.str ""])) l4 (.lst ((("" : Str) :: (ys ++ [("" : Str)])).map V.str)) = H4 at hb D4 K4
      generalize hbl : (("" : Str) :: (ys ++ [("" : Str)])) = bs at hb
      have hbln : bs.length = ys.length + 2 := by rw [← hbl]; simp
      refine ⟨_, rfl, l4, _, rfl, .inl (SqL.of hb), _, _, rfl, rfl, _, rfl, by rw [List.length_map, hbln]; omega, by rw [List.length_map, hbln]; omega, fun D2' nD2 => ?_⟩
      have nD2d : D2' ≠ d := D4.ne nD2
      have nD2c : D2' ≠ c := D4.neC nD2
      have ern : ((((bs.map V.str).length : Int) - 1)).toNat = ys.length + 1 := by rw [List.length_map, hbln]; omega
      refine lc_range (lo := 0) (n := ((((bs.map V.str).length : Int) - 1)).toNat) (fun i H' => ∃ zs : List Sp3, SpansAt H' D2' zs ∧ (zs.map (·.2)).Sublist ((nexts bs).take i) ∧ DrawAt H' d c cs (n + 65 * ks.length + 65 * i) ∧ Keep d H4 H') ?_ ?_ ?_
      · exact ⟨[], ⟨upd_same, fun z hz => by simp at hz⟩, List.nil_sublist _, (D4.same (same_new nD2)).mono (by omega), keep_same (same_new nD2)⟩
      · rintro i H' hi ⟨zs, hZ, sub2, D', k'⟩
        rw [ern] at hi
        have hnx : (nexts bs).length = ys.length + 1 := by rw [nexts_len, hbln]; rfl
        obtain ⟨x, hx⟩ : ∃ x, bs[i]? = some x := ⟨bs[i]'(by omega), List.getElem?_eq_getElem _⟩
        obtain ⟨y, hy⟩ : ∃ y, bs[i + 1]? = some y := ⟨bs[i + 1]'(by omega), List.getElem?_eq_getElem _⟩
        have hp := nexts_get bs i x y hx hy
        have hxi : (bs.map V.str)[i]? = some (V.str x) := by rw [List.getElem?_map, hx]; rfl
        have hyi : (bs.map V.str)[i + 1]? = some (V.str y) := by rw [List.getElem?_map, hy]; rfl
        have et : (nexts bs).take (i + 1) = (nexts bs).take i ++ [(x, y)] := by rw [List.take_add_one, hp]; rfl
        have hzl : zs.length ≤ i := by
          have h1 := sub2.length_le
          rw [List.length_map, List.length_take] at h1
          omega
        refine ⟨rfl, _, rfl, _, rfl, d, c, cs, _, m, rfl, D', hm0, by omega, by omega, fun v H5 v0 v1 D5 k5 => ?_⟩
        have hZ5 := hZ.keep k5 D'.is
        have hb5 := (k'.trans k5) _ _ hb nl4d
        refine ⟨_, _, rfl, rfl, _, rfl, ite2 (fun e => ?_) (fun e => ?_)⟩
        · refine ⟨_, rfl, _, rfl, l4, _, _, _, rfl, rfl, SqL.of hb5, (show atI (bs.map V.str) (0 + (i : Int)) = some (V.str x) by rw [Int.zero_add]; exact atI_nat hxi), _, rfl, _, rfl, _, _, rfl, rfl, l4, _, _, _, rfl, rfl, SqL.of hb5, (show atI (bs.map V.str) (0 + (i : Int) + 1) = some (V.str y) by rw [Int.zero_add]; exact atI_nat (j := i + 1) hyi), by show 2 ≤ sizeLine; decide, fun t nt => ?_⟩
          have u1 := same_new (o := .tup [V.str x, V.str y]) nt
          have hZ6 := hZ5.addNew (x := x) (y := y) nt
          refine ⟨_, u1 _ _ hZ5.ls, small1000 (by rw [List.length_map]; omega), zs ++ [(t, x, y)], hZ6, by rw [et, List.map_append]; exact sub2.append (List.Sublist.refl _), ((D5.same u1).upd nD2d nD2c).mono (by omega), keep_mut (k'.trans (k5.trans (keep_same u1))) nD2⟩
        · exact ⟨zs, hZ5, by rw [et]; exact sub2.trans (List.sublist_append_left _ _), D5.mono (by omega), k'.trans k5⟩
      · rintro H5 ⟨zs, hZ, sub2, D5, k5⟩
        rw [ern] at sub2 D5
        have hzl : zs.length ≤ ys.length + 1 := by
          have h1 := sub2.length_le
          rw [List.length_map, List.length_take] at h1
          omega
        have hys : ∀ k ∈ ys, IsKey k := fun k hk => hK.key k (sub.subset hk)
        have sub3 : (zs.map (·.2)).Sublist (nexts bs) := sub2.trans (List.take_sublist _ _)
        refine q D2' zs H5 ⟨ys, hys, hK.up.sublist sub, by rw [hbl]; exact sub3, fun z hz e => ?_, by omega⟩ hZ (D5.mono (by omega)) (K4.trans k5) (free_of K4 D4.is nD2)
        have hm : z.2 ∈ nexts bs := sub3.subset (List.mem_map.mpr ⟨z, hz, rfl⟩)
        have h2 := (nexts_mem _ _ hm).2
        rw [e, ← hbl] at h2
        have : ("a" : Str) = "" ∨ ("a" : Str) ∈ ys ∨ ("a" : Str) = "" := by simpa using h2
        rcases this with h | h | h
        · exact absurd h (by decide +kernel)
        · exact hna _ h rfl
        · exact absurd h (by decide +kernel)
theorem ok_hasW {f : Addr} {fd : FuncData} (F : Fun K "_law_has" "_law_has" s_has f fd) : FnOk P w K mg base CX0 1 f fd ["_law_span", "_law_key_here"] (spHas K) := by
  refine F.ok sc_has (fun vs H Q E h => ?_) (fun cdv A outer s H vs Q E hr h => ?_)
  · obtain ⟨p, l, h, k, rfl, _⟩ := h
    rfl
  · obtain ⟨p, l, h, k, rfl, hT, q⟩ := h
    refine ⟨_, pss_one (ps_ret (pe_and (pe_cmpR op_le_str (pe_ix ix_tup (pv 0) pe_int (fun _ _ => rfl)) (pv 1) (nomark _)) (pe_one (pe_or (pe_cmpR op_eq (pe_ix ix_tup (pv 0) pe_int (fun _ _ => rfl)) pe_str (nomark _)) (pe_one (pe_cmpR op_lt_str (pv 1) (pe_ix ix_tup (pv 0) pe_int (fun _ _ => rfl)) (nomark _))))))), ?_⟩
    refine ⟨_, rfl, p, _, _, _, rfl, rfl, hT, atI_nat (j := 0) rfl, _, rfl, _, _, rfl, rfl, _, rfl, ite2 (fun e1 => ?_) (fun e1 => ?_)⟩
    · refine ⟨_, rfl, p, _, _, _, rfl, rfl, hT, atI_nat (j := 1) rfl, rfl, _, rfl, ite2 (fun e2 => ?_) (fun e2 => ?_)⟩
      · have e : hasB l h k = true := by
          unfold hasB ltS
          rw [e1, e2]
          rfl
        rw [e] at q
        exact q
      · have e : hasB l h k = decide (k.cps.toList < h.cps.toList) := by
          unfold hasB ltS
          rw [e1, Bool.eq_false_iff.mpr e2]
          rfl
        rw [e] at q
        exact ⟨_, rfl, _, rfl, p, _, _, _, rfl, rfl, hT, atI_nat (j := 1) rfl, _, _, rfl, rfl, q⟩
    · have e : hasB l h k = false := by
        unfold hasB ltS
        rw [Bool.eq_false_iff.mpr e1]
        rfl
      rw [e] at q
      exact q
theorem ok_ownsW {f : Addr} {fd : FuncData} (F : Fun K "_law_owns" "_law_owns" s_owns f fd) (B : Blt mg) (D_has : DefOk P w K mg base 1 "_law_has" ["_law_span", "_law_key_here"] (spHas K)) : FnOk P w K mg base CX0 2 f fd ["_law_spans_here", "_law_key_here"] spOwnsW := by
  refine F.ok sc_owns (fun vs H Q E h => ?_) (fun cdv A outer s H vs Q E hr h => ?_)
  · obtain ⟨a, zs, k, rfl, _⟩ := h
    rfl
  · obtain ⟨a, zs, k, rfl, hZ, hzl, q⟩ := h
    refine ⟨_, pss_one (ps_ret (pe_cmpR op_gt (pe_callB call_len_seq (by rfl) B.len (by decide +kernel) (pa_cons (pe_lc (own := [("_law_span", 2)]) (g := gName 2) rfl sc_owns.nd (pi_list (pv 0)) (blkOk_by (own := [("_law_span", 2)]) (N := ["_law_spans_here", "_law_key_here", "_law_span"]) (sc := defScope s_owns) (by decide +kernel)) (fun _ _ _ _ _ => pg_name (i := 2) sc_owns.nd rfl (Or.inl rfl)) (fun _ _ _ _ _ => pts_one (pt_val (pe_def D_has (hr.mono (by omega)) (by rfl) (pa_cons (pv 2) (pa_cons (pv 1) pa_nil))))) (fun _ _ _ _ _ => pv 2)) pa_nil)) pe_int (nomark _))), ?_⟩
    refine ⟨_, rfl, a, rfl, ⟨_, SqL.of hZ.ls⟩, fun D nD => ?_⟩
    refine lc_list (K := K) (a := a) (xs := zs.map fun z => V.ref z.1) (fun i H' => ∃ ws : List Sp3, H' D = some (.lst (ws.map fun z => V.ref z.1)) ∧ ws = (zs.take i).filter (fun z => hasB z.2.1 z.2.2 k) ∧ Same H H') ?_ ?_ ?_ ?_
    · exact ⟨[], upd_same, by simp, same_new nD⟩
    · rintro i H' _ ⟨_, _, _, sm⟩
      exact SqL.of (sm _ _ hZ.ls)
    · rintro i x H' hi ⟨ws, hDl, ew, sm⟩
      rw [List.getElem?_map] at hi
      obtain ⟨z, hz, rfl⟩ := Option.map_eq_some_iff.mp hi
      have hm : z ∈ zs := List.mem_of_getElem? hz
      have hil : i < zs.length := (List.getElem?_eq_some_iff.mp hz).1
      have hwl : ws.length ≤ i := by rw [ew]; exact Nat.le_trans (List.length_filter_le _ _) (by rw [List.length_take]; omega)
      have et : zs.take (i + 1) = zs.take i ++ [z] := by rw [List.take_add_one, hz]; rfl
      refine ⟨rfl, _, rfl, _, rfl, z.1, z.2.1, z.2.2, k, rfl, SqT.of (sm _ _ (hZ.tp z hm)), _, rfl, ite2 (fun e => ?_) (fun e => ?_)⟩
      · refine ⟨_, rfl, _, hDl, small1000 (by rw [List.length_map]; omega), ws ++ [z], by rw [upd_same, List.map_append]; rfl, ?_, same_mut sm nD⟩
        rw [et, List.filter_append, ← ew, List.filter_cons, if_pos e]
        rfl
      · refine ⟨ws, hDl, ?_, sm⟩
        rw [et, List.filter_append, ← ew, List.filter_cons, if_neg e, List.filter_nil, List.append_nil]
    · rintro H' ⟨ws, hDl, ew, sm⟩
      rw [List.length_map, List.take_length] at ew
      refine ⟨D, _, rfl, .inl (SqL.of hDl), _, _, rfl, rfl, ?_⟩
      have q1 := q H' sm
      have e : ownsB (zs.map (·.2)) k = decide ((0 : Int) < (((ws.map fun z => V.ref z.1).length : Nat) : Int)) := by
        unfold ownsB
        rw [List.any_map, List.length_map, Bool.eq_iff_iff, List.any_eq_true, decide_eq_true_iff]
        constructor
        · rintro ⟨z, hz, h⟩
          have : z ∈ ws := by rw [ew]; exact List.mem_filter.mpr ⟨hz, h⟩
          have := List.length_pos_of_mem this
          omega
        · intro h
          have h0 : 0 < ws.length := by omega
          obtain ⟨z, hz⟩ := List.exists_mem_of_length_pos h0
          rw [ew] at hz
          obtain ⟨h1, h2⟩ := List.mem_filter.mp hz
          exact ⟨z, h1, h2⟩
      rw [e] at q1
      exact q1
end
end FB

namespace FB
open PySem PySem.Spec PyProof.Rows L2
/-! ### ops -/
abbrev Op := Str × Str × Int
abbrev OpA := Addr × Op
structure OpsAt (H : Hp) (o : Addr) (os : List OpA) : Prop where
  ls : H o = some (.tup (os.map fun e => V.ref e.1))
  tp : ∀ e ∈ os, H e.1 = some (.tup [.str e.2.1, .str e.2.2.1, .int e.2.2.2])
def kinds : List Str := ["put", "add", "least", "add"]
def kinds3 : List Str := ["put", "add", "least"]
structure OpOk (e : Op) : Prop where
  key : IsKey e.1
  kind : e.2.1 ∈ kinds3
  lo : -1000000000 ≤ e.2.2
  hi : e.2.2 ≤ 1000000000
structure OpList (ks : List Str) (os : List Op) : Prop where
  ok : ∀ e ∈ os, OpOk e
  sub : (os.map (·.1)).Sublist ks
  one : 1 ≤ os.length
  few : os.length ≤ 8
theorem OpsAt.same {H H' : Hp} {o : Addr} {os : List OpA} (h : OpsAt H o os) (s : Same H H') : OpsAt H' o os := ⟨s _ _ h.ls, fun e he => s _ _ (h.tp e he)⟩
theorem OpsAt.keepD {H H' : Hp} {o d : Addr} {os : List OpA} (h : OpsAt H o os) (k : Keep d H H') (hd : ∃ kvs, H d = some (.dK kvs)) : OpsAt H' o os := by
  obtain ⟨kvs, hd⟩ := hd
  exact ⟨k _ _ h.ls (ne_of h.ls hd (by intro z; cases z)), fun e he => k _ _ (h.tp e he) (ne_of (h.tp e he) hd (by intro z; cases z))⟩
def opD (e : Op) : PyData := .tuple [.str e.1, .str e.2.1, .int e.2.2]
theorem dpall_ops {K : PySem.W.Frag} {H : Hp} : ∀ os : List OpA, (∀ e ∈ os, H e.1 = some (.tup [.str e.2.1, .str e.2.2.1, .int e.2.2.2])) → DpAll K H (os.map fun e => V.ref e.1) (os.map fun e => opD e.2)
  | [], _ => .nil
  | e :: r, h => .cons (.tup (SqT.of (h e (by simp))) (.cons (.str _) (.cons (.str _) (.cons (.int _) .nil)))) (dpall_ops r fun y hy => h y (by simp [hy]))
theorem kind_ok {z : Str} (h : z ∈ kinds3) : PyData.strOk z = true := by
  revert z
  decide +kernel
theorem lay_ops : ∀ os : List Op, (∀ e ∈ os, OpOk e) → PyData.canLayAll0 (os.map opD) = true ∧ PyData.depthAll (os.map opD) ≤ 1
  | [], _ => ⟨by simp [PyData.canLayAll0], by simp [PyData.depthAll]⟩
  | e :: r, h => by
    obtain ⟨h1, h2⟩ := lay_ops r fun y hy => h y (by simp [hy])
    have ho := h e (by simp)
    have k1 : PyData.strOk e.1 = true := KeyOr.ok (.inr ho.key)
    have k2 := kind_ok ho.kind
    refine ⟨?_, ?_⟩
    · rw [List.map_cons, PyData.canLayAll0, h1]
      simp [opD, PyData.canLay0, PyData.canLayAll0, k1, k2]
    · rw [List.map_cons, PyData.depthAll]
      have : (opD e).depth = 1 := by simp [opD, PyData.depth, PyData.depthAll]
      omega
theorem shaped_opl {os : List Op} (h : ∀ e ∈ os, OpOk e) : SeqAt.shaped (.list (os.map opD)) = true := by
  obtain ⟨h1, h2⟩ := lay_ops os h
  unfold SeqAt.shaped
  rw [PyData.canLay0, h1, decide_eq_true (show (PyData.list (os.map opD)).depth ≤ 64 by rw [PyData.depth]; omega)]
  rfl
theorem kinds_in : ∀ u ∈ kinds, u ∈ kinds3 := by decide +kernel
def spOpsW : Sp := fun vs H Q _ => ∃ (d c : Addr) (cs : List Int) (n : Nat) (a : Addr) (ks : List Str), vs = [.ref d, .ref a] ∧ DrawAt H d c cs n ∧ n < 800000000 ∧ H a = some (.lst (ks.map V.str)) ∧ KeyList ks ∧
  ∀ (o : Addr) (os : List OpA) (H' : Hp), OpList ks (os.map (·.2)) → OpsAt H' o os → DrawAt H' d c cs (n + 4000) → Keep d H H' → H o = none → Q (.ref o) H'
def spDealW : Sp := fun vs H Q _ => ∃ (d c : Addr) (cs : List Int) (n : Nat), vs = [.ref d] ∧ DrawAt H d c cs n ∧ n < 800000000 ∧ ∀ (z : Str) (H' : Hp), IsKey z → DrawAt H' d c cs (n + 130) → Keep d H H' → Q (.str z) H'
def dealMenu : List Str := ["da", "db", "dc", "dd", "de", "d", "dda", "dz", "ddb", "dzzzzzzz", "e", "ea"]
theorem dealMenu_keys : ∀ z ∈ dealMenu, IsKey z := by
  unfold IsKey
  decide +kernel
section
variable {P : Program} {w : World} {K : PySem.W.Frag} {mg : Str → Option Value} {base : Heap}
theorem ok_dealW {f : Addr} {fd : FuncData} (F : Fun K "_law_deal" "_law_deal" s_deal f fd) (B : Blt mg) (D_pick : DefOk P w K mg base 1 "_law_pick" ["_law_draw", "_law_many"] spPickW) : FnOk P w K mg base CX0 2 f fd ["_law_draw"] spDealW := by
  refine F.ok sc_deal (fun vs H Q E h => ?_) (fun cdv A outer s H vs Q E hr h => ?_)
  · obtain ⟨d, c0, cs, n, rfl, _⟩ := h
    rfl
  · obtain ⟨d, c, cs, n, rfl, hD, hn, q⟩ := h
    refine ⟨_, pss_cons (ps_set (i := 1) sc_deal.nd rfl (Or.inl rfl) (pe_lst (pa_cons pe_str (pa_cons pe_str (pa_cons pe_str (pa_cons pe_str (pa_cons pe_str (pa_cons pe_str (pa_cons pe_str (pa_cons pe_str (pa_cons pe_str (pa_cons pe_str (pa_cons pe_str (pa_cons pe_str pa_nil))))))))))))))
    (pss_one (ps_ret (pe_ix ix_list (pv 1) (pe_def D_pick (hr.mono (by omega)) (by rfl) (pa_cons (pv 0) (pa_cons (pe_ix ix_list (pe_lst (pa_cons pe_int (pa_cons pe_int (pa_cons pe_int (pa_cons pe_int pa_nil))))) (pe_def D_pick (hr.mono (by omega)) (by rfl) (pa_cons (pv 0) (pa_cons pe_int pa_nil))) (fun _ _ => rfl)) pa_nil))) (fun _ _ => rfl)))), ?_⟩
    refine ⟨by show 12 ≤ sizeLine; decide, fun l1 n1 => ?_⟩
    have s1 := same_new (o := .lst (dealMenu.map V.str)) n1
    have D1 := hD.same s1
    have nl1 : l1 ≠ d := hD.ne n1
    refine ⟨_, rfl, _, rfl, by show 4 ≤ sizeLine; decide, fun l2 n2 => ?_⟩
    have s2 := same_new (o := .lst [V.int 6, V.int 6, V.int 6, V.int 12]) n2
    have nl2 : l2 ≠ d := D1.ne n2
    refine ⟨_, rfl, d, c, cs, n, 4, rfl, D1.same s2, by decide, by decide, by omega, fun v H1 v0 v1 D2 k1 => ?_⟩
    obtain ⟨z', hz', ha⟩ := at_list (xs := [V.int 6, V.int 6, V.int 6, V.int 12]) v0 (by show v < 4; exact v1)
    obtain ⟨m, rfl, hm0, hm1⟩ : ∃ m : Int, z' = .int m ∧ 0 < m ∧ m ≤ 12 := by
      have : z' = .int 6 ∨ z' = .int 6 ∨ z' = .int 6 ∨ z' = .int 12 := by simpa using hz'
      rcases this with h | h | h | h <;> exact ⟨_, h, by decide, by decide⟩
    refine ⟨l2, _, _, _, rfl, rfl, SqL.of (k1 _ _ upd_same nl2), ha, ?_⟩
    refine ⟨d, c, cs, _, m, rfl, D2, hm0, by omega, by omega, fun v2 H2 w0 w1 D3 k2 => ?_⟩
    obtain ⟨y', hy', hb⟩ := at_list (xs := dealMenu.map V.str) w0 (by show v2 < 12; omega)
    obtain ⟨y, hy, rfl⟩ := List.mem_map.mp hy'
    refine ⟨l1, _, _, _, rfl, rfl, SqL.of (k2 _ _ (k1 _ _ (s2 _ _ upd_same) nl1) nl1), hb, ?_⟩
    exact q y H2 (dealMenu_keys y hy) (D3.mono (by omega)) ((keep_same (s1.trans s2)).trans (k1.trans k2))
theorem ok_opsW {f : Addr} {fd : FuncData} (F : Fun K "_law_ops" "_law_ops" s_ops f fd) (B : Blt mg) (D_pick : DefOk P w K mg base 1 "_law_pick" ["_law_draw", "_law_many"] spPickW) : FnOk P w K mg base CX0 2 f fd ["_law_draw", "_law_keys_here"] spOpsW := by
  refine F.ok sc_ops (fun vs H Q E h => ?_) (fun cdv A outer s H vs Q E hr h => ?_)
  · obtain ⟨d, c0, cs, n, a, ks, rfl, _⟩ := h
    rfl
  · obtain ⟨d, c, cs, n, a, ks, rfl, hD, hn, ha, hK, q⟩ := h
    refine ⟨_, pss_cons (ps_set (i := 2) sc_ops.nd rfl (Or.inl rfl) (pe_lst pa_nil))
    (pss_cons (ps_for PassesOwn.never rfl (pi_list (pv 1)) (pg_name (i := 3) sc_ops.nd rfl (Or.inl rfl))
      (pss_one (ps_if (pt_cmpR op_eq (pe_def D_pick (hr.mono (by omega)) (by rfl) (pa_cons (pv 0) (pa_cons pe_int pa_nil))) pe_int (nomark _))
        (pss_cons (ps_set (i := 4) sc_ops.nd rfl (Or.inl rfl) (pe_ix ix_list (pe_lst (pa_cons (pe_op op_sub (pe_def D_pick (hr.mono (by omega)) (by rfl) (pa_cons (pv 0) (pa_cons pe_int pa_nil))) pe_int) (pa_cons pe_int (pa_cons (pe_op op_pow pe_int pe_int) (pa_cons (pe_op op_sub pe_int (pe_op op_pow pe_int pe_int)) pa_nil))))) (pe_def D_pick (hr.mono (by omega)) (by rfl) (pa_cons (pv 0) (pa_cons pe_int pa_nil))) (fun _ _ => rfl)))
        (pss_one (ps_expr (pe_bm PySem.F.plainAttrs_list PySem.F.slot_list_append PySem.F.type_list_append mt_append (pv 2) (pa_cons (pe_tup (pa_cons (pv 3) (pa_cons (pe_ix ix_list (pe_lst (pa_cons pe_str (pa_cons pe_str (pa_cons pe_str (pa_cons pe_str pa_nil))))) (pe_def D_pick (hr.mono (by omega)) (by rfl) (pa_cons (pv 0) (pa_cons pe_int pa_nil))) (fun _ _ => rfl)) (pa_cons (pv 4) pa_nil)))) pa_nil))))) pss_nil)))
    (pss_cons (ps_if (pt_cmpR (op_eqD hr.units) (pv 2) (pe_lst pa_nil) (nomark _))
      (pss_cons (ps_set (i := 3) sc_ops.nd rfl (Or.inl rfl) (pe_ix ix_list (pv 1) (pe_def D_pick (hr.mono (by omega)) (by rfl) (pa_cons (pv 0) (pa_cons (pe_callB call_len_seq (by rfl) B.len (by decide +kernel) (pa_cons (pv 1) pa_nil)) pa_nil))) (fun _ _ => rfl)))
      (pss_one (ps_expr (pe_bm PySem.F.plainAttrs_list PySem.F.slot_list_append PySem.F.type_list_append mt_append (pv 2) (pa_cons (pe_tup (pa_cons (pv 3) (pa_cons (pe_ix ix_list (pe_lst (pa_cons pe_str (pa_cons pe_str (pa_cons pe_str pa_nil)))) (pe_def D_pick (hr.mono (by omega)) (by rfl) (pa_cons (pv 0) (pa_cons pe_int pa_nil))) (fun _ _ => rfl)) (pa_cons (pe_op op_sub (pe_def D_pick (hr.mono (by omega)) (by rfl) (pa_cons (pv 0) (pa_cons pe_int pa_nil))) pe_int) pa_nil)))) pa_nil))))) pss_nil)
    (pss_one (ps_ret (pe_callTy call_tuple_of (by rfl) B.tuple (by decide +kernel) (pa_cons (pe_slice sl_list (pv 2) po_none (po_some pe_int)) pa_nil)))))), ?_⟩
    have hkl := hK.few
    have hk1 := hK.one
    have nad : a ≠ d := by
      obtain ⟨kvs, e⟩ := hD.is
      exact ne_of ha e (by intro z; cases z)
    refine ⟨Nat.zero_le _, fun l nl => ?_⟩
    have s1 := same_new (o := .lst []) nl
    have nld : l ≠ d := hD.ne nl
    have nlc : l ≠ c := hD.neC nl
    refine ⟨_, rfl, a, rfl, ⟨_, SqL.of (s1 _ _ ha)⟩, for_list (K := K) (a := a) (xs := ks.map V.str) (fun i σ H' => ∃ v3 v4, ∃ os : List OpA, σ = [some (.ref d), some (.ref a), some (.ref l), v3, v4] ∧ H' l = some (.lst (os.map fun e => V.ref e.1)) ∧ (∀ e ∈ os, H' e.1 = some (.tup [.str e.2.1, .str e.2.2.1, .int e.2.2.2])) ∧ (∀ e ∈ os, OpOk e.2) ∧ (os.map (·.2.1)).Sublist (ks.take i) ∧ DrawAt H' d c cs (n + 260 * i) ∧ Keep d H H') ?_ ?_ ?_ ?_⟩
    · exact ⟨none, none, [], rfl, upd_same, (fun e he => by cases he), (fun e he => by cases he), List.nil_sublist _, (hD.same s1).mono (by omega), keep_same s1⟩
    · rintro i σ H' _ ⟨v3, v4, os, _, _, _, _, _, _, k'⟩
      exact SqL.of (k' _ _ ha nad)
    · rintro i x σ H' hi ⟨v3, v4, os, rfl, hl, htp, hok, sub, D', k'⟩
      rw [List.getElem?_map] at hi
      obtain ⟨k, hk, rfl⟩ := Option.map_eq_some_iff.mp hi
      have hil : i < ks.length := (List.getElem?_eq_some_iff.mp hk).1
      have hkey : IsKey k := hK.key k (List.mem_of_getElem? hk)
      have et : ks.take (i + 1) = ks.take i ++ [k] := by rw [List.take_add_one, hk]; rfl
      have hol : os.length ≤ i := by
        have h1 := sub.length_le
        rw [List.length_map, List.length_take] at h1
        omega
      have sub' : (os.map (·.2.1)).Sublist (ks.take (i + 1)) := by rw [et]; exact sub.trans (List.sublist_append_left _ _)
      obtain ⟨kvs', hd'⟩ := D'.is
      have tpk : ∀ {H1 : Hp}, Keep d H' H1 → ∀ e ∈ os, H1 e.1 = some (.tup [.str e.2.1, .str e.2.2.1, .int e.2.2.2]) := fun kk e he => kk _ _ (htp e he) (ne_of (htp e he) hd' (by intro z; cases z))
      refine ⟨_, rfl, d, c, cs, _, 2, rfl, D', by decide, by decide, by omega, fun v H1 v0 v1 D1 k1 => ?_⟩
      refine ⟨rfl, _, rfl, ite2 (fun e => ?_) (fun e => ?_)⟩
      · refine ⟨_, rfl, d, c, cs, _, 9, rfl, D1, by decide, by decide, by omega, fun v2 H2 w0 w1 D2 k2 => ?_⟩
        refine ⟨_, _, rfl, rfl, _, _, rfl, rfl, ⟨by decide, by decide, by decide⟩, _, _, rfl, rfl, ⟨by decide, by decide, by decide⟩, _, _, rfl, rfl, by show 4 ≤ sizeLine; decide, fun l2 n2 => ?_⟩
        have s2 := same_new (o := .lst [V.int (v2 - 3), V.int 0, V.int (10 ^ 9), V.int (0 - 10 ^ 9)]) n2
        have nl2 : l2 ≠ d := D2.ne n2
        refine ⟨_, rfl, d, c, cs, _, 4, rfl, D2.same s2, by decide, by decide, by omega, fun v3 H3 x0 x1 D3 k3 => ?_⟩
        obtain ⟨z', hz', hat⟩ := at_list (xs := [V.int (v2 - 3), V.int 0, V.int (10 ^ 9), V.int (0 - 10 ^ 9)]) x0 (by show v3 < 4; exact x1)
        obtain ⟨m, rfl, hm0, hm1⟩ : ∃ m : Int, z' = .int m ∧ -1000000000 ≤ m ∧ m ≤ 1000000000 := by
          have : z' = .int (v2 - 3) ∨ z' = .int 0 ∨ z' = .int (10 ^ 9) ∨ z' = .int (0 - 10 ^ 9) := by simpa using hz'
          rcases this with h | h | h | h
          · exact ⟨_, h, by omega, by omega⟩
          · exact ⟨_, h, by decide, by decide⟩
          · exact ⟨_, h, by decide, by decide⟩
          · exact ⟨_, h, by decide, by decide⟩
        refine ⟨l2, _, _, _, rfl, rfl, SqL.of (k3 _ _ upd_same nl2), hat, ?_⟩
        have k13 := k1.trans (k2.trans ((keep_same s2).trans k3))
        have hl3 := k13 _ _ hl nld
        refine ⟨_, rfl, .inl ⟨rfl, _, SqL.of hl3⟩, _, rfl, by show 4 ≤ sizeLine; decide, fun l3 n3 => ?_⟩
        have s3 := same_new (o := .lst (kinds.map V.str)) n3
        have nl3 : l3 ≠ d := D3.ne n3
        refine ⟨_, rfl, d, c, cs, _, 4, rfl, D3.same s3, by decide, by decide, by omega, fun v4 H4 y0 y1 D4 k4 => ?_⟩
        obtain ⟨u', hu', hau⟩ := at_list (xs := kinds.map V.str) y0 (by show v4 < 4; exact y1)
        obtain ⟨u, huk, rfl⟩ := List.mem_map.mp hu'
        have huk3 : u ∈ kinds3 := kinds_in u huk
        refine ⟨l3, _, _, _, rfl, rfl, SqL.of (k4 _ _ upd_same nl3), hau, _, rfl, by show 3 ≤ sizeLine; decide, fun t nt => ?_⟩
        have s4 := same_new (o := .tup [V.str k, V.str u, V.int m]) nt
        have k14 := k13.trans ((keep_same s3).trans (k4.trans (keep_same s4)))
        have hl4 := k14 _ _ hl nld
        refine ⟨l, _, _, rfl, rfl, hl4, small1000 (by rw [List.length_map]; omega), ?_⟩
        have hlt : t ≠ l := fun z => by
          have := (k13.trans ((keep_same s3).trans k4)) _ _ hl nld
          rw [← z, nt] at this
          cases this
        refine ⟨_, _, os ++ [(t, k, u, m)], rfl, by rw [upd_same, List.map_append]; rfl, fun e he => ?_, fun e he => ?_, by rw [et, List.map_append]; exact sub.append (List.Sublist.refl _), ((D4.same s4).upd nld nlc).mono (by omega), keep_mut (k'.trans k14) nl⟩
        · rcases List.mem_append.mp he with h | h
          · have h1 := tpk k14 e h
            rw [upd_ne (ne_of h1 hl4 (by intro z; cases z))]
            exact h1
          · rw [show e = (t, k, u, m) by simpa using h]
            rw [upd_ne hlt]
            exact upd_same
        · rcases List.mem_append.mp he with h | h
          · exact hok e h
          · rw [show e = (t, k, u, m) by simpa using h]
            exact ⟨hkey, huk3, hm0, hm1⟩
      · exact ⟨_, _, os, rfl, k1 _ _ hl nld, tpk k1, hok, sub', D1.mono (by omega), k'.trans k1⟩
    · rintro σ H2 ⟨v3, v4, os, rfl, hl, htp, hok, sub, D2, K2⟩
      rw [List.length_map] at sub D2
      rw [List.take_length] at sub
      have hol : os.length ≤ 12 := by
        have h1 := sub.length_le
        rw [List.length_map] at h1
        omega
      refine ⟨_, rfl, Nat.zero_le _, fun l5 n5 => ?_⟩
      have s5 := same_new (o := .lst []) n5
      -- the end: tuple(ops[:8])
      have fin : ∀ (H6 : Hp) (ps : List OpA), H6 l = some (.lst (ps.map fun e => V.ref e.1)) → (∀ e ∈ ps, H6 e.1 = some (.tup [.str e.2.1, .str e.2.2.1, .int e.2.2.2])) → (∀ e ∈ ps, OpOk e.2) → (ps.map (·.2.1)).Sublist ks → 1 ≤ ps.length → DrawAt H6 d c cs (n + 3500) → Keep d H H6 →
          ∃ (lo hi : Option Int), lo = none ∧ hi = some 8 ∧ ∀ s6, H6 s6 = none → ∀ o, upd H6 s6 (.lst (cutV (ps.map fun e => V.ref e.1) lo hi)) o = none → Q (.ref o) (upd (upd H6 s6 (.lst (cutV (ps.map fun e => V.ref e.1) lo hi))) o (.tup (cutV (ps.map fun e => V.ref e.1) lo hi))) := by
        intro H6 ps h1 h2 h3 h4 h5 h6 h7
        refine ⟨_, _, rfl, rfl, fun s6 n6 o no => ?_⟩
        have e8 : cutV (ps.map fun e => V.ref e.1) none (some 8) = (ps.take 8).map fun e => V.ref e.1 := by rw [show (8 : Int) = ((8 : Nat) : Int) from rfl, cutHi, List.map_take]
        rw [e8] at no ⊢
        have u1 := same_new (o := .lst ((ps.take 8).map fun e => V.ref e.1)) n6
        have u2 := same_new (o := .tup ((ps.take 8).map fun e => V.ref e.1)) no
        have u12 := u1.trans u2
        refine q o (ps.take 8) _ ⟨fun e he => ?_, ?_, ?_, ?_⟩ ⟨upd_same, fun e he => u12 _ _ (h2 e (List.mem_of_mem_take he))⟩ ((h6.same u12).mono (by omega)) (h7.trans (keep_same u12)) (free_of (h7.trans (keep_same u1)) (h6.same u1).is no)
        · obtain ⟨y, hy, rfl⟩ := List.mem_map.mp he
          exact h3 y (List.mem_of_mem_take hy)
        · rw [List.map_map]
          exact ((List.take_sublist 8 ps).map _).trans h4
        · rw [List.length_map, List.length_take]; omega
        · rw [List.length_map, List.length_take]; omega
      cases os with
      | nil =>
        refine ⟨.list [], .list [], .lst (SqL.of (s5 _ _ hl)) .nil, .lst (SqL.of upd_same) .nil, shaped_nil, shaped_nil, _, rfl, ?_⟩
        rw [eqv_nil]
        refine iteT ?_
        have ha2 := s5 _ _ (K2 _ _ ha nad)
        refine ⟨_, rfl, _, rfl, _, rfl, a, _, rfl, .inl (SqL.of ha2), d, c, cs, _, _, rfl, D2.same s5, by rw [List.length_map]; omega, by rw [List.length_map]; omega, by omega, fun v H3 v0 v1 D3 k3 => ?_⟩
        obtain ⟨x', hx', hax⟩ := at_list (xs := ks.map V.str) v0 v1
        obtain ⟨x, hxk, rfl⟩ := List.mem_map.mp hx'
        refine ⟨a, _, _, _, rfl, rfl, SqL.of (k3 _ _ ha2 nad), hax, ?_⟩
        have hl3 := k3 _ _ (s5 _ _ hl) nld
        refine ⟨_, rfl, .inl ⟨rfl, _, SqL.of hl3⟩, _, rfl, by show 3 ≤ sizeLine; decide, fun l3 n3 => ?_⟩
        have s3 := same_new (o := .lst (kinds3.map V.str)) n3
        have nl3 : l3 ≠ d := D3.ne n3
        refine ⟨_, rfl, d, c, cs, _, 3, rfl, D3.same s3, by decide, by decide, by omega, fun v4 H4 y0 y1 D4 k4 => ?_⟩
        obtain ⟨u', hu', hau⟩ := at_list (xs := kinds3.map V.str) y0 (by show v4 < 3; exact y1)
        obtain ⟨u, huk, rfl⟩ := List.mem_map.mp hu'
        refine ⟨l3, _, _, _, rfl, rfl, SqL.of (k4 _ _ upd_same nl3), hau, ?_⟩
        refine ⟨_, rfl, d, c, cs, _, 5, rfl, D4, by decide, by decide, by omega, fun v5 H5 z0 z1 D5 k5 => ?_⟩
        refine ⟨_, _, rfl, rfl, by show 3 ≤ sizeLine; decide, fun t nt => ?_⟩
        have s6 := same_new (o := .tup [V.str x, V.str u, V.int (v5 - 1)]) nt
        have k35 : Keep d _ _ := k3.trans ((keep_same s3).trans (k4.trans (k5.trans (keep_same s6))))
        have hl6 := k35 _ _ (s5 _ _ hl) nld
        refine ⟨l, _, _, rfl, rfl, hl6, by show 0 < sizeLine; decide, ?_⟩
        have hlt : t ≠ l := fun z => by
          have := (k3.trans ((keep_same s3).trans (k4.trans k5))) _ _ (s5 _ _ hl) nld
          rw [← z, nt] at this
          cases this
        obtain ⟨lo, hi, rfl, rfl, f⟩ := fin (upd (upd H5 t (.tup [V.str x, V.str u, V.int (v5 - 1)])) l (.lst [V.ref t])) [(t, x, u, v5 - 1)] upd_same (fun e he => by
            rw [show e = (t, x, u, v5 - 1) by simpa using he]
            rw [upd_ne hlt]
            exact upd_same) (fun e he => by
            rw [show e = (t, x, u, v5 - 1) by simpa using he]
            exact ⟨hK.key x hxk, huk, by show -1000000000 ≤ v5 - 1; omega, by show v5 - 1 ≤ 1000000000; omega⟩) (List.singleton_sublist.mpr hxk) (by simp) (((D5.same s6).upd nld nlc).mono (by omega)) (keep_mut (K2.trans ((keep_same s5).trans k35)) nl)
        exact ⟨_, rfl, _, rfl, l, _, rfl, SqL.of upd_same, fun s7 n7 => ⟨s7, _, rfl, .inl ⟨SqL.of upd_same, fun o no => f s7 n7 o no⟩⟩⟩
      | cons e r =>
        have hne : OpOk e.2 := hok e (by simp)
        have hall : ∀ y ∈ (e :: r).map (·.2), OpOk y := fun y hy => by
          obtain ⟨x, hx, rfl⟩ := List.mem_map.mp hy
          exact hok x hx
        have edat : (e :: r).map (fun e => opD e.2) = ((e :: r).map (·.2)).map opD := by rw [List.map_map]; rfl
        refine ⟨_, .list [], .lst (SqL.of (s5 _ _ hl)) (dpall_ops (e :: r) fun y hy => s5 _ _ (htp y hy)), .lst (SqL.of upd_same) .nil, by rw [edat]; exact shaped_opl hall, shaped_nil, _, rfl, ?_⟩
        rw [List.map_cons, eqv_cons]
        refine iteF ?_
        obtain ⟨lo, hi, rfl, rfl, f⟩ := fin (upd H2 l5 (.lst [])) (e :: r) (s5 _ _ hl) (fun y hy => s5 _ _ (htp y hy)) hok sub (by simp) ((D2.same s5).mono (by omega)) (K2.trans (keep_same s5))
        exact ⟨_, rfl, _, rfl, l, _, rfl, SqL.of (s5 _ _ hl), fun s7 n7 => ⟨s7, _, rfl, .inl ⟨SqL.of upd_same, fun o no => f s7 n7 o no⟩⟩⟩
end
end FB

namespace FB
open PySem PySem.Spec PyProof.Rows L2
theorem lc_zipL {K : PySem.W.Frag} {a b : Addr} {xs ys : List V} {g : TG} {tt : TT} {te : TE} {vs : List Nat} {σ : L2.St} {H1 : Hp} {D : Addr} {Qd : Hp → Prop} (hl : xs.length = ys.length) (Pv : Nat → Hp → Prop) (h0 : Pv 0 (upd H1 D (.lst []))) (hq : ∀ i H, Pv i H → SqL K H a xs ∧ SqL K H b ys)
    (hs : ∀ (i : Nat) (x y : V) (T : Addr) (H : Hp), xs[i]? = some x → ys[i]? = some y → Pv i H → H T = none → g (.ref T) (wipe σ vs) (upd H T (.tup [x, y])) fun σ2 H2 => wipe σ2 vs = wipe σ vs ∧ tt σ2 H2 fun b H3 =>
      if b = true then te σ2 H3 fun y H4 => ∃ acc, H4 D = some (.lst acc) ∧ acc.length < sizeLine ∧ Pv (i + 1) (upd H4 D (.lst (acc ++ [y]))) else Pv (i + 1) H3) (hd : ∀ H, Pv xs.length H → Qd H) :
    ∃ W : Nat → Nat → Hp → Prop, (∃ m, W 0 m (upd H1 D (.lst []))) ∧ ∀ i m H, W i m H →
      ((Itz K a b).stop i H ∧ Qd H) ∨ ((Itz K a b).go i H ∧ ∃ Nx : Hp → Prop, (∀ H', Nx H' → ∃ m', m' < m ∧ W (i + 1) m' H') ∧ ∀ x H', (Itz K a b).yld i H x H' → g x (wipe σ vs) H' fun σ2 H2 => wipe σ2 vs = wipe σ vs ∧ tt σ2 H2 fun b H3 =>
        if b = true then te σ2 H3 fun y H4 => ∃ acc, H4 D = some (.lst acc) ∧ acc.length < sizeLine ∧ Nx (upd H4 D (.lst (acc ++ [y]))) else Nx H3) := by
  refine ⟨fun i m H => m = xs.length - i ∧ i ≤ xs.length ∧ Pv i H, ⟨xs.length, rfl, Nat.zero_le _, h0⟩, ?_⟩
  rintro i m H ⟨rfl, hi, p⟩
  obtain ⟨qx, qy⟩ := hq i H p
  by_cases hlt : i < xs.length
  · refine .inr ⟨⟨xs, ys, _, _, qx, qy, List.getElem?_eq_getElem hlt, List.getElem?_eq_getElem (by omega)⟩, Pv (i + 1), fun H' p' => ⟨xs.length - (i + 1), by omega, rfl, hlt, p'⟩, fun v H' y => ?_⟩
    obtain ⟨T, x', y', rfl, hT, rfl, f1, f2⟩ := y
    exact hs i x' y' T H (f1 xs qx) (f2 ys qy) p hT
  · have e : i = xs.length := by omega
    subst e
    exact .inl ⟨⟨xs, ys, qx, qy, .inl (Nat.le_refl _)⟩, hd H p⟩
theorem lc_zipT {K : PySem.W.Frag} {a b : Addr} {xs ys : List V} {g : TG} {tt : TT} {te : TE} {vs : List Nat} {σ : L2.St} {H1 : Hp} {D : Addr} {Qd : Hp → Prop} (hl : xs.length = ys.length) (Pv : Nat → Hp → Prop) (h0 : Pv 0 (upd H1 D (.lst []))) (hq : ∀ i H, Pv i H → SqT K H a xs ∧ SqT K H b ys)
    (hs : ∀ (i : Nat) (x y : V) (T : Addr) (H : Hp), xs[i]? = some x → ys[i]? = some y → Pv i H → H T = none → g (.ref T) (wipe σ vs) (upd H T (.tup [x, y])) fun σ2 H2 => wipe σ2 vs = wipe σ vs ∧ tt σ2 H2 fun b H3 =>
      if b = true then te σ2 H3 fun y H4 => ∃ acc, H4 D = some (.lst acc) ∧ acc.length < sizeLine ∧ Pv (i + 1) (upd H4 D (.lst (acc ++ [y]))) else Pv (i + 1) H3) (hd : ∀ H, Pv xs.length H → Qd H) :
    ∃ W : Nat → Nat → Hp → Prop, (∃ m, W 0 m (upd H1 D (.lst []))) ∧ ∀ i m H, W i m H →
      ((RZ.ItzT K a b).stop i H ∧ Qd H) ∨ ((RZ.ItzT K a b).go i H ∧ ∃ Nx : Hp → Prop, (∀ H', Nx H' → ∃ m', m' < m ∧ W (i + 1) m' H') ∧ ∀ x H', (RZ.ItzT K a b).yld i H x H' → g x (wipe σ vs) H' fun σ2 H2 => wipe σ2 vs = wipe σ vs ∧ tt σ2 H2 fun b H3 =>
        if b = true then te σ2 H3 fun y H4 => ∃ acc, H4 D = some (.lst acc) ∧ acc.length < sizeLine ∧ Nx (upd H4 D (.lst (acc ++ [y]))) else Nx H3) := by
  refine ⟨fun i m H => m = xs.length - i ∧ i ≤ xs.length ∧ Pv i H, ⟨xs.length, rfl, Nat.zero_le _, h0⟩, ?_⟩
  rintro i m H ⟨rfl, hi, p⟩
  obtain ⟨qx, qy⟩ := hq i H p
  by_cases hlt : i < xs.length
  · refine .inr ⟨⟨xs, ys, _, _, qx, qy, List.getElem?_eq_getElem hlt, List.getElem?_eq_getElem (by omega)⟩, Pv (i + 1), fun H' p' => ⟨xs.length - (i + 1), by omega, rfl, hlt, p'⟩, fun v H' y => ?_⟩
    obtain ⟨T, x', y', rfl, hT, rfl, f1, f2⟩ := y
    exact hs i x' y' T H (f1 xs qx) (f2 ys qy) p hT
  · have e : i = xs.length := by omega
    subst e
    exact .inl ⟨⟨xs, ys, qx, qy, .inl (Nat.le_refl _)⟩, hd H p⟩
section
variable {K : PySem.W.Frag}
theorem kit_list_yes : PySem.W.kitAny K (.type "list") [.type "list", .type "tuple"] = some true := by simp [PySem.W.kitAny, ki_ll]
theorem kit_tup_yes : PySem.W.kitAny K (.type "tuple") [.type "list", .type "tuple"] = some true := by simp [PySem.W.kitAny, ki_tl, ki_tt]
theorem kit_non_no : PySem.W.kitAny K (.type "NoneType") [.type "list", .type "tuple"] = some false := by simp [PySem.W.kitAny, ki_nl, ki_nt]
theorem kit_int_no : PySem.W.kitAny K (.type "int") [.type "list", .type "tuple"] = some false := by simp [PySem.W.kitAny, ki_il, ki_it]
theorem kit_str_no : PySem.W.kitAny K (.type "str") [.type "list", .type "tuple"] = some false := by simp [PySem.W.kitAny, ki_sl, ki_st]
theorem ki_ns : PySem.W.kitOne K (.type "NoneType") (.type "str") = some false := kit_ty (by decide +kernel)
end
def PlB : Nat → PyData → Prop
  | 0, d => d = .none ∨ (∃ i, d = .int i) ∨ ∃ x, d = .str x
  | n + 1, d => (d = .none ∨ (∃ i, d = .int i) ∨ ∃ x, d = .str x) ∨ ∃ ds, (d = .list ds ∨ d = .tuple ds) ∧ ds.length ≤ 900 ∧ ∀ e ∈ ds, PlB n e
def spSameB (K : PySem.W.Frag) (n : Nat) : Sp := fun vs H Q _ => ∃ (x y : V) (d : PyData), vs = [x, y] ∧ Dp K H x d ∧ Dp K H y d ∧ PlB n d ∧ ∀ H', Same H H' → Q (.bl true) H'
theorem all_true (n : Nat) : (List.replicate n true).all id = true := by
  rw [List.all_eq_true]
  intro x hx
  rw [(List.mem_replicate.mp hx).2]
  rfl
section
variable {P : Program} {w : World} {K : PySem.W.Frag} {mg : Str → Option Value} {base : Heap}
theorem ok_same_step {f : Addr} {fd : FuncData} {k n : Nat} {sp' : Sp} (F : Fun K "_law_same" "_law_same" s_same f fd) (B : Blt mg) (D_same : DefOk P w K mg base k "_law_same" ["_law_found", "_law_due"] sp')
    (hsp : ∀ m vs H Q E, n = m + 1 → spSameB K m vs H Q E → sp' vs H Q E) : FnOk P w K mg base CX0 (k + 1) f fd ["_law_found", "_law_due"] (spSameB K n) := by
  refine F.ok sc_same (fun vs H Q E h => ?_) (fun cdv A outer s H vs Q E hr h => ?_)
  · obtain ⟨x, y, d, rfl, _⟩ := h
    rfl
  · obtain ⟨x, y, d, rfl, hx, hy, hp, q⟩ := h
    refine ⟨_, pss_cons (ps_if (pt_val (pe_callB call_isiT (by rfl) B.isinstance (by decide +kernel) (pa_cons (pv 1) (pa_cons (pe_tup (pa_cons (pe_bltn (v := .ty "list") (by rfl) B.list (by decide +kernel) rfl) (pa_cons (pe_bltn (v := .ty "tuple") (by rfl) B.tuple (by decide +kernel) rfl) pa_nil))) pa_nil))))
      (pss_cons (ps_if (pt_cmpR op_ne (pe_callB call_isi (by rfl) B.isinstance (by decide +kernel) (pa_cons (pv 1) (pa_cons (pe_bltn (v := .ty "list") (by rfl) B.list (by decide +kernel) rfl) pa_nil))) (pe_callB call_isi (by rfl) B.isinstance (by decide +kernel) (pa_cons (pv 0) (pa_cons (pe_bltn (v := .ty "list") (by rfl) B.list (by decide +kernel) rfl) pa_nil))) (nomark _))
        (pss_one (ps_ret pe_bl)) pss_nil)
      (pss_cons (ps_if (pt_cmpR op_ne (pe_callB call_isi (by rfl) B.isinstance (by decide +kernel) (pa_cons (pv 1) (pa_cons (pe_bltn (v := .ty "tuple") (by rfl) B.tuple (by decide +kernel) rfl) pa_nil))) (pe_callB call_isi (by rfl) B.isinstance (by decide +kernel) (pa_cons (pv 0) (pa_cons (pe_bltn (v := .ty "tuple") (by rfl) B.tuple (by decide +kernel) rfl) pa_nil))) (nomark _))
        (pss_one (ps_ret pe_bl)) pss_nil)
      (pss_one (ps_ret (pe_and (pe_cmpR op_eq (pe_callB call_len_seq (by rfl) B.len (by decide +kernel) (pa_cons (pv 0) pa_nil)) (pe_callB call_len_seq (by rfl) B.len (by decide +kernel) (pa_cons (pv 1) pa_nil)) (nomark _)) (pe_one (pe_callB (cr_all rfl) (by rfl) B.all (by decide +kernel) (pa_cons (pe_lc (own := [("_law_one", 2), ("_law_other", 3)]) (g := gTup K 2 (gCons (gName 2) (gCons (gName 3) (gNil)))) (tt := tYes) rfl sc_same.nd (RZ.pi_zipA (by rfl) B.zip (pa_cons (pv 0) (pa_cons (pv 1) pa_nil))) (blkOk_by (own := [("_law_one", 2), ("_law_other", 3)]) (N := ["_law_found", "_law_due", "_law_one", "_law_other"]) (sc := defScope s_same) (by decide +kernel)) (fun _ _ _ _ _ => pg_tup rfl (pgs_cons (pg_name (i := 2) sc_same.nd rfl (Or.inl rfl)) (pgs_cons (pg_name (i := 3) sc_same.nd rfl (Or.inl rfl)) pgs_nil))) (fun _ _ _ _ _ => pts_nil) (fun _ _ _ _ _ => pe_def D_same (hr.mono (by omega)) (by rfl) (pa_cons (pv 2) (pa_cons (pv 3) pa_nil)))) pa_nil)))))))) pss_nil)
    (pss_cons (ps_if (PW.pt (pw_or (pt_cmpR op_isN (pv 1) pe_non (nomark _)) (pw_or1 (pt_val (pe_callB call_isi (by rfl) B.isinstance (by decide +kernel) (pa_cons (pv 1) (pa_cons (pe_bltn (v := .ty "str") (by rfl) B.str (by decide +kernel) rfl) pa_nil)))))))
      (pss_one (ps_ret (pe_and (pe_cmpR op_eq (pv 0) (pv 1) (nomark _)) (pe_one (pe_cmpR op_eq (pe_callB call_isi (by rfl) B.isinstance (by decide +kernel) (pa_cons (pv 0) (pa_cons (pe_bltn (v := .ty "str") (by rfl) B.str (by decide +kernel) rfl) pa_nil))) (pe_callB call_isi (by rfl) B.isinstance (by decide +kernel) (pa_cons (pv 1) (pa_cons (pe_bltn (v := .ty "str") (by rfl) B.str (by decide +kernel) rfl) pa_nil))) (nomark _)))))) pss_nil)
    (pss_one (ps_ret (pe_and (pe_callB call_isi (by rfl) B.isinstance (by decide +kernel) (pa_cons (pv 0) (pa_cons (pe_bltn (v := .ty "int") (by rfl) B.int (by decide +kernel) rfl) pa_nil))) (pe_and (pe_not (pe_callB call_isi (by rfl) B.isinstance (by decide +kernel) (pa_cons (pv 0) (pa_cons (pe_bltn (v := .ty "bool") (by rfl) B.bool (by decide +kernel) rfl) pa_nil)))) (pe_one (pe_cmpR op_eq (pv 0) (pv 1) (nomark _)))))))), ?_⟩
    have hcase : (d = .none ∨ (∃ i, d = .int i) ∨ ∃ x, d = .str x) ∨ ∃ m ds, n = m + 1 ∧ (d = .list ds ∨ d = .tuple ds) ∧ ds.length ≤ 900 ∧ ∀ e ∈ ds, PlB m e := by
      cases n with
      | zero => exact .inl hp
      | succ m =>
        rcases hp with h | ⟨ds, h1, h3, h2⟩
        · exact .inl h
        · exact .inr ⟨m, ds, rfl, h1, h3, h2⟩
    refine ⟨_, rfl, by show 2 ≤ sizeLine; decide, fun tp ntp => ?_⟩
    have s0 := same_new (o := .tup [V.ty "list", V.ty "tuple"]) ntp
    have q0 := q _ s0
    have hx0 := dp_same s0 _ _ hx
    have hy0 := dp_same s0 _ _ hy
    have hcl : Paired ClsV [V.ty "list", V.ty "tuple"] [.type "list", .type "tuple"] := .cons (.ty _) (.cons (.ty _) .nil)
    rcases hcase with (rfl | ⟨i, rfl⟩ | ⟨z, rfl⟩) | ⟨m, ds, hn, hd, hdl, hall⟩
    · cases hx
      cases hy
      refine ⟨_, tp, _, _, _, _, rfl, upd_same, hcl, .base .non, kit_non_no, _, rfl, ?_⟩
      refine iteF ?_
      refine ⟨_, rfl, rfl, _, rfl, ?_⟩
      refine iteT ?_
      refine ⟨_, rfl, _, rfl, rfl, _, rfl, ?_⟩
      rw [decide_eq_true rfl]
      refine iteT ?_
      refine ⟨_, rfl, _, _, _, _, _, rfl, .ty _, .base .non, ki_ns, _, rfl, _, _, _, _, _, rfl, .ty _, .base .non, ki_ns, rfl, q0⟩
    · cases hx
      cases hy
      refine ⟨_, tp, _, _, _, _, rfl, upd_same, hcl, .base (.int i), kit_int_no, _, rfl, ?_⟩
      refine iteF ?_
      refine ⟨_, rfl, rfl, _, rfl, ?_⟩
      refine iteF ?_
      refine ⟨_, rfl, _, _, _, _, _, rfl, .ty _, .base (.int i), ki_is, _, rfl, ?_⟩
      refine iteF ?_
      refine ⟨_, rfl, _, _, _, _, _, rfl, .ty _, .base (.int i), ki_ii, _, rfl, ?_⟩
      refine iteT ?_
      refine ⟨_, rfl, _, _, _, _, _, rfl, .ty _, .base (.int i), ki_ib, _, rfl, _, rfl, ?_⟩
      refine iteT ?_
      refine ⟨_, rfl, _, rfl, rfl, ?_⟩
      rw [decide_eq_true rfl]
      exact q0
    · cases hx
      cases hy
      refine ⟨_, tp, _, _, _, _, rfl, upd_same, hcl, .base (.str z), kit_str_no, _, rfl, ?_⟩
      refine iteF ?_
      refine ⟨_, rfl, rfl, _, rfl, ?_⟩
      refine iteF ?_
      refine ⟨_, rfl, _, _, _, _, _, rfl, .ty _, .base (.str z), ki_ss, _, rfl, ?_⟩
      refine iteT ?_
      refine ⟨_, rfl, _, rfl, rfl, _, rfl, ?_⟩
      rw [decide_eq_true rfl]
      refine iteT ?_
      refine ⟨_, rfl, _, _, _, _, _, rfl, .ty _, .base (.str z), ki_ss, _, rfl, _, _, _, _, _, rfl, .ty _, .base (.str z), ki_ss, rfl, q0⟩
    · rcases hd with rfl | rfl
      · cases hx0 with
        | @lst a xs _ hxs hxa =>
          cases hy0 with
          | @lst b ys _ hys hya =>
            have hlen : xs.length = ys.length := (dpall_len hxa).trans (dpall_len hya).symm
            refine ⟨_, tp, _, _, _, _, rfl, upd_same, hcl, ty_list hys, kit_list_yes, _, rfl, ?_⟩
            refine iteT ?_
            refine ⟨_, rfl, _, _, _, _, _, rfl, .ty _, ty_list hys, ki_ll, _, rfl, _, _, _, _, _, rfl, .ty _, ty_list hxs, ki_ll, rfl, _, rfl, ?_⟩
            refine iteF ?_
            refine ⟨_, rfl, _, _, _, _, _, rfl, .ty _, ty_list hys, ki_lt, _, rfl, _, _, _, _, _, rfl, .ty _, ty_list hxs, ki_lt, rfl, _, rfl, ?_⟩
            refine iteF ?_
            generalize upd H tp (.tup [V.ty "list", V.ty "tuple"]) = H0 at s0 hxs hxa hys hya
            refine ⟨_, rfl, _, _, rfl, .inl hxs, _, rfl, _, _, rfl, .inl hys, rfl, _, rfl, ?_⟩
            rw [hlen, decide_eq_true rfl]
            refine iteT ?_
            refine ⟨_, rfl, _, rfl, a, b, xs, ys, rfl, .inl ⟨hxs, hys, fun D nD => lc_zipL hlen (fun i H' => H' D = some (.lst ((List.replicate i true).map V.bl)) ∧ Same H0 H') ⟨upd_same, same_new nD⟩ ?_ ?_ ?_⟩⟩
            · rintro i H' ⟨_, sm⟩
              exact ⟨sm.seq hxs, sm.seq hys⟩
            · rintro i x y T H' hx hy ⟨hD, sm⟩ nT
              have s1 := same_new (o := .tup [x, y]) nT
              have hil : i < xs.length := (List.getElem?_eq_some_iff.mp hx).1
              obtain ⟨d1, e1, p1⟩ := dpall_get hxa hx
              obtain ⟨d2, e2, p2⟩ := dpall_get hya hy
              rw [e1] at e2
              cases e2
              refine ⟨T, _, rfl, SqT.of upd_same, rfl, _, _, rfl, _, _, rfl, rfl, rfl, ?_⟩
              refine ⟨_, rfl, _, rfl, hsp m _ _ _ _ hn ⟨x, y, d1, rfl, dp_same (sm.trans s1) _ _ p1, dp_same (sm.trans s1) _ _ p2, hall d1 (List.mem_of_getElem? e1), fun H2 sm2 => ?_⟩⟩
              have hxl : xs.length ≤ 900 := by rw [dpall_len hxa]; exact hdl
              refine ⟨_, sm2 _ _ (s1 _ _ hD), small1000 (by rw [List.length_map, List.length_replicate]; omega), ?_, same_mut (sm.trans (s1.trans sm2)) nD⟩
              rw [upd_same, List.replicate_succ', List.map_append]
              rfl
            · rintro H' ⟨hD, sm⟩
              refine ⟨D, _, rfl, SqL.of hD, ?_⟩
              rw [all_true]
              exact q H' (s0.trans sm)
      · cases hx0 with
        | @tup a xs _ hxs hxa =>
          cases hy0 with
          | @tup b ys _ hys hya =>
            have hlen : xs.length = ys.length := (dpall_len hxa).trans (dpall_len hya).symm
            refine ⟨_, tp, _, _, _, _, rfl, upd_same, hcl, ty_tup hys, kit_tup_yes, _, rfl, ?_⟩
            refine iteT ?_
            refine ⟨_, rfl, _, _, _, _, _, rfl, .ty _, ty_tup hys, ki_tl, _, rfl, _, _, _, _, _, rfl, .ty _, ty_tup hxs, ki_tl, rfl, _, rfl, ?_⟩
            refine iteF ?_
            refine ⟨_, rfl, _, _, _, _, _, rfl, .ty _, ty_tup hys, ki_tt, _, rfl, _, _, _, _, _, rfl, .ty _, ty_tup hxs, ki_tt, rfl, _, rfl, ?_⟩
            refine iteF ?_
            generalize upd H tp (.tup [V.ty "list", V.ty "tuple"]) = H0 at s0 hxs hxa hys hya
            refine ⟨_, rfl, _, _, rfl, .inr hxs, _, rfl, _, _, rfl, .inr hys, rfl, _, rfl, ?_⟩
            rw [hlen, decide_eq_true rfl]
            refine iteT ?_
            refine ⟨_, rfl, _, rfl, a, b, xs, ys, rfl, .inr ⟨hxs, hys, fun D nD => lc_zipT hlen (fun i H' => H' D = some (.lst ((List.replicate i true).map V.bl)) ∧ Same H0 H') ⟨upd_same, same_new nD⟩ ?_ ?_ ?_⟩⟩
            · rintro i H' ⟨_, sm⟩
              exact ⟨same_tup sm hxs, same_tup sm hys⟩
            · rintro i x y T H' hx hy ⟨hD, sm⟩ nT
              have s1 := same_new (o := .tup [x, y]) nT
              have hil : i < xs.length := (List.getElem?_eq_some_iff.mp hx).1
              obtain ⟨d1, e1, p1⟩ := dpall_get hxa hx
              obtain ⟨d2, e2, p2⟩ := dpall_get hya hy
              rw [e1] at e2
              cases e2
              refine ⟨T, _, rfl, SqT.of upd_same, rfl, _, _, rfl, _, _, rfl, rfl, rfl, ?_⟩
              refine ⟨_, rfl, _, rfl, hsp m _ _ _ _ hn ⟨x, y, d1, rfl, dp_same (sm.trans s1) _ _ p1, dp_same (sm.trans s1) _ _ p2, hall d1 (List.mem_of_getElem? e1), fun H2 sm2 => ?_⟩⟩
              have hxl : xs.length ≤ 900 := by rw [dpall_len hxa]; exact hdl
              refine ⟨_, sm2 _ _ (s1 _ _ hD), small1000 (by rw [List.length_map, List.length_replicate]; omega), ?_, same_mut (sm.trans (s1.trans sm2)) nD⟩
              rw [upd_same, List.replicate_succ', List.map_append]
              rfl
            · rintro H' ⟨hD, sm⟩
              refine ⟨D, _, rfl, SqL.of hD, ?_⟩
              rw [all_true]
              exact q H' (s0.trans sm)
theorem ok_same {f : Addr} {fd : FuncData} (F : Fun K "_law_same" "_law_same" s_same f fd) (B : Blt mg) (hm : mg "_law_same" = some (.ref f)) (hb : L2.Binds K fd ["_law_found", "_law_due"] []) : ∀ n, FnOk P w K mg base CX0 (n + 2) f fd ["_law_found", "_law_due"] (spSameB K n)
  | 0 => ok_same_step F B (sp' := fun _ _ _ _ => False) ⟨f, fd, ⟨fun _ _ _ _ h => h.elim, fun _ _ _ _ _ _ _ _ _ _ _ _ _ h => h.elim⟩, hm, F.kp, hb⟩ (fun m _ _ _ _ h => by cases h)
  | n + 1 => ok_same_step F B ⟨f, fd, ok_same F B hm hb n, hm, F.kp, hb⟩ (fun m _ _ _ _ h z => by cases h; exact z)
end
end FB

namespace FB
open PySem PySem.Spec PyProof.Rows L2
/-! ### a ledger in the heap -/
abbrev Rdy := Addr × Int × Addr × List OpA
/-- a tuple of rows -/
structure RowsTup (H : Hp) (o : Addr) (zs : List (Addr × Put)) : Prop where
  ls : H o = some (.tup (zs.map fun z => V.ref z.1))
  tp : ∀ z ∈ zs, H z.1 = some (.tup [.str z.2.1, .int z.2.2.1, .int z.2.2.2])
structure Gift where
  a : Addr
  move : Str
  low : Str
  high : Str
  group : Str
  moment : Int
  rows : Addr
  rs : List (Addr × Put)
structure GiftAt (H : Hp) (g : Gift) : Prop where
  tp : H g.a = some (.tup [.str g.move, .str g.low, .str g.high, .str g.group, .int g.moment, .ref g.rows])
  rw : RowsTup H g.rows g.rs
structure Led where
  aS : Addr
  zs : List Sp3
  aH : Addr
  F : List Addr
  ps : List Put
  last : Int
  aO : Addr
  opened : List (Str × Addr)
  aC : Addr
  chosen : List (Str × Int)
  aE : Addr
  ended : List (Str × Int)
  aR : Addr
  ready : List (Str × Rdy)
  aF : Addr
  refused : List (Str × Bool)
  aL : Addr
  holders : List (Str × Str)
  aG : Addr
  gifts : List Gift
  aA : Addr
  arrivals : List Str
def ledF (m : Led) : List (Str × V) := [("spans", .ref m.aS), ("shelf", .ref m.aH), ("latest", .int m.last), ("all_opened", .ref m.aO), ("all_chosen", .ref m.aC), ("all_ended", .ref m.aE), ("now_ready", .ref m.aR), ("now_refused", .ref m.aF), ("holders", .ref m.aL), ("gifts", .ref m.aG), ("arrivals", .ref m.aA)]
def dicts (m : Led) : List Addr := m.aO :: m.aC :: m.aE :: m.aR :: m.aF :: m.aL :: m.F
def OpsOk (H : Hp) (o : Addr) : Prop := ∃ os : List OpA, OpsAt H o os ∧ (∀ e ∈ os, OpOk e.2) ∧ 1 ≤ os.length ∧ os.length ≤ 8
theorem OpsOk.of {H H' : Hp} {o : Addr} (h : OpsOk H o) (k : ∀ b xs, H b = some (.tup xs) → H' b = some (.tup xs)) : OpsOk H' o := by
  obtain ⟨os, h1, h2⟩ := h
  exact ⟨os, ⟨k _ _ h1.ls, fun e he => k _ _ (h1.tp e he)⟩, h2⟩
structure LedAt (C CS : Addr) (H : Hp) (L : Addr) (m : Led) : Prop where
  ob : ∃ dx, H L = some (.ins C dx (ledF m))
  sp : SpansAt H m.aS m.zs
  sh : ShelfAt CS H m.aH m.F m.ps
  op : H m.aO = some (.dK (dkv V.ref m.opened))
  oo : ∀ e ∈ m.opened, OpsOk H e.2
  ch : H m.aC = some (.dK (dkv V.int m.chosen))
  en : H m.aE = some (.dK (dkv V.int m.ended))
  rd : H m.aR = some (.dK (dkv (fun r : Rdy => V.ref r.1) m.ready))
  rt : ∀ e ∈ m.ready, H e.2.1 = some (.tup [.int e.2.2.1, .ref e.2.2.2.1]) ∧ OpsAt H e.2.2.2.1 e.2.2.2.2
  rf : H m.aF = some (.dK (dkv V.bl m.refused))
  ho : H m.aL = some (.dK (dkv V.str m.holders))
  gi : H m.aG = some (.lst (m.gifts.map fun g => V.ref g.a))
  gt : ∀ g ∈ m.gifts, GiftAt H g
  ar : H m.aA = some (.lst (m.arrivals.map V.str))
  nd : (dicts m).Nodup
  gl : m.aG ≠ m.aA
  sg : m.aS ≠ m.aG
  sa : m.aS ≠ m.aA
/-- what may be written to -/
def mutL (L : Addr) (m : Led) : List Addr := L :: m.aG :: m.aA :: dicts m
structure LedRest (C CS : Addr) (H : Hp) (L : Addr) (m : Led) (x : Addr) : Prop where
  ob : L ≠ x → ∃ dx, H L = some (.ins C dx (ledF m))
  sp : m.aS ≠ x → SpansAt H m.aS m.zs
  sh : m.aH ≠ x → x ∉ m.F → ShelfAt CS H m.aH m.F m.ps
  op : m.aO ≠ x → H m.aO = some (.dK (dkv V.ref m.opened))
  oo : ∀ e ∈ m.opened, OpsOk H e.2
  ch : m.aC ≠ x → H m.aC = some (.dK (dkv V.int m.chosen))
  en : m.aE ≠ x → H m.aE = some (.dK (dkv V.int m.ended))
  rd : m.aR ≠ x → H m.aR = some (.dK (dkv (fun r : Rdy => V.ref r.1) m.ready))
  rt : ∀ e ∈ m.ready, H e.2.1 = some (.tup [.int e.2.2.1, .ref e.2.2.2.1]) ∧ OpsAt H e.2.2.2.1 e.2.2.2.2
  rf : m.aF ≠ x → H m.aF = some (.dK (dkv V.bl m.refused))
  ho : m.aL ≠ x → H m.aL = some (.dK (dkv V.str m.holders))
  gi : m.aG ≠ x → H m.aG = some (.lst (m.gifts.map fun g => V.ref g.a))
  gt : ∀ g ∈ m.gifts, GiftAt H g
  ar : m.aA ≠ x → H m.aA = some (.lst (m.arrivals.map V.str))
section
variable {C CS : Addr} {H H' : Hp} {L x : Addr} {m : Led}
theorem ShelfAt.but {p : Addr} {F : List Addr} {ps : List Put} (h : ShelfAt CS H p F ps) (kp : ∀ b o, H b = some o → b ≠ x → H' b = some o) (hp : p ≠ x) (hF : x ∉ F) : ShelfAt CS H' p F ps := by
  obtain ⟨d, S, ⟨⟨dx, h1⟩, h2, h3, h4, h5⟩, rfl, h6⟩ := h
  exact ⟨d, S, ⟨⟨dx, kp _ _ h1 hp⟩, kp _ _ h2 fun z => hF (by rw [← z]; exact List.mem_cons_self), fun e he => kp _ _ (h3 e he) fun z => hF (by rw [← z]; exact List.mem_cons_of_mem _ (List.mem_map.mpr ⟨e, he, rfl⟩)), h4, h5⟩, rfl, h6⟩
theorem GiftAt.of {g : Gift} (h : GiftAt H g) (k : ∀ b xs, H b = some (.tup xs) → H' b = some (.tup xs)) : GiftAt H' g := ⟨k _ _ h.tp, k _ _ h.rw.ls, fun z hz => k _ _ (h.rw.tp z hz)⟩
theorem LedAt.rest (h : LedAt C CS H L m) (hx : ∀ xs, H x ≠ some (.tup xs)) (kp : ∀ b o, H b = some o → b ≠ x → H' b = some o) : LedRest C CS H' L m x := by
  have kt : ∀ b xs, H b = some (.tup xs) → H' b = some (.tup xs) := fun b xs e => kp b _ e fun z => hx xs (by rw [← z]; exact e)
  exact {
    ob := fun n => let ⟨dx, e⟩ := h.ob; ⟨dx, kp _ _ e n⟩
    sp := fun n => ⟨kp _ _ h.sp.ls n, fun z hz => kt _ _ (h.sp.tp z hz)⟩
    sh := fun n nF => h.sh.but kp n nF
    op := fun n => kp _ _ h.op n
    oo := fun e he => (h.oo e he).of kt
    ch := fun n => kp _ _ h.ch n
    en := fun n => kp _ _ h.en n
    rd := fun n => kp _ _ h.rd n
    rt := fun e he => ⟨kt _ _ (h.rt e he).1, kt _ _ (h.rt e he).2.ls, fun y hy => kt _ _ ((h.rt e he).2.tp y hy)⟩
    rf := fun n => kp _ _ h.rf n
    ho := fun n => kp _ _ h.ho n
    gi := fun n => kp _ _ h.gi n
    gt := fun g hg => (h.gt g hg).of kt
    ar := fun n => kp _ _ h.ar n }
theorem LedAt.same (h : LedAt C CS H L m) (s : Same H H') : LedAt C CS H' L m := by
  have kt : ∀ b xs, H b = some (.tup xs) → H' b = some (.tup xs) := fun b xs e => s _ _ e
  exact {
    ob := let ⟨dx, e⟩ := h.ob; ⟨dx, s _ _ e⟩
    sp := h.sp.same s
    sh := h.sh.same s
    op := s _ _ h.op
    oo := fun e he => (h.oo e he).of kt
    ch := s _ _ h.ch
    en := s _ _ h.en
    rd := s _ _ h.rd
    rt := fun e he => ⟨kt _ _ (h.rt e he).1, kt _ _ (h.rt e he).2.ls, fun y hy => kt _ _ ((h.rt e he).2.tp y hy)⟩
    rf := s _ _ h.rf
    ho := s _ _ h.ho
    gi := s _ _ h.gi
    gt := fun g hg => (h.gt g hg).of kt
    ar := s _ _ h.ar
    nd := h.nd
    gl := h.gl
    sg := h.sg
    sa := h.sa }
/-- another dict is written to -/
theorem LedAt.apart (h : LedAt C CS H L m) (hx : ∃ kvs, H x = some (.dK kvs)) (nx : x ∉ dicts m) (kp : ∀ b o, H b = some o → b ≠ x → H' b = some o) : LedAt C CS H' L m := by
  obtain ⟨kvs, hx⟩ := hx
  have r := h.rest (fun xs z => by rw [hx] at z; cases z) kp
  simp only [dicts, List.mem_cons, not_or] at nx
  obtain ⟨n1, n2, n3, n4, n5, n6, nF⟩ := nx
  obtain ⟨dx, e⟩ := h.ob
  obtain ⟨dx2, d2, e2⟩ := h.sh.is
  exact ⟨r.ob (ne_of e hx (by intro z; cases z)), r.sp (ne_of h.sp.ls hx (by intro z; cases z)), r.sh (ne_of e2 hx (by intro z; cases z)) nF, r.op (Ne.symm n1), r.oo, r.ch (Ne.symm n2), r.en (Ne.symm n3), r.rd (Ne.symm n4), r.rt, r.rf (Ne.symm n5), r.ho (Ne.symm n6), r.gi (ne_of h.gi hx (by intro z; cases z)), r.gt, r.ar (ne_of h.ar hx (by intro z; cases z)), h.nd, h.gl, h.sg, h.sa⟩
theorem LedAt.keepD {d : Addr} (h : LedAt C CS H L m) (k : Keep d H H') (hd : ∃ kvs, H d = some (.dK kvs)) (nd : d ∉ dicts m) : LedAt C CS H' L m := h.apart hd nd k
/-- another list is written to -/
theorem LedAt.apartL (h : LedAt C CS H L m) (hx : ∃ xs, H x = some (.lst xs)) (n1 : x ≠ m.aS) (n2 : x ≠ m.aG) (n3 : x ≠ m.aA) (kp : ∀ b o, H b = some o → b ≠ x → H' b = some o) : LedAt C CS H' L m := by
  obtain ⟨ys, hx⟩ := hx
  have r := h.rest (fun xs z => by rw [hx] at z; cases z) kp
  obtain ⟨dx, e⟩ := h.ob
  obtain ⟨dx2, d2, e2⟩ := h.sh.is
  exact ⟨r.ob (ne_of e hx (by intro z; cases z)), r.sp n1.symm, r.sh (ne_of e2 hx (by intro z; cases z)) (h.sh.not hx (by intro kvs z; cases z)), r.op (ne_of h.op hx (by intro z; cases z)), r.oo, r.ch (ne_of h.ch hx (by intro z; cases z)), r.en (ne_of h.en hx (by intro z; cases z)), r.rd (ne_of h.rd hx (by intro z; cases z)), r.rt, r.rf (ne_of h.rf hx (by intro z; cases z)), r.ho (ne_of h.ho hx (by intro z; cases z)), r.gi n2.symm, r.gt, r.ar n3.symm, h.nd, h.gl, h.sg, h.sa⟩
theorem kp_upd {x : Addr} {o : HO} : ∀ b u, H b = some u → b ≠ x → upd H x o b = some u := fun b u e n => by rw [upd_ne n]; exact e
theorem LedAt.set_opened (h : LedAt C CS H L m) (l : List (Str × Addr)) (oo : ∀ e ∈ l, OpsOk H e.2) : LedAt C CS (upd H m.aO (.dK (dkv V.ref l))) L { m with opened := l } := by
  have kt : ∀ b xs, H b = some (.tup xs) → upd H m.aO (.dK (dkv V.ref l)) b = some (.tup xs) := fun b xs e => kp_upd b _ e (ne_of e h.op (by intro z; cases z))
  have r := h.rest (x := m.aO) (fun xs z => by rw [h.op] at z; cases z) (kp_upd (o := .dK (dkv V.ref l)))
  have nd := h.nd
  simp only [dicts, List.nodup_cons, List.mem_cons, not_or] at nd
  obtain ⟨⟨hn01, hn02, hn03, hn04, hn05, hF0⟩, ⟨hn12, hn13, hn14, hn15, hF1⟩, ⟨hn23, hn24, hn25, hF2⟩, ⟨hn34, hn35, hF3⟩, ⟨hn45, hF4⟩, hF5, _⟩ := nd
  obtain ⟨dx, e⟩ := h.ob
  obtain ⟨dx2, d2, e2⟩ := h.sh.is
  exact ⟨r.ob (ne_of e h.op (by intro z; cases z)), r.sp (ne_of h.sp.ls h.op (by intro z; cases z)), r.sh (ne_of e2 h.op (by intro z; cases z)) hF0, upd_same, fun e he => (oo e he).of kt, r.ch (fun z => hn01 z.symm), r.en (fun z => hn02 z.symm), r.rd (fun z => hn03 z.symm), r.rt, r.rf (fun z => hn04 z.symm), r.ho (fun z => hn05 z.symm), r.gi (ne_of h.gi h.op (by intro z; cases z)), r.gt, r.ar (ne_of h.ar h.op (by intro z; cases z)), h.nd, h.gl, h.sg, h.sa⟩
theorem LedAt.set_chosen (h : LedAt C CS H L m) (l : List (Str × Int)) : LedAt C CS (upd H m.aC (.dK (dkv V.int l))) L { m with chosen := l } := by
  have kt : ∀ b xs, H b = some (.tup xs) → upd H m.aC (.dK (dkv V.int l)) b = some (.tup xs) := fun b xs e => kp_upd b _ e (ne_of e h.ch (by intro z; cases z))
  have r := h.rest (x := m.aC) (fun xs z => by rw [h.ch] at z; cases z) (kp_upd (o := .dK (dkv V.int l)))
  have nd := h.nd
  simp only [dicts, List.nodup_cons, List.mem_cons, not_or] at nd
  obtain ⟨⟨hn01, hn02, hn03, hn04, hn05, hF0⟩, ⟨hn12, hn13, hn14, hn15, hF1⟩, ⟨hn23, hn24, hn25, hF2⟩, ⟨hn34, hn35, hF3⟩, ⟨hn45, hF4⟩, hF5, _⟩ := nd
  obtain ⟨dx, e⟩ := h.ob
  obtain ⟨dx2, d2, e2⟩ := h.sh.is
  exact ⟨r.ob (ne_of e h.ch (by intro z; cases z)), r.sp (ne_of h.sp.ls h.ch (by intro z; cases z)), r.sh (ne_of e2 h.ch (by intro z; cases z)) hF1, r.op (fun z => hn01 z), r.oo, upd_same, r.en (fun z => hn12 z.symm), r.rd (fun z => hn13 z.symm), r.rt, r.rf (fun z => hn14 z.symm), r.ho (fun z => hn15 z.symm), r.gi (ne_of h.gi h.ch (by intro z; cases z)), r.gt, r.ar (ne_of h.ar h.ch (by intro z; cases z)), h.nd, h.gl, h.sg, h.sa⟩
theorem LedAt.set_ended (h : LedAt C CS H L m) (l : List (Str × Int)) : LedAt C CS (upd H m.aE (.dK (dkv V.int l))) L { m with ended := l } := by
  have kt : ∀ b xs, H b = some (.tup xs) → upd H m.aE (.dK (dkv V.int l)) b = some (.tup xs) := fun b xs e => kp_upd b _ e (ne_of e h.en (by intro z; cases z))
  have r := h.rest (x := m.aE) (fun xs z => by rw [h.en] at z; cases z) (kp_upd (o := .dK (dkv V.int l)))
  have nd := h.nd
  simp only [dicts, List.nodup_cons, List.mem_cons, not_or] at nd
  obtain ⟨⟨hn01, hn02, hn03, hn04, hn05, hF0⟩, ⟨hn12, hn13, hn14, hn15, hF1⟩, ⟨hn23, hn24, hn25, hF2⟩, ⟨hn34, hn35, hF3⟩, ⟨hn45, hF4⟩, hF5, _⟩ := nd
  obtain ⟨dx, e⟩ := h.ob
  obtain ⟨dx2, d2, e2⟩ := h.sh.is
  exact ⟨r.ob (ne_of e h.en (by intro z; cases z)), r.sp (ne_of h.sp.ls h.en (by intro z; cases z)), r.sh (ne_of e2 h.en (by intro z; cases z)) hF2, r.op (fun z => hn02 z), r.oo, r.ch (fun z => hn12 z), upd_same, r.rd (fun z => hn23 z.symm), r.rt, r.rf (fun z => hn24 z.symm), r.ho (fun z => hn25 z.symm), r.gi (ne_of h.gi h.en (by intro z; cases z)), r.gt, r.ar (ne_of h.ar h.en (by intro z; cases z)), h.nd, h.gl, h.sg, h.sa⟩
theorem LedAt.set_ready (h : LedAt C CS H L m) (l : List (Str × Rdy)) (rt : ∀ e ∈ l, H e.2.1 = some (.tup [.int e.2.2.1, .ref e.2.2.2.1]) ∧ OpsAt H e.2.2.2.1 e.2.2.2.2) : LedAt C CS (upd H m.aR (.dK (dkv (fun r : Rdy => V.ref r.1) l))) L { m with ready := l } := by
  have kt : ∀ b xs, H b = some (.tup xs) → upd H m.aR (.dK (dkv (fun r : Rdy => V.ref r.1) l)) b = some (.tup xs) := fun b xs e => kp_upd b _ e (ne_of e h.rd (by intro z; cases z))
  have r := h.rest (x := m.aR) (fun xs z => by rw [h.rd] at z; cases z) (kp_upd (o := .dK (dkv (fun r : Rdy => V.ref r.1) l)))
  have nd := h.nd
  simp only [dicts, List.nodup_cons, List.mem_cons, not_or] at nd
  obtain ⟨⟨hn01, hn02, hn03, hn04, hn05, hF0⟩, ⟨hn12, hn13, hn14, hn15, hF1⟩, ⟨hn23, hn24, hn25, hF2⟩, ⟨hn34, hn35, hF3⟩, ⟨hn45, hF4⟩, hF5, _⟩ := nd
  obtain ⟨dx, e⟩ := h.ob
  obtain ⟨dx2, d2, e2⟩ := h.sh.is
  exact ⟨r.ob (ne_of e h.rd (by intro z; cases z)), r.sp (ne_of h.sp.ls h.rd (by intro z; cases z)), r.sh (ne_of e2 h.rd (by intro z; cases z)) hF3, r.op (fun z => hn03 z), r.oo, r.ch (fun z => hn13 z), r.en (fun z => hn23 z), upd_same, fun e he => ⟨kt _ _ (rt e he).1, kt _ _ (rt e he).2.ls, fun y hy => kt _ _ ((rt e he).2.tp y hy)⟩, r.rf (fun z => hn34 z.symm), r.ho (fun z => hn35 z.symm), r.gi (ne_of h.gi h.rd (by intro z; cases z)), r.gt, r.ar (ne_of h.ar h.rd (by intro z; cases z)), h.nd, h.gl, h.sg, h.sa⟩
theorem LedAt.set_refused (h : LedAt C CS H L m) (l : List (Str × Bool)) : LedAt C CS (upd H m.aF (.dK (dkv V.bl l))) L { m with refused := l } := by
  have kt : ∀ b xs, H b = some (.tup xs) → upd H m.aF (.dK (dkv V.bl l)) b = some (.tup xs) := fun b xs e => kp_upd b _ e (ne_of e h.rf (by intro z; cases z))
  have r := h.rest (x := m.aF) (fun xs z => by rw [h.rf] at z; cases z) (kp_upd (o := .dK (dkv V.bl l)))
  have nd := h.nd
  simp only [dicts, List.nodup_cons, List.mem_cons, not_or] at nd
  obtain ⟨⟨hn01, hn02, hn03, hn04, hn05, hF0⟩, ⟨hn12, hn13, hn14, hn15, hF1⟩, ⟨hn23, hn24, hn25, hF2⟩, ⟨hn34, hn35, hF3⟩, ⟨hn45, hF4⟩, hF5, _⟩ := nd
  obtain ⟨dx, e⟩ := h.ob
  obtain ⟨dx2, d2, e2⟩ := h.sh.is
  exact ⟨r.ob (ne_of e h.rf (by intro z; cases z)), r.sp (ne_of h.sp.ls h.rf (by intro z; cases z)), r.sh (ne_of e2 h.rf (by intro z; cases z)) hF4, r.op (fun z => hn04 z), r.oo, r.ch (fun z => hn14 z), r.en (fun z => hn24 z), r.rd (fun z => hn34 z), r.rt, upd_same, r.ho (fun z => hn45 z.symm), r.gi (ne_of h.gi h.rf (by intro z; cases z)), r.gt, r.ar (ne_of h.ar h.rf (by intro z; cases z)), h.nd, h.gl, h.sg, h.sa⟩
theorem LedAt.set_holders (h : LedAt C CS H L m) (l : List (Str × Str)) : LedAt C CS (upd H m.aL (.dK (dkv V.str l))) L { m with holders := l } := by
  have kt : ∀ b xs, H b = some (.tup xs) → upd H m.aL (.dK (dkv V.str l)) b = some (.tup xs) := fun b xs e => kp_upd b _ e (ne_of e h.ho (by intro z; cases z))
  have r := h.rest (x := m.aL) (fun xs z => by rw [h.ho] at z; cases z) (kp_upd (o := .dK (dkv V.str l)))
  have nd := h.nd
  simp only [dicts, List.nodup_cons, List.mem_cons, not_or] at nd
  obtain ⟨⟨hn01, hn02, hn03, hn04, hn05, hF0⟩, ⟨hn12, hn13, hn14, hn15, hF1⟩, ⟨hn23, hn24, hn25, hF2⟩, ⟨hn34, hn35, hF3⟩, ⟨hn45, hF4⟩, hF5, _⟩ := nd
  obtain ⟨dx, e⟩ := h.ob
  obtain ⟨dx2, d2, e2⟩ := h.sh.is
  exact ⟨r.ob (ne_of e h.ho (by intro z; cases z)), r.sp (ne_of h.sp.ls h.ho (by intro z; cases z)), r.sh (ne_of e2 h.ho (by intro z; cases z)) hF5, r.op (fun z => hn05 z), r.oo, r.ch (fun z => hn15 z), r.en (fun z => hn25 z), r.rd (fun z => hn35 z), r.rt, r.rf (fun z => hn45 z), upd_same, r.gi (ne_of h.gi h.ho (by intro z; cases z)), r.gt, r.ar (ne_of h.ar h.ho (by intro z; cases z)), h.nd, h.gl, h.sg, h.sa⟩
end
end FB

namespace FB
open PySem PySem.Spec PyProof.Rows L2
structure LdCls (K : PySem.W.Frag) (C : Addr) : Prop where
  cl : Cls K C
  spans : NoAttr K C "spans"
  shelf : NoAttr K C "shelf"
  latest : NoAttr K C "latest"
  all_opened : NoAttr K C "all_opened"
  all_chosen : NoAttr K C "all_chosen"
  all_ended : NoAttr K C "all_ended"
  now_ready : NoAttr K C "now_ready"
  now_refused : NoAttr K C "now_refused"
  holders : NoAttr K C "holders"
  gifts : NoAttr K C "gifts"
  arrivals : NoAttr K C "arrivals"
/-- objects made one by one while the instance at p grows -/
structure Built (H0 H : Hp) (p : Addr) (i : HO) (qs : List (Addr × HO)) : Prop where
  here : H p = some i
  all : ∀ q ∈ qs, H q.1 = some q.2
  ne : ∀ q ∈ qs, q.1 ≠ p
  nd : (qs.map (·.1)).Nodup
  kp : ∀ b o, H0 b = some o → b ≠ p → H b = some o
  fr : ∀ q ∈ qs, H0 q.1 = none
section
variable {H0 H : Hp} {p d : Addr} {i i' o : HO} {qs : List (Addr × HO)}
theorem Built.fld (B : Built H0 H p i qs) (i' : HO) : Built H0 (upd H p i') p i' qs :=
  ⟨upd_same, fun q hq => by rw [upd_ne (B.ne q hq)]; exact B.all q hq, B.ne, B.nd, fun b u e n => by rw [upd_ne n]; exact B.kp b u e n, B.fr⟩
theorem Built.new (B : Built H0 H p i qs) (hd : H d = none) (o : HO) (hp0 : ∃ u, H0 p = some u) : Built H0 (upd H d o) p i (qs ++ [(d, o)]) := by
  have npd : p ≠ d := ne_of_none B.here hd
  have nq : ∀ q ∈ qs, q.1 ≠ d := fun q hq => ne_of_none (B.all q hq) hd
  refine ⟨by rw [upd_ne npd]; exact B.here, fun q hq => ?_, fun q hq => ?_, ?_, fun b u e n => ?_, fun q hq => ?_⟩
  · rcases List.mem_append.mp hq with h | h
    · rw [upd_ne (nq q h)]; exact B.all q h
    · rw [show q = (d, o) by simpa using h]; exact upd_same
  · rcases List.mem_append.mp hq with h | h
    · exact B.ne q h
    · rw [show q = (d, o) by simpa using h]; exact npd.symm
  · rw [List.map_append]
    refine nodup_snoc B.nd fun h => ?_
    obtain ⟨q, hq, e⟩ := List.mem_map.mp h
    exact nq q hq e
  · have h1 := B.kp b u e n
    rw [upd_ne (ne_of_none h1 hd)]; exact h1
  · rcases List.mem_append.mp hq with h | h
    · exact B.fr q h
    · rw [show q = (d, o) by simpa using h]
      cases e : H0 d with
      | none => rfl
      | some u => rw [B.kp d u e npd.symm] at hd; cases hd
end
def led0 (aS : Addr) (zs : List Sp3) (aH dH aO aC aE aR aF aL aG aA : Addr) : Led := { aS := aS, zs := zs, aH := aH, F := [dH], ps := [], last := 0, aO := aO, opened := [], aC := aC, chosen := [], aE := aE, ended := [], aR := aR, ready := [], aF := aF, refused := [], aL := aL, holders := [], aG := aG, gifts := [], aA := aA, arrivals := [] }
def spLedInit (C CS : Addr) : Sp := fun vs H Q _ => ∃ (p dx a : Addr) (zs : List Sp3), vs = [.ref p, .ref a] ∧ H p = some (.ins C dx []) ∧ SpansAt H a zs ∧ zs.length ≤ 900 ∧
  ∀ (aS aH dH aO aC aE aR aF aL aG aA : Addr) (H' : Hp), LedAt C CS H' p (led0 aS zs aH dH aO aC aE aR aF aL aG aA) → (∀ b ∈ aS :: mutL p (led0 aS zs aH dH aO aC aE aR aF aL aG aA), b ≠ p → H b = none) → (∀ b o, H b = some o → b ≠ p → H' b = some o) → Q .non H'
section
variable {P : Program} {w : World} {K : PySem.W.Frag} {mg : Str → Option Value} {base : Heap}
theorem ok_led_init {f C CS : Addr} {fd : FuncData} (F : Fun K "__init__" "Ledger.__init__" s_Ledger___init__ f fd) (B : Blt mg) (T : LdCls K C) (D_Shelf : MakeOk P w K mg base 1 CS ["self"] (spShInit CS)) (M_Shelf : mg "Shelf" = some (.ref CS)) : FnOk P w K mg base CX0 3 f fd ["self", "spans"] (spLedInit C CS) := by
  refine F.ok sc_Ledger___init__ (fun vs H Q E h => ?_) (fun cdv A outer s H vs Q E hr h => ?_)
  · obtain ⟨p, dx, a, zs, rfl, _⟩ := h
    rfl
  · obtain ⟨p, dx, a, zs, rfl, hp, hZ, hzl, q⟩ := h
    refine ⟨_, pss_cons (ps_fld (pv 0) (pe_callTy call_list_of (by rfl) B.list (by decide +kernel) (pa_cons (pv 1) pa_nil)) rfl)
    (pss_cons (ps_fld (pv 0) (pe_mk0 D_Shelf M_Shelf (hr.mono (by omega)) (by rfl)) rfl)
    (pss_cons (ps_fld (pv 0) pe_int rfl)
    (pss_cons (ps_fld (pv 0) pe_dnewK rfl)
    (pss_cons (ps_fld (pv 0) pe_dnewK rfl)
    (pss_cons (ps_fld (pv 0) pe_dnewK rfl)
    (pss_cons (ps_fld (pv 0) pe_dnewK rfl)
    (pss_cons (ps_fld (pv 0) pe_dnewK rfl)
    (pss_cons (ps_fld (pv 0) pe_dnewK rfl)
    (pss_cons (ps_fld (pv 0) (pe_lst pa_nil) rfl)
    (pss_one (ps_fld (pv 0) (pe_lst pa_nil) rfl))))))))))), ?_⟩
    have hp0 : ∃ u, H p = some u := ⟨_, hp⟩
    have B0 : Built H H p (.ins C dx []) [] := ⟨hp, fun q hq => by simp at hq, fun q hq => by simp at hq, List.nodup_nil, fun b o e _ => e, fun q hq => by simp at hq⟩
    refine ⟨_, rfl, a, _, rfl, .inl (SqL.of hZ.ls), fun aS nS => ?_⟩
    have B1 := B0.new nS (.lst (zs.map fun z => V.ref z.1)) hp0
    refine ⟨_, rfl, p, C, dx, _, rfl, B1.here, T.cl, T.spans, by show 0 < 1000; decide, ?_⟩
    have B1 := B1.fld (.ins C dx (putF "spans" (.ref aS) []))
    intro aH dH0 nH ndH neH
    have npx : p ≠ aH := ne_of_none B1.here nH
    have npdx : p ≠ dH0 := ne_of_none B1.here ndH
    refine ⟨aH, dH0, rfl, upd_same, fun dH H3 nd3 hSh kp3 => ⟨rfl, ?_⟩⟩
    have kp3' : ∀ b o, upd (upd H aS (.lst (zs.map fun z => V.ref z.1))) p (.ins C dx (putF "spans" (.ref aS) [])) b = some o → H3 b = some o := fun b o e => kp3 b o (by rw [upd_ne (ne_of_none e nH), upd_ne (ne_of_none e ndH)]; exact e) (ne_of_none e nH)
    obtain ⟨d', S, ⟨⟨dx2, hob⟩, hpg, _, _, _⟩, hft, hpgs, hSl⟩ := hSh
    have hS0 : S = [] := List.length_eq_zero_iff.mp (Nat.le_zero.mp hSl)
    subst hS0
    have hd' : dH = d' := by
      unfold foot at hft
      exact (List.cons.inj hft).1
    subst hd'
    have ndH1 : upd (upd H aS (.lst (zs.map fun z => V.ref z.1))) p (.ins C dx (putF "spans" (.ref aS) [])) dH = none := by
      have := nd3
      by_cases e1 : dH = aH
      · rw [e1, upd_same] at this; cases this
      · rw [upd_ne e1] at this
        by_cases e2 : dH = dH0
        · rw [e2, upd_same] at this; cases this
        · rw [upd_ne e2] at this; exact this
    have nxd : aH ≠ dH := fun e => by rw [← e, upd_same] at nd3; cases nd3
    have B3 : Built H H3 p (.ins C dx (putF "spans" (.ref aS) [])) [(aS, .lst (zs.map fun z => V.ref z.1)), (aH, .ins CS dx2 (shFlds dH)), (dH, .dK (shKvs []))] := by
      have nSx : aS ≠ aH := ne_of_none (B1.all (aS, .lst (zs.map fun z => V.ref z.1)) (by simp)) nH
      have nSd : aS ≠ dH := ne_of_none (B1.all (aS, .lst (zs.map fun z => V.ref z.1)) (by simp)) ndH1
      have npd : p ≠ dH := ne_of_none B1.here ndH1
      have fr : ∀ x, upd (upd H aS (.lst (zs.map fun z => V.ref z.1))) p (.ins C dx (putF "spans" (.ref aS) [])) x = none → H x = none := fun x hx => by
        cases e : H x with
        | none => rfl
        | some u =>
          by_cases exp : x = p
          · rw [exp, upd_same] at hx; cases hx
          · rw [B1.kp x u e exp] at hx; cases hx
      refine ⟨kp3' _ _ B1.here, fun q hq => ?_, fun q hq => ?_, ?_, fun b o e n => kp3' _ _ (B1.kp b o e n), fun q hq => ?_⟩
      · have : q = (aS, .lst (zs.map fun z => V.ref z.1)) ∨ q = (aH, .ins CS dx2 (shFlds dH)) ∨ q = (dH, .dK (shKvs [])) := by simpa using hq
        rcases this with h | h | h
        · rw [h]; exact kp3' _ _ (B1.all (aS, .lst (zs.map fun z => V.ref z.1)) (by simp))
        · rw [h]; exact hob
        · rw [h]; exact hpg
      · have : q = (aS, .lst (zs.map fun z => V.ref z.1)) ∨ q = (aH, .ins CS dx2 (shFlds dH)) ∨ q = (dH, .dK (shKvs [])) := by simpa using hq
        rcases this with h | h | h
        · rw [h]; exact B1.ne (aS, .lst (zs.map fun z => V.ref z.1)) (by simp)
        · rw [h]; exact npx.symm
        · rw [h]; exact npd.symm
      · simp [nSx, nSd, nxd]
      · have : q = (aS, .lst (zs.map fun z => V.ref z.1)) ∨ q = (aH, .ins CS dx2 (shFlds dH)) ∨ q = (dH, .dK (shKvs [])) := by simpa using hq
        rcases this with h | h | h
        · rw [h]; exact nS
        · rw [h]; exact fr _ nH
        · rw [h]; exact fr _ ndH1
    refine ⟨_, rfl, p, C, dx, _, rfl, B3.here, T.cl, T.shelf, by show 1 < 1000; decide, ?_⟩
    have B4 := B3.fld (.ins C dx (putF "shelf" (.ref aH) (putF "spans" (.ref aS) [])))
    refine ⟨_, rfl, p, C, dx, _, rfl, B4.here, T.cl, T.latest, by show 2 < 1000; decide, ?_⟩
    have B5 := B4.fld (.ins C dx (putF "latest" (.int 0) (putF "shelf" (.ref aH) (putF "spans" (.ref aS) []))))
    intro aO nO
    have B6 := B5.new nO (.dK []) hp0
    refine ⟨_, rfl, p, C, dx, _, rfl, B6.here, T.cl, T.all_opened, by show 3 < 1000; decide, ?_⟩
    have B6 := B6.fld (.ins C dx (putF "all_opened" (.ref aO) (putF "latest" (.int 0) (putF "shelf" (.ref aH) (putF "spans" (.ref aS) [])))))
    intro aC nC
    have B7 := B6.new nC (.dK []) hp0
    refine ⟨_, rfl, p, C, dx, _, rfl, B7.here, T.cl, T.all_chosen, by show 4 < 1000; decide, ?_⟩
    have B7 := B7.fld (.ins C dx (putF "all_chosen" (.ref aC) (putF "all_opened" (.ref aO) (putF "latest" (.int 0) (putF "shelf" (.ref aH) (putF "spans" (.ref aS) []))))))
    intro aE nE
    have B8 := B7.new nE (.dK []) hp0
    refine ⟨_, rfl, p, C, dx, _, rfl, B8.here, T.cl, T.all_ended, by show 5 < 1000; decide, ?_⟩
    have B8 := B8.fld (.ins C dx (putF "all_ended" (.ref aE) (putF "all_chosen" (.ref aC) (putF "all_opened" (.ref aO) (putF "latest" (.int 0) (putF "shelf" (.ref aH) (putF "spans" (.ref aS) [])))))))
    intro aR nR
    have B9 := B8.new nR (.dK []) hp0
    refine ⟨_, rfl, p, C, dx, _, rfl, B9.here, T.cl, T.now_ready, by show 6 < 1000; decide, ?_⟩
    have B9 := B9.fld (.ins C dx (putF "now_ready" (.ref aR) (putF "all_ended" (.ref aE) (putF "all_chosen" (.ref aC) (putF "all_opened" (.ref aO) (putF "latest" (.int 0) (putF "shelf" (.ref aH) (putF "spans" (.ref aS) []))))))))
    intro aF nF
    have B10 := B9.new nF (.dK []) hp0
    refine ⟨_, rfl, p, C, dx, _, rfl, B10.here, T.cl, T.now_refused, by show 7 < 1000; decide, ?_⟩
    have B10 := B10.fld (.ins C dx (putF "now_refused" (.ref aF) (putF "now_ready" (.ref aR) (putF "all_ended" (.ref aE) (putF "all_chosen" (.ref aC) (putF "all_opened" (.ref aO) (putF "latest" (.int 0) (putF "shelf" (.ref aH) (putF "spans" (.ref aS) [])))))))))
    intro aL nL
    have B11 := B10.new nL (.dK []) hp0
    refine ⟨_, rfl, p, C, dx, _, rfl, B11.here, T.cl, T.holders, by show 8 < 1000; decide, ?_⟩
    have B11 := B11.fld (.ins C dx (putF "holders" (.ref aL) (putF "now_refused" (.ref aF) (putF "now_ready" (.ref aR) (putF "all_ended" (.ref aE) (putF "all_chosen" (.ref aC) (putF "all_opened" (.ref aO) (putF "latest" (.int 0) (putF "shelf" (.ref aH) (putF "spans" (.ref aS) []))))))))))
    refine ⟨Nat.zero_le _, fun aG nG => ?_⟩
    have B12 := B11.new nG (.lst []) hp0
    refine ⟨_, rfl, p, C, dx, _, rfl, B12.here, T.cl, T.gifts, by show 9 < 1000; decide, ?_⟩
    have B12 := B12.fld (.ins C dx (putF "gifts" (.ref aG) (putF "holders" (.ref aL) (putF "now_refused" (.ref aF) (putF "now_ready" (.ref aR) (putF "all_ended" (.ref aE) (putF "all_chosen" (.ref aC) (putF "all_opened" (.ref aO) (putF "latest" (.int 0) (putF "shelf" (.ref aH) (putF "spans" (.ref aS) [])))))))))))
    refine ⟨Nat.zero_le _, fun aA nA => ?_⟩
    have B13 := B12.new nA (.lst []) hp0
    refine ⟨_, rfl, p, C, dx, _, rfl, B13.here, T.cl, T.arrivals, by show 10 < 1000; decide, ?_⟩
    have B13 := B13.fld (.ins C dx (putF "arrivals" (.ref aA) (putF "gifts" (.ref aG) (putF "holders" (.ref aL) (putF "now_refused" (.ref aF) (putF "now_ready" (.ref aR) (putF "all_ended" (.ref aE) (putF "all_chosen" (.ref aC) (putF "all_opened" (.ref aO) (putF "latest" (.int 0) (putF "shelf" (.ref aH) (putF "spans" (.ref aS) []))))))))))))
    generalize hHe : upd _ p (.ins C dx (putF "arrivals" (.ref aA) (putF "gifts" (.ref aG) (putF "holders" (.ref aL) (putF "now_refused" (.ref aF) (putF "now_ready" (.ref aR) (putF "all_ended" (.ref aE) (putF "all_chosen" (.ref aC) (putF "all_opened" (.ref aO) (putF "latest" (.int 0) (putF "shelf" (.ref aH) (putF "spans" (.ref aS) [])))))))))))) = He at B13
    have hA := B13.all
    have hnd := B13.nd
    simp only [List.map_append, List.map_cons, List.map_nil, List.cons_append, List.nil_append, List.nodup_cons, List.mem_cons, List.not_mem_nil, or_false, not_or, not_false_eq_true, List.nodup_nil, and_true] at hnd
    have e1 : He p = some (.ins C dx (ledF (led0 aS zs aH dH aO aC aE aR aF aL aG aA))) := by
      have := B13.here
      rw [this]
      rfl
    have hT := B13.kp
    refine q aS aH dH aO aC aE aR aF aL aG aA He ⟨⟨dx, e1⟩, ⟨hA (aS, .lst (zs.map fun z : Sp3 => V.ref z.1)) (by simp), fun z hz => hT _ _ (hZ.tp z hz) (ne_of (hZ.tp z hz) hp (by intro z; cases z))⟩,
      ⟨dH, [], ⟨⟨dx2, hA (aH, .ins CS dx2 (shFlds dH)) (by simp)⟩, hA (dH, .dK (shKvs [])) (by simp), fun e he => by (simp at he), List.nodup_nil, List.nodup_nil⟩, rfl, fun k => rfl, Nat.le_refl _⟩,
      hA (aO, .dK []) (by simp), fun e he => by (simp [led0] at he), hA (aC, .dK []) (by simp), hA (aE, .dK []) (by simp), hA (aR, .dK []) (by simp), fun e he => by (simp [led0] at he), hA (aF, .dK []) (by simp), hA (aL, .dK []) (by simp), hA (aG, .lst []) (by simp), fun e he => by (simp [led0] at he), hA (aA, .lst []) (by simp), ?_, ?_, ?_, ?_⟩ (fun b hb nb => ?_) hT
    · simp only [dicts, led0, List.nodup_cons, List.mem_cons, List.not_mem_nil, or_false, not_or, not_false_eq_true, List.nodup_nil, and_true]
      simp only [hnd, Ne.symm, eq_comm, not_false_eq_true, and_self, true_and, and_true]
    · show aG ≠ aA
      grind
    · show aS ≠ aG
      grind
    · show aS ≠ aA
      grind
    · have hb' : b = aS ∨ b = p ∨ b = aG ∨ b = aA ∨ b = aO ∨ b = aC ∨ b = aE ∨ b = aR ∨ b = aF ∨ b = aL ∨ b = dH := by simpa [mutL, dicts, led0] using hb
      have fr := B13.fr
      rcases hb' with rfl | h | rfl | rfl | rfl | rfl | rfl | rfl | rfl | rfl | rfl
      · exact fr (b, .lst (zs.map fun z => V.ref z.1)) (by simp)
      · exact absurd h nb
      · exact fr (b, .lst []) (by simp)
      · exact fr (b, .lst []) (by simp)
      · exact fr (b, .dK []) (by simp)
      · exact fr (b, .dK []) (by simp)
      · exact fr (b, .dK []) (by simp)
      · exact fr (b, .dK []) (by simp)
      · exact fr (b, .dK []) (by simp)
      · exact fr (b, .dK []) (by simp)
      · exact fr (b, .dK (shKvs [])) (by simp)
end
end FB

namespace FB
open PySem PySem.Spec PyProof.Rows L2
section
variable {P : Program} {w : World} {K : PySem.W.Frag} {mg : Str → Option Value} {base : Heap}
theorem ok_has_key {f : Addr} {fd : FuncData} (F : Fun K "has_key" "has_key" s_has_key f fd) : FnOk P w K mg base CX0 1 f fd ["span", "key"] (spHas K) := by
  refine F.ok sc_has_key (fun vs H Q E h => ?_) (fun cdv A outer s H vs Q E hr h => ?_)
  · obtain ⟨p, l, h, k, rfl, _⟩ := h
    rfl
  · obtain ⟨p, l, h, k, rfl, hT, q⟩ := h
    refine ⟨_, pss_cons (ps_asg (pv 0) (pg_tup rfl (pgs_cons (pg_name (i := 2) sc_has_key.nd rfl (Or.inl rfl)) (pgs_cons (pg_name (i := 3) sc_has_key.nd rfl (Or.inl rfl)) pgs_nil))))
    (pss_one (ps_ret (pe_and (pe_cmpR op_le_str (pv 2) (pv 1) (nomark _)) (pe_one (pe_or (pe_cmpR op_eq (pv 3) pe_str (nomark _)) (pe_one (pe_cmpR op_lt_str (pv 1) (pv 3) (nomark _)))))))), ?_⟩
    refine ⟨_, rfl, p, _, rfl, hT, rfl, _, _, rfl, _, _, rfl, rfl, ?_⟩
    refine ⟨_, rfl, _, rfl, _, _, rfl, rfl, _, rfl, ite2 (fun e1 => ?_) (fun e1 => ?_)⟩
    · refine ⟨_, rfl, rfl, _, rfl, ite2 (fun e2 => ?_) (fun e2 => ?_)⟩
      · have e : hasB l h k = true := by
          unfold hasB ltS
          rw [e1, e2]
          rfl
        rw [e] at q
        exact q
      · have e : hasB l h k = decide (k.cps.toList < h.cps.toList) := by
          unfold hasB ltS
          rw [e1, Bool.eq_false_iff.mpr e2]
          rfl
        rw [e] at q
        exact ⟨_, rfl, _, rfl, _, _, rfl, rfl, q⟩
    · have e : hasB l h k = false := by
        unfold hasB ltS
        rw [Bool.eq_false_iff.mpr e1]
        rfl
      rw [e] at q
      exact q
end
end FB

namespace FB
open PySem PySem.Spec PyProof.Rows L2
theorem find_at {α : Type} {p : α → Bool} : ∀ {zs : List α} {i : Nat} {z : α}, zs[i]? = some z → p z = true → (∀ y ∈ zs.take i, p y = false) → zs.find? p = some z
  | [], _, _, h, _, _ => by simp at h
  | x :: r, 0, z, h, hp, _ => by
    have e : x = z := by simpa using h
    subst e
    rw [List.find?_cons_of_pos hp]
  | x :: r, i + 1, z, h, hp, hn => by
    have h0 : p x = false := hn x (by simp)
    rw [List.find?_cons_of_neg (by rw [h0]; decide)]
    exact find_at (i := i) (by simpa using h) hp fun y hy => hn y (by rw [List.take_succ_cons]; exact List.mem_cons_of_mem _ hy)
section
variable {P : Program} {w : World} {K : PySem.W.Frag} {mg : Str → Option Value} {base : Heap}
theorem ok_span_with {f : Addr} {fd : FuncData} (F : Fun K "span_with" "span_with" s_span_with f fd) (D_has_key : DefOk P w K mg base 1 "has_key" ["span", "key"] (spHas K)) : FnOk P w K mg base CX0 2 f fd ["spans", "key"] spSpanWith := by
  refine F.ok sc_span_with (fun vs H Q E h => ?_) (fun cdv A outer s H vs Q E hr h => ?_)
  · obtain ⟨a, zs, k, rfl, _⟩ := h
    rfl
  · obtain ⟨a, zs, k, rfl, hZ, q⟩ := h
    refine ⟨_, pss_cons (ps_for PassesOwn.never rfl (pi_list (pv 0)) (pg_name (i := 2) sc_span_with.nd rfl (Or.inl rfl))
      (pss_one (ps_if (pt_val (pe_def D_has_key (hr.mono (by omega)) (by rfl) (pa_cons (pv 2) (pa_cons (pv 1) pa_nil))))
        (pss_one (ps_ret (pv 2))) pss_nil)))
    (pss_one (ps_ret pe_non)), ?_⟩
    refine ⟨_, rfl, a, rfl, ⟨_, SqL.of hZ.ls⟩, for_list (K := K) (a := a) (xs := zs.map fun z => V.ref z.1) (fun i σ H' => ∃ v, σ = [some (.ref a), some (.str k), v] ∧ H' = H ∧ ∀ z ∈ zs.take i, hasB z.2.1 z.2.2 k = false) ⟨none, rfl, rfl, fun z hz => by simp at hz⟩ (fun i σ H' _ ⟨_, _, e, _⟩ => by rw [e]; exact SqL.of hZ.ls) ?_ ?_⟩
    · rintro i x σ H' hi ⟨v, rfl, rfl, hno⟩
      rw [List.getElem?_map] at hi
      obtain ⟨z, hz, rfl⟩ := Option.map_eq_some_iff.mp hi
      have hm : z ∈ zs := List.mem_of_getElem? hz
      refine ⟨_, rfl, _, rfl, z.1, z.2.1, z.2.2, k, rfl, SqT.of (hZ.tp z hm), _, rfl, ite2 (fun e => ?_) (fun e => ?_)⟩
      · refine ⟨_, rfl, ?_⟩
        have ef : zs.find? (fun z => hasB z.2.1 z.2.2 k) = some z := find_at hz e hno
        rw [ef] at q
        exact q
      · refine ⟨_, rfl, rfl, fun y hy => ?_⟩
        rw [List.take_add_one, hz] at hy
        rcases List.mem_append.mp hy with hy | hy
        · exact hno y hy
        · have : y = z := by simpa using hy
          rw [this]
          exact Bool.eq_false_iff.mpr e
    · rintro σ H' ⟨v, rfl, rfl, hno⟩
      have ef : zs.find? (fun z => hasB z.2.1 z.2.2 k) = none := by
        rw [List.find?_eq_none]
        intro z hz
        rw [hno z (by simpa using hz)]
        decide
      rw [ef] at q
      exact q
end
end FB

namespace FB
open PySem PySem.Spec PyProof.Rows L2
/-! ### the ledger's methods: owns, open, choose, and what is told of these -/
def ledN : List Str := ["spans", "shelf", "latest", "all_opened", "all_chosen", "all_ended", "now_ready", "now_refused", "holders", "gifts", "arrivals"]
theorem ledF_no (m : Led) {s : Str} (h : s ∉ ledN) : (ledF m).lookup s = none := by
  rw [List.lookup_eq_none_iff]
  intro e he
  have : e.1 ∈ ledN := by
    have : e.1 ∈ (ledF m).map (·.1) := List.mem_map.mpr ⟨e, he, rfl⟩
    exact this
  rw [bne_iff_ne]
  intro z
  exact h (z ▸ this)
theorem look_spans (m : Led) : (ledF m).lookup ("spans" : Str) = some (V.ref m.aS) := rfl
theorem look_opened (m : Led) : (ledF m).lookup ("all_opened" : Str) = some (V.ref m.aO) := rfl
theorem look_chosen (m : Led) : (ledF m).lookup ("all_chosen" : Str) = some (V.ref m.aC) := rfl
def spLedOwns (C CS : Addr) : Sp := fun vs H Q _ => ∃ (p : Addr) (m : Led) (k : Str), vs = [.ref p, .str k] ∧ LedAt C CS H p m ∧ Q (.bl (ownsB (m.zs.map (·.2)) k)) H
def spLedOwned (C CS : Addr) : Sp := fun vs H Q _ => ∃ (p : Addr) (m : Led), vs = [.ref p] ∧ LedAt C CS H p m ∧ ∀ l H', H l = none → SpansAt H' l m.zs → Same H H' → Q (.ref l) H'
def spLedChosen (C CS : Addr) : Sp := fun vs H Q _ => ∃ (p : Addr) (m : Led) (k : Str), vs = [.ref p, .str k] ∧ LedAt C CS H p m ∧ Q (((getS m.chosen k).map V.int).getD .non) H
/-- what came of opening: the word, and what is opened then -/
def openW (m : Led) (dl k0 : Str) : Str := if (getS m.opened dl).isSome = true then "known" else if ownsB (m.zs.map (·.2)) k0 = true then "open" else "away"
def openL (m : Led) (dl k0 : Str) (o : Addr) : List (Str × Addr) := if (getS m.opened dl).isSome = true then m.opened else if ownsB (m.zs.map (·.2)) k0 = true then setS m.opened dl o else m.opened
def chooseW (m : Led) (dl : Str) : Str := if (getS m.chosen dl).isSome = true then "known" else if (getS m.opened dl).isSome = true then "chosen" else "shut"
def chooseL (m : Led) (dl : Str) (v : Int) : List (Str × Int) := if (getS m.chosen dl).isSome = true then m.chosen else if (getS m.opened dl).isSome = true then setS m.chosen dl v else m.chosen
def spLedOpen (C CS : Addr) : Sp := fun vs H Q _ => ∃ (p : Addr) (m : Led) (dl : Str) (o : Addr) (e : OpA) (es : List OpA), vs = [.ref p, .str dl, .ref o] ∧ LedAt C CS H p m ∧ OpsAt H o (e :: es) ∧ OpsOk H o ∧ m.opened.length ≤ 900 ∧
  ∀ H', LedAt C CS H' p { m with opened := openL m dl e.2.1 o } → Keep m.aO H H' → Q (.str (openW m dl e.2.1)) H'
def spLedChoose (C CS : Addr) : Sp := fun vs H Q _ => ∃ (p : Addr) (m : Led) (dl : Str) (v : Int), vs = [.ref p, .str dl, .int v] ∧ LedAt C CS H p m ∧ m.chosen.length ≤ 900 ∧
  ∀ H', LedAt C CS H' p { m with chosen := chooseL m dl v } → Keep m.aC H H' → Q (.str (chooseW m dl)) H'
theorem any_find {zs : List Sp3} {k : Str} : ownsB (zs.map (·.2)) k = (zs.find? (fun z => hasB z.2.1 z.2.2 k)).isSome := by
  unfold ownsB
  rw [List.any_map, List.isSome_find?]
  rfl
theorem dget_dkv {α : Type} {f : α → V} {l : List (Str × α)} {H : Hp} {a : Addr} (k : Str) (h : H a = some (.dK (dkv f l))) : DGet H a (.str k) ((getS l k).map f) := by
  have := DGet.k (k := tk k) h
  rw [val_dkv] at this
  exact this
theorem dput_dkv {α : Type} {f : α → V} {l : List (Str × α)} {H : Hp} {a : Addr} (k : Str) (v : α) (h : H a = some (.dK (dkv f l))) (hl : l.length ≤ 900) : DPut H a (.str k) (f v) (upd H a (.dK (dkv f (setS l k v)))) :=
  .inl ⟨_, tk k, h, rfl, by rw [len_dkv]; exact small1000 (Nat.le_trans hl (by decide)), by rw [put_dkv]⟩
section
variable {P : Program} {w : World} {K : PySem.W.Frag} {mg : Str → Option Value} {base : Heap}
theorem ok_led_owns {f C CS : Addr} {fd : FuncData} (F : Fun K "owns" "Ledger.owns" s_Ledger_owns f fd) (T : LdCls K C) (D_span_with : DefOk P w K mg base 2 "span_with" ["spans", "key"] spSpanWith) : FnOk P w K mg base CX0 3 f fd ["self", "key"] (spLedOwns C CS) := by
  refine F.ok sc_Ledger_owns (fun vs H Q E h => ?_) (fun cdv A outer s H vs Q E hr h => ?_)
  · obtain ⟨p, m, k, rfl, _⟩ := h
    rfl
  · obtain ⟨p, m, k, rfl, hL, q⟩ := h
    obtain ⟨dx, ho⟩ := hL.ob
    refine ⟨_, pss_one (ps_ret (pe_cmpR op_notN (pe_def D_span_with (hr.mono (by omega)) (by rfl) (pa_cons (pe_fld (pv 0) rfl) (pa_cons (pv 1) pa_nil))) pe_non (nomark _))), ?_⟩
    refine ⟨_, rfl, p, C, dx, _, _, rfl, ho, T.cl, T.spans, look_spans m, _, rfl, m.aS, m.zs, k, rfl, hL.sp, rfl, ?_⟩
    rw [any_find] at q
    cases hf : m.zs.find? (fun z => hasB z.2.1 z.2.2 k) with
    | none =>
      rw [hf] at q
      exact q
    | some z =>
      rw [hf] at q
      exact q
theorem ok_led_owned {f C CS : Addr} {fd : FuncData} (F : Fun K "owned" "Ledger.owned" s_Ledger_owned f fd) (B : Blt mg) (T : LdCls K C) : FnOk P w K mg base CX0 1 f fd ["self"] (spLedOwned C CS) := by
  refine F.ok sc_Ledger_owned (fun vs H Q E h => ?_) (fun cdv A outer s H vs Q E hr h => ?_)
  · obtain ⟨p, m, rfl, _⟩ := h
    rfl
  · obtain ⟨p, m, rfl, hL, q⟩ := h
    obtain ⟨dx, ho⟩ := hL.ob
    refine ⟨_, pss_one (ps_ret (pe_callTy call_list_of (by rfl) B.list (by decide +kernel) (pa_cons (pe_fld (pv 0) rfl) pa_nil))), ?_⟩
    refine ⟨_, rfl, p, C, dx, _, _, rfl, ho, T.cl, T.spans, look_spans m, m.aS, _, rfl, .inl (SqL.of hL.sp.ls), fun l nl => ?_⟩
    have s1 := same_new (o := .lst (m.zs.map fun z : Sp3 => V.ref z.1)) nl
    exact q l _ nl ⟨upd_same, fun z hz => s1 _ _ (hL.sp.tp z hz)⟩ s1
theorem ok_led_chosen {f C CS : Addr} {fd : FuncData} (F : Fun K "chosen" "Ledger.chosen" s_Ledger_chosen f fd) (T : LdCls K C) : FnOk P w K mg base CX0 1 f fd ["self", "deal"] (spLedChosen C CS) := by
  refine F.ok sc_Ledger_chosen (fun vs H Q E h => ?_) (fun cdv A outer s H vs Q E hr h => ?_)
  · obtain ⟨p, m, k, rfl, _⟩ := h
    rfl
  · obtain ⟨p, m, k, rfl, hL, q⟩ := h
    have hu := hu_of hr
    obtain ⟨dx, ho⟩ := hL.ob
    refine ⟨_, pss_one (ps_ret (pe_dget1 hu (pe_fld (pv 0) rfl) (pv 1) ⟨rfl, rfl, rfl, rfl⟩)), ?_⟩
    refine ⟨_, rfl, p, C, dx, _, _, rfl, ho, T.cl, T.all_chosen, look_chosen m, m.aC, rfl, .inl ⟨_, .inl hL.ch⟩, _, rfl, _, dget_dkv k hL.ch, q⟩
theorem ok_led_open {f C CS : Addr} {fd : FuncData} (F : Fun K "do_open" "Ledger.do_open" s_Ledger_do_open f fd) (T : LdCls K C) (D_Ledger_owns : MethOk P w K mg base 3 C "owns" ["self", "key"] (spLedOwns C CS)) : FnOk P w K mg base CX0 4 f fd ["self", "deal", "ops"] (spLedOpen C CS) := by
  have L_Ledger := T.cl
  refine F.ok sc_Ledger_do_open (fun vs H Q E h => ?_) (fun cdv A outer s H vs Q E hr h => ?_)
  · obtain ⟨p, m, dl, o, e, es, rfl, _⟩ := h
    rfl
  · obtain ⟨p, m, dl, o, e, es, rfl, hL, hO, hK, hl, q⟩ := h
    have hu := hu_of hr
    obtain ⟨dx, ho⟩ := hL.ob
    refine ⟨_, pss_cons (ps_if (pt_cmp (pc_din hu (pv 1) (pe_fld (pv 0) rfl)))
      (pss_one (ps_ret pe_str)) pss_nil)
    (pss_cons (ps_if (pt_not (pt_val (pe_mth L_Ledger D_Ledger_owns (hr.mono (by omega)) (pv 0) (pa_cons (pe_ix ix_tup (pe_ix ix_tup (pv 2) pe_int (fun _ _ => rfl)) pe_int (fun _ _ => rfl)) pa_nil))))
      (pss_one (ps_ret pe_str)) pss_nil)
    (pss_cons (ps_dput hu (pe_fld (pv 0) rfl) (pv 1) (pv 2) rfl)
    (pss_one (ps_ret pe_str)))), ?_⟩
    refine ⟨_, rfl, _, rfl, p, C, dx, _, _, rfl, ho, T.cl, T.all_opened, look_opened m, m.aO, _, rfl, dget_dkv dl hL.op, _, rfl, ?_⟩
    unfold openL openW at q
    rw [Option.isSome_map]
    refine ite2 (fun c1 => ?_) (fun c1 => ?_)
    · rw [if_pos c1, if_pos c1] at q
      exact q H hL (Keep.refl _ _)
    · rw [if_neg c1, if_neg c1] at q
      refine ⟨_, rfl, p, dx, _, rfl, ho, ledF_no m (by decide +kernel), _, rfl, o, _, _, _, rfl, rfl, SqT.of hO.ls, atI_nat (j := 0) rfl, e.1, _, _, _, rfl, rfl, SqT.of (hO.tp e (by simp)), atI_nat (j := 0) rfl, p, m, e.2.1, rfl, hL, _, rfl, ?_⟩
      cases c2 : ownsB (m.zs.map (·.2)) e.2.1 with
      | false =>
        rw [c2, if_neg (by decide), if_neg (by decide)] at q
        refine iteT ?_
        exact q H hL (Keep.refl _ _)
      | true =>
        rw [c2, if_pos rfl, if_pos rfl] at q
        refine iteF ?_
        refine ⟨_, rfl, _, rfl, p, C, dx, _, _, rfl, ho, T.cl, T.all_opened, look_opened m, _, rfl, m.aO, _, rfl, dput_dkv dl o hL.op hl, ?_⟩
        refine q _ (hL.set_opened _ fun y hy => ?_) (fun b u hb n => by rw [upd_ne n]; exact hb)
        rw [set_new (Option.not_isSome_iff_eq_none.mp c1)] at hy
        rcases List.mem_append.mp hy with h | h
        · exact hL.oo y h
        · rw [show y = (dl, o) by simpa using h]
          exact hK
theorem ok_led_choose {f C CS : Addr} {fd : FuncData} (F : Fun K "do_choose" "Ledger.do_choose" s_Ledger_do_choose f fd) (T : LdCls K C) : FnOk P w K mg base CX0 1 f fd ["self", "deal", "verdict"] (spLedChoose C CS) := by
  refine F.ok sc_Ledger_do_choose (fun vs H Q E h => ?_) (fun cdv A outer s H vs Q E hr h => ?_)
  · obtain ⟨p, m, dl, v, rfl, _⟩ := h
    rfl
  · obtain ⟨p, m, dl, v, rfl, hL, hl, q⟩ := h
    have hu := hu_of hr
    obtain ⟨dx, ho⟩ := hL.ob
    refine ⟨_, pss_cons (ps_if (pt_cmp (pc_din hu (pv 1) (pe_fld (pv 0) rfl)))
      (pss_one (ps_ret pe_str)) pss_nil)
    (pss_cons (ps_if (pt_cmp (pc_dnotin hu (pv 1) (pe_fld (pv 0) rfl)))
      (pss_one (ps_ret pe_str)) pss_nil)
    (pss_cons (ps_dput hu (pe_fld (pv 0) rfl) (pv 1) (pv 2) rfl)
    (pss_one (ps_ret pe_str)))), ?_⟩
    refine ⟨_, rfl, _, rfl, p, C, dx, _, _, rfl, ho, T.cl, T.all_chosen, look_chosen m, m.aC, _, rfl, dget_dkv dl hL.ch, _, rfl, ?_⟩
    unfold chooseL chooseW at q
    rw [Option.isSome_map]
    refine ite2 (fun c1 => ?_) (fun c1 => ?_)
    · rw [if_pos c1, if_pos c1] at q
      exact q H hL (Keep.refl _ _)
    · rw [if_neg c1, if_neg c1] at q
      refine ⟨_, rfl, _, rfl, p, C, dx, _, _, rfl, ho, T.cl, T.all_opened, look_opened m, m.aO, _, rfl, dget_dkv dl hL.op, _, rfl, ?_⟩
      rw [Option.isSome_map]
      cases c2 : (getS m.opened dl).isSome with
      | false =>
        rw [c2, if_neg (by decide), if_neg (by decide)] at q
        refine iteT ?_
        exact q H hL (Keep.refl _ _)
      | true =>
        rw [c2, if_pos rfl, if_pos rfl] at q
        refine iteF ?_
        refine ⟨_, rfl, _, rfl, p, C, dx, _, _, rfl, ho, T.cl, T.all_chosen, look_chosen m, _, rfl, m.aC, _, rfl, dput_dkv dl v hL.ch hl, ?_⟩
        exact q _ (hL.set_chosen _) (fun b u hb n => by rw [upd_ne n]; exact hb)
end
end FB

namespace FB
open PySem PySem.Spec PyProof.Rows L2
theorem pe_fldK {X : Cx} {K : PySem.W.Frag} {e : Expr} {f : Str} {pos : Pos} {ta : TE} (hK : X.K = K) (he : PE X e ta) (h : attributeBase e f X.env (eval e X.env) = eval e X.env) : PE X (e.Attribute f pos) (tFld K ta f) := by
  subst hK
  exact pe_fld he h
theorem caseT {c A B : Prop} [Decidable c] (h : c) (a : A) : if c then A else B := by rw [if_pos h]; exact a
theorem caseF {c A B : Prop} [Decidable c] (h : ¬c) (b : B) : if c then A else B := by rw [if_neg h]; exact b
theorem same_unlock {H H' : Hp} {d : Addr} {u : HO} {od : Obj} (hd : H d = some u) (sm : Same (upd H d (.frz od u)) H') : Same H (upd H' d u) := fun b o hb => by
  by_cases e : b = d
  · subst e
    rw [upd_same, ← hd]
    exact hb
  · rw [upd_ne e]
    exact sm b o (by rw [upd_ne e]; exact hb)
theorem same_lock {H H' : Hp} {d b : Addr} {u o : HO} {od : Obj} (sm : Same (upd H d (.frz od u)) H') (hb : H b = some o) (n : b ≠ d) : H' b = some o := sm b o (by rw [upd_ne n]; exact hb)
structure PairsAt (H : Hp) (l : Addr) (ts : List (Addr × Str × Addr)) : Prop where
  ls : H l = some (.lst (ts.map fun t => V.ref t.1))
  tp : ∀ t ∈ ts, H t.1 = some (.tup [.str t.2.1, .ref t.2.2])
theorem PairsAt.same {H H' : Hp} {l : Addr} {ts : List (Addr × Str × Addr)} (h : PairsAt H l ts) (s : Same H H') : PairsAt H' l ts := ⟨s _ _ h.ls, fun t ht => s _ _ (h.tp t ht)⟩
theorem PairsAt.snoc {H : Hp} {l t : Addr} {ts : List (Addr × Str × Addr)} {k : Str} {o : Addr} (h : PairsAt H l ts) (nt : H t = none) : PairsAt (upd (upd H t (.tup [.str k, .ref o])) l (.lst ((ts.map fun t => V.ref t.1) ++ [V.ref t]))) l (ts ++ [(t, k, o)]) := by
  have ntl : t ≠ l := (ne_of_none h.ls nt).symm
  refine ⟨by rw [upd_same, List.map_append]; rfl, fun y hy => ?_⟩
  rcases List.mem_append.mp hy with z | z
  · have hy' := h.tp y z
    rw [upd_ne (ne_of hy' h.ls (by intro z; cases z)), upd_ne (ne_of_none hy' nt)]
    exact hy'
  · rw [show y = (t, k, o) by simpa using z]
    show upd _ l _ t = _
    rw [upd_ne ntl, upd_same]
def openNow (m : Led) : List (Str × Addr) := m.opened.filter fun e => !(getS m.chosen e.1).isSome
def spLedOpened (C CS : Addr) : Sp := fun vs H Q _ => ∃ (p : Addr) (m : Led), vs = [.ref p] ∧ LedAt C CS H p m ∧ m.opened.length ≤ 900 ∧ ∀ (l : Addr) (ts : List (Addr × Str × Addr)) (H' : Hp), PairsAt H' l ts → ts.map (·.2) = openNow m → H l = none → Same H H' → Q (.ref l) H'
def spNo : Sp := fun _ _ _ _ => False
def spApply13 (C CS : Addr) : Sp := fun vs H Q _ => ∃ (p c : Addr) (m : Led), vs = [.ref p, .ref c] ∧ LedAt C CS H p m ∧
  ((∃ (dl : Str) (o : Addr) (e : OpA) (es : List OpA), H c = some (.tup [.str "open", .str dl, .ref o]) ∧ OpsAt H o (e :: es) ∧ OpsOk H o ∧ m.opened.length ≤ 900 ∧ ∀ H', LedAt C CS H' p { m with opened := openL m dl e.2.1 o } → Keep m.aO H H' → Q (.str (openW m dl e.2.1)) H') ∨
   (∃ (dl : Str) (v : Int), H c = some (.tup [.str "choose", .str dl, .int v]) ∧ m.chosen.length ≤ 900 ∧ ∀ H', LedAt C CS H' p { m with chosen := chooseL m dl v } → Keep m.aC H H' → Q (.str (chooseW m dl)) H'))
section
variable {P : Program} {w : World} {K : PySem.W.Frag} {mg : Str → Option Value} {base : Heap}
theorem MethAt.no {k : Nat} {C : Addr} {m qual : Str} {st : Stmt} {ps : List Str} (A : MethAt K C m qual st ps) : MethOk P w K mg base k C m ps spNo :=
  A.ok fun _ _ _ => ⟨fun _ _ _ _ h => h.elim, fun _ _ _ _ _ _ _ _ _ _ _ _ _ h => h.elim⟩
theorem ok_led_opened {f C CS : Addr} {fd : FuncData} (F : Fun K "opened" "Ledger.opened" s_Ledger_opened f fd) (T : LdCls K C) : FnOk P w K mg base CX0 1 f fd ["self"] (spLedOpened C CS) := by
  refine F.ok sc_Ledger_opened (fun vs H Q E h => ?_) (fun cdv A outer s H vs Q E hr h => ?_)
  · obtain ⟨p, m, rfl, _⟩ := h
    rfl
  · obtain ⟨p, m, rfl, hL, hl, q⟩ := h
    have hu := hu_of hr
    obtain ⟨dx, ho⟩ := hL.ob
    have hno : p ≠ m.aO := ne_of ho hL.op (by intro z; cases z)
    have hnc : m.aC ≠ m.aO := by
      have nd := hL.nd
      simp only [dicts, List.nodup_cons, List.mem_cons, not_or] at nd
      exact fun z => nd.1.1 z.symm
    refine ⟨_, pss_one (ps_ret (pe_lock (pe_lc (own := [("deal", 1), ("ops", 2)]) (g := gTup K 2 (gCons (gName 1) (gCons (gName 2) (gNil)))) rfl sc_Ledger_opened.nd (pi_items (pe_fld (pv 0) rfl)) (blkOk_by (own := [("deal", 1), ("ops", 2)]) (N := ["self", "deal", "ops"]) (sc := defScope s_Ledger_opened) (by decide +kernel)) (fun _ _ _ _ _ => pg_tup rfl (pgs_cons (pg_name (i := 1) sc_Ledger_opened.nd rfl (Or.inl rfl)) (pgs_cons (pg_name (i := 2) sc_Ledger_opened.nd rfl (Or.inl rfl)) pgs_nil))) (fun _ _ _ _ _ => pts_one (pt_cmp (pc_dnotin hu (pv 1) (pe_fldK (K := K) rfl (pv 0) rfl)))) (fun _ _ _ _ _ => pe_tup (pa_cons (pv 1) (pa_cons (pv 2) pa_nil)))))), ?_⟩
    refine ⟨m.aO, _, hL.op, trivial, fun od => ?_⟩
    refine ⟨_, rfl, p, C, dx, _, _, rfl, by rw [upd_ne hno]; exact ho, T.cl, T.all_opened, look_opened m, m.aO, od, _, rfl, upd_same, fun D nD => ?_⟩
    refine lc_it walk_items (fun i H' => ∃ ts, PairsAt H' D ts ∧ ts.map (·.2) = (m.opened.take i).filter (fun e => !(getS m.chosen e.1).isSome) ∧ Same (upd H m.aO (.frz od (.dK (dkv V.ref m.opened)))) H') ⟨[], ⟨upd_same, fun t ht => by (simp at ht)⟩, rfl, same_new nD⟩ ?_ ?_ ?_
    · rintro i H' _ ⟨_, _, _, sm⟩
      exact sm _ _ upd_same
    · rintro i x H' H'' hi ⟨ts, hP, hts, sm⟩ hY
      obtain ⟨Tp, y1, y2, rfl, nT, rfl, e1, e2⟩ := hY
      have hil : i < m.opened.length := by
        rw [len_dkv] at hi
        exact hi
      have hz : m.opened[i]? = some m.opened[i] := List.getElem?_eq_getElem hil
      generalize m.opened[i] = z at hz
      have e1 : ((dkv V.ref m.opened)[i]?).map (fun kv => kV kv.1) = some y1 := e1
      have e2 : ((dkv V.ref m.opened)[i]?).map Prod.snd = some y2 := e2
      unfold dkv at e1 e2
      rw [List.getElem?_map, hz] at e1 e2
      obtain rfl : y1 = V.str z.1 := (Option.some.inj e1).symm
      obtain rfl : y2 = V.ref z.2 := (Option.some.inj e2).symm
      have s1 := same_new (o := .tup [V.str z.1, V.ref z.2]) nT
      have sm1 := sm.trans s1
      have hlt : ts.length ≤ 900 := by
        have := congrArg List.length hts
        rw [List.length_map] at this
        rw [this]
        exact Nat.le_trans (List.length_filter_le _ _) (by rw [List.length_take]; omega)
      refine ⟨Tp, _, rfl, SqT.of upd_same, rfl, _, _, rfl, _, _, rfl, rfl, rfl, ?_⟩
      refine ⟨_, rfl, _, rfl, p, C, dx, _, _, rfl, same_lock sm1 ho hno, T.cl, T.all_chosen, look_chosen m, m.aC, _, rfl, dget_dkv z.1 (same_lock sm1 hL.ch hnc), _, rfl, ?_⟩
      rw [Option.isSome_map, take_snoc hz, List.filter_append]
      cases hc : (getS m.chosen z.1).isSome with
      | true =>
        refine iteF ?_
        refine ⟨ts, hP.same s1, ?_, sm1⟩
        rw [hts, List.filter_cons_of_neg (by rw [hc]; decide), List.filter_nil, List.append_nil]
      | false =>
        refine iteT ?_
        refine ⟨_, rfl, _, rfl, by show 2 ≤ sizeLine; decide, fun t nt => ?_⟩
        have hP1 := hP.same s1
        refine ⟨_, by rw [upd_ne (ne_of_none hP1.ls nt)]; exact hP1.ls, by rw [List.length_map]; exact small1000 (Nat.le_trans hlt (by decide)), ts ++ [(t, z.1, z.2)], hP1.snoc nt, ?_, ?_⟩
        · rw [List.map_append, hts, List.filter_cons_of_pos (by rw [hc]; rfl), List.filter_nil]
          rfl
        · exact same_mut (sm1.trans (same_new nt)) nD
    · rintro H' ⟨ts, hP, hts, sm⟩
      refine ⟨sm _ _ upd_same, ?_⟩
      rw [len_dkv, List.take_length] at hts
      have nDo : D ≠ m.aO := fun z => by rw [z, upd_same] at nD; cases nD
      have nD0 : H D = none := by rw [upd_ne nDo] at nD; exact nD
      refine q D ts _ ⟨by rw [upd_ne nDo]; exact hP.ls, fun t ht => ?_⟩ hts nD0 (same_unlock hL.op sm)
      rw [upd_ne (ne_of (hP.tp t ht) (sm _ _ upd_same) (by intro z; cases z))]
      exact hP.tp t ht
theorem ok_led_apply13 {f C CS : Addr} {fd : FuncData} (F : Fun K "apply" "Ledger.apply" s_Ledger_apply f fd) (T : LdCls K C) (D_Ledger_do_open : MethOk P w K mg base 4 C "do_open" ["self", "deal", "ops"] (spLedOpen C CS)) (D_Ledger_do_choose : MethOk P w K mg base 1 C "do_choose" ["self", "deal", "verdict"] (spLedChoose C CS))
    (D_Ledger_do_ready : MethOk P w K mg base 4 C "do_ready" ["self", "deal", "ops", "moment"] spNo) (D_Ledger_do_over : MethOk P w K mg base 4 C "do_over" ["self", "deal", "verdict"] spNo) (D_Ledger_do_mark : MethOk P w K mg base 4 C "do_mark" ["self", "moment"] spNo) (D_Ledger_do_cut : MethOk P w K mg base 4 C "do_cut" ["self", "key"] spNo) (D_Ledger_do_join : MethOk P w K mg base 4 C "do_join" ["self", "key"] spNo)
    (D_Ledger_do_give : MethOk P w K mg base 4 C "do_give" ["self", "move", "low", "group", "moment"] spNo) (D_Ledger_do_take : MethOk P w K mg base 4 C "do_take" ["self", "move", "low", "high", "moment", "rows"] spNo) : FnOk P w K mg base CX0 5 f fd ["self", "command"] (spApply13 C CS) := by
  have L_Ledger := T.cl
  refine F.ok sc_Ledger_apply (fun vs H Q E h => ?_) (fun cdv A outer s H vs Q E hr h => ?_)
  · obtain ⟨p, c, m, rfl, _⟩ := h
    rfl
  · obtain ⟨p, c, m, rfl, hL, q⟩ := h
    obtain ⟨dx, ho⟩ := hL.ob
    refine ⟨_, pss_cons (ps_match (pv 1) (pcs_case rfl sc_Ledger_apply.nd (.cons (i := 2) rfl (Or.inl rfl) (Or.inr rfl) (.cons (i := 3) rfl (Or.inl rfl) (Or.inr rfl) .nil)) (pss_one (ps_ret (pe_mth L_Ledger D_Ledger_do_open (hr.mono (by omega)) (pv 0) (pa_cons (pv 2) (pa_cons (pv 3) pa_nil)))))
      (pcs_case rfl sc_Ledger_apply.nd (.cons (i := 2) rfl (Or.inl rfl) (Or.inr rfl) (.cons (i := 3) rfl (Or.inl rfl) (Or.inr rfl) (.cons (i := 4) rfl (Or.inl rfl) (Or.inr rfl) .nil))) (pss_one (ps_ret (pe_mth L_Ledger D_Ledger_do_ready (hr.mono (by omega)) (pv 0) (pa_cons (pv 2) (pa_cons (pv 3) (pa_cons (pv 4) pa_nil))))))
      (pcs_case rfl sc_Ledger_apply.nd (.cons (i := 2) rfl (Or.inl rfl) (Or.inr rfl) (.cons (i := 5) rfl (Or.inl rfl) (Or.inr rfl) .nil)) (pss_one (ps_ret (pe_mth L_Ledger D_Ledger_do_choose (hr.mono (by omega)) (pv 0) (pa_cons (pv 2) (pa_cons (pv 5) pa_nil)))))
      (pcs_case rfl sc_Ledger_apply.nd (.cons (i := 2) rfl (Or.inl rfl) (Or.inr rfl) (.cons (i := 5) rfl (Or.inl rfl) (Or.inr rfl) .nil)) (pss_one (ps_ret (pe_mth L_Ledger D_Ledger_do_over (hr.mono (by omega)) (pv 0) (pa_cons (pv 2) (pa_cons (pv 5) pa_nil)))))
      (pcs_case rfl sc_Ledger_apply.nd (.cons (i := 4) rfl (Or.inl rfl) (Or.inr rfl) .nil) (pss_one (ps_ret (pe_mth L_Ledger D_Ledger_do_mark (hr.mono (by omega)) (pv 0) (pa_cons (pv 4) pa_nil))))
      (pcs_case rfl sc_Ledger_apply.nd (.cons (i := 6) rfl (Or.inl rfl) (Or.inr rfl) .nil) (pss_one (ps_ret (pe_mth L_Ledger D_Ledger_do_cut (hr.mono (by omega)) (pv 0) (pa_cons (pv 6) pa_nil))))
      (pcs_case rfl sc_Ledger_apply.nd (.cons (i := 6) rfl (Or.inl rfl) (Or.inr rfl) .nil) (pss_one (ps_ret (pe_mth L_Ledger D_Ledger_do_join (hr.mono (by omega)) (pv 0) (pa_cons (pv 6) pa_nil))))
      (pcs_case rfl sc_Ledger_apply.nd (.cons (i := 7) rfl (Or.inl rfl) (Or.inr rfl) (.cons (i := 8) rfl (Or.inl rfl) (Or.inr rfl) (.cons (i := 9) rfl (Or.inl rfl) (Or.inr rfl) (.cons (i := 4) rfl (Or.inl rfl) (Or.inr rfl) .nil)))) (pss_one (ps_ret (pe_mth L_Ledger D_Ledger_do_give (hr.mono (by omega)) (pv 0) (pa_cons (pv 7) (pa_cons (pv 8) (pa_cons (pv 9) (pa_cons (pv 4) pa_nil)))))))
      (pcs_case rfl sc_Ledger_apply.nd (.cons (i := 7) rfl (Or.inl rfl) (Or.inr rfl) (.cons (i := 8) rfl (Or.inl rfl) (Or.inr rfl) (.cons (i := 10) rfl (Or.inl rfl) (Or.inr rfl) (.cons (i := 4) rfl (Or.inl rfl) (Or.inr rfl) (.cons (i := 11) rfl (Or.inl rfl) (Or.inr rfl) .nil))))) (pss_one (ps_ret (pe_mth L_Ledger D_Ledger_do_take (hr.mono (by omega)) (pv 0) (pa_cons (pv 7) (pa_cons (pv 8) (pa_cons (pv 10) (pa_cons (pv 4) (pa_cons (pv 11) pa_nil))))))))
      pcs_nil))))))))))
    (pss_one (ps_ret pe_str)), ?_⟩
    rcases q with ⟨dl, o, e, es, hc, hO, hK, hl, q⟩ | ⟨dl, v, hc, hl, q⟩
    · refine ⟨_, rfl, c, _, _, rfl, SqT.of hc, caseT ⟨rfl, rfl⟩ ?_⟩
      exact ⟨_, rfl, p, dx, _, rfl, ho, ledF_no m (by decide +kernel), _, rfl, _, rfl, p, m, dl, o, e, es, rfl, hL, hO, hK, hl, q⟩
    · refine ⟨_, rfl, c, _, _, rfl, SqT.of hc, caseF (fun z => absurd z.2 (by decide +kernel)) ⟨c, _, _, rfl, SqT.of hc, caseF (fun z => absurd z.1 (by show ¬ (2 = 3); decide)) ⟨c, _, _, rfl, SqT.of hc, caseT ⟨rfl, rfl⟩ ?_⟩⟩⟩
      exact ⟨_, rfl, p, dx, _, rfl, ho, ledF_no m (by decide +kernel), _, rfl, _, rfl, p, m, dl, v, rfl, hL, hl, q⟩
end
end FB

namespace FB
open PySem PySem.Spec PyProof.Rows L2
def spCut4 (c : Str → Str → Str → Bool) : Sp := fun vs H Q _ => ∃ (a : Addr) (zs : List Sp3) (k : Str), vs = [.ref a, .str k] ∧ SpansAt H a zs ∧ zs.length ≤ 400 ∧
  ∀ (p : Addr) (ws : List Sp3) (H' : Hp), Same H H' → H p = none → SpansAt H' p ws → ws.map (·.2) = cutL k (fun l h => c l h k) (zs.map (·.2)) → ws.length ≤ 2 * zs.length → Q (.ref p) H'
section
variable {P : Program} {w : World} {K : PySem.W.Frag} {mg : Str → Option Value} {base : Heap}
theorem ok_can_cut {f : Addr} {fd : FuncData} (F : Fun K "can_cut" "can_cut" s_can_cut f fd) (B : Blt mg) (T : Txt mg) (D_has_key : DefOk P w K mg base 1 "has_key" ["span", "key"] (spHas K)) : FnOk P w K mg base CX0 2 f fd ["span", "key"] (spCan K) := by
  obtain ⟨tL, h_LEAST_KEY⟩ := T.LEAST_KEY
  refine F.ok sc_can_cut (fun vs H Q E h => ?_) (fun cdv A outer s H vs Q E hr h => ?_)
  · obtain ⟨p, l, h, k, rfl, _⟩ := h
    rfl
  · obtain ⟨p, l, h, k, rfl, hT, q⟩ := h
    refine ⟨_, pss_one (ps_ret (pe_and (pe_def D_has_key (hr.mono (by omega)) (by rfl) (pa_cons (pv 0) (pa_cons (pv 1) pa_nil))) (pe_one (pe_cmpR op_lt_str (pe_callB (call_max2S rfl) (by rfl) B.max (by decide +kernel) (pa_cons (pe_ix ix_tup (pv 0) pe_int (fun _ _ => rfl)) (pa_cons (pe_glob (v := .str "a") rfl h_LEAST_KEY ⟨_, rfl⟩) pa_nil))) (pv 1) (nomark _))))), ?_⟩
    refine ⟨_, rfl, _, rfl, p, l, h, k, rfl, hT, _, rfl, ite2 (fun e => ?_) (fun e => ?_)⟩
    · have e1 : canB l h k = decide ((maxS l "a").cps.toList < k.cps.toList) := by
        unfold canB
        rw [e]
        rfl
      rw [e1] at q
      exact ⟨_, rfl, p, _, _, _, rfl, rfl, hT, atI_nat (j := 0) rfl, _, _, rfl, _, rfl, _, _, rfl, rfl, q⟩
    · have e1 : canB l h k = false := by
        unfold canB
        rw [Bool.eq_false_iff.mpr e]
        rfl
      rw [e1] at q
      exact q
theorem ok_cut_at {f : Addr} {fd : FuncData} (F : Fun K "cut_at" "cut_at" s_cut_at f fd) (D_can_cut : DefOk P w K mg base 2 "can_cut" ["span", "key"] (spCan K)) : FnOk P w K mg base CX0 3 f fd ["spans", "key"] (spCut4 canB) := by
  refine F.ok sc_cut_at (fun vs H Q E h => ?_) (fun cdv A outer s H vs Q E hr h => ?_)
  · obtain ⟨a, zs, k, rfl, _⟩ := h
    rfl
  · obtain ⟨a, zs, k, rfl, hZ, hzl, q⟩ := h
    refine ⟨_, pss_cons (ps_set (i := 2) sc_cut_at.nd rfl (Or.inl rfl) (pe_lst pa_nil))
    (pss_cons (ps_for PassesOwn.never rfl (pi_list (pv 0)) (pg_name (i := 3) sc_cut_at.nd rfl (Or.inl rfl))
      (pss_one (ps_if (pt_val (pe_def D_can_cut (hr.mono (by omega)) (by rfl) (pa_cons (pv 3) (pa_cons (pv 1) pa_nil))))
        (pss_cons (ps_expr (pe_bm PySem.F.plainAttrs_list PySem.F.slot_list_append PySem.F.type_list_append mt_append (pv 2) (pa_cons (pe_tup (pa_cons (pe_ix ix_tup (pv 3) pe_int (fun _ _ => rfl)) (pa_cons (pv 1) pa_nil))) pa_nil)))
        (pss_one (ps_expr (pe_bm PySem.F.plainAttrs_list PySem.F.slot_list_append PySem.F.type_list_append mt_append (pv 2) (pa_cons (pe_tup (pa_cons (pv 1) (pa_cons (pe_ix ix_tup (pv 3) pe_int (fun _ _ => rfl)) pa_nil))) pa_nil)))))
        (pss_one (ps_expr (pe_bm PySem.F.plainAttrs_list PySem.F.slot_list_append PySem.F.type_list_append mt_append (pv 2) (pa_cons (pv 3) pa_nil)))))))
    (pss_one (ps_ret (pv 2)))), ?_⟩
    refine ⟨Nat.zero_le _, fun pl npl => ?_⟩
    have s1 := same_new (o := .lst []) npl
    refine ⟨_, rfl, a, rfl, ⟨_, SqL.of (s1 _ _ hZ.ls)⟩, for_list (K := K) (a := a) (xs := zs.map fun z => V.ref z.1) (fun i σ H' => ∃ v3, ∃ ws : List Sp3, σ = [some (.ref a), some (.str k), some (.ref pl), v3] ∧ SpansAt H' pl ws ∧ ws.map (·.2) = cutL k (fun l h => canB l h k) ((zs.take i).map (·.2)) ∧ ws.length ≤ 2 * i ∧ Same H H') ?_ ?_ ?_ ?_⟩
    · exact ⟨none, [], rfl, ⟨upd_same, fun z hz => by simp at hz⟩, rfl, Nat.zero_le _, s1⟩
    · rintro i σ H' _ ⟨_, _, _, _, _, _, sm⟩
      exact SqL.of (sm _ _ hZ.ls)
    · rintro i x σ H' hi ⟨v3, ws, rfl, hW, ew, hwl, sm⟩
      rw [List.getElem?_map] at hi
      obtain ⟨z, hz, rfl⟩ := Option.map_eq_some_iff.mp hi
      have hm : z ∈ zs := List.mem_of_getElem? hz
      have hil : i < zs.length := (List.getElem?_eq_some_iff.mp hz).1
      have hzt := sm _ _ (hZ.tp z hm)
      have hT : SqT K H' z.1 [.str z.2.1, .str z.2.2] := SqT.of hzt
      have ec : cutL k (fun l h => canB l h k) ((zs.take (i + 1)).map (·.2)) = cutL k (fun l h => canB l h k) ((zs.take i).map (·.2)) ++ (if canB z.2.1 z.2.2 k = true then [(z.2.1, k), (k, z.2.2)] else [z.2]) := by
        rw [take_snoc hz, List.map_append]
        exact cutL_snoc _ _ _ z.2
      refine ⟨_, rfl, _, rfl, z.1, z.2.1, z.2.2, k, rfl, hT, _, rfl, ite2 (fun e => ?_) (fun e => ?_)⟩
      · rw [if_pos e] at ec
        refine ⟨_, rfl, .inl ⟨rfl, _, SqL.of hW.ls⟩, _, rfl, z.1, _, _, _, rfl, rfl, hT, atI_nat (j := 0) rfl, _, rfl, by show 2 ≤ sizeLine; decide, fun t1 n1 => ?_⟩
        have u1 := same_new (o := .tup [V.str z.2.1, V.str k]) n1
        have W1 := hW.addNew (x := z.2.1) (y := k) n1
        have m1 := same_mut (o := .lst (ws.map (fun z => V.ref z.1) ++ [.ref t1])) (sm.trans u1) npl
        refine ⟨pl, _, _, rfl, rfl, u1 _ _ hW.ls, small1000 (by rw [List.length_map]; omega), ?_⟩
        have hT1 := SqT.of (K := K) (m1 _ _ (hZ.tp z hm))
        refine ⟨_, rfl, .inl ⟨rfl, _, SqL.of W1.ls⟩, _, rfl, _, rfl, z.1, _, _, _, rfl, rfl, hT1, atI_nat (j := 1) rfl, by show 2 ≤ sizeLine; decide, fun t2 n2 => ?_⟩
        have W2 := W1.addNew (x := k) (y := z.2.2) n2
        have u2 := same_new (o := .tup [V.str k, V.str z.2.2]) n2
        refine ⟨pl, _, _, rfl, rfl, u2 _ _ W1.ls, small1000 (by rw [List.length_map, List.length_append]; show ws.length + 1 ≤ 1000; omega), _, _, rfl, W2, ?_, ?_, same_mut (m1.trans u2) npl⟩
        · rw [ec, List.map_append, List.map_append, ew, List.append_assoc]
          rfl
        · rw [List.length_append, List.length_append]
          show ws.length + 1 + 1 ≤ _
          omega
      · rw [if_neg e] at ec
        refine ⟨_, rfl, .inl ⟨rfl, _, SqL.of hW.ls⟩, _, rfl, pl, _, _, rfl, rfl, hW.ls, small1000 (by rw [List.length_map]; omega), _, _, rfl, hW.add hzt, ?_, ?_, same_mut sm npl⟩
        · rw [ec, List.map_append, ew]
          rfl
        · rw [List.length_append]
          show ws.length + 1 ≤ _
          omega
    · rintro σ H' ⟨v3, ws, rfl, hW, ew, hwl, sm⟩
      rw [List.length_map] at hwl ew
      rw [List.take_length] at ew
      exact ⟨_, rfl, q pl ws H' sm npl hW ew hwl⟩
end
end FB

namespace FB
open PySem PySem.Spec PyProof.Rows L2
/-- a new list of spans, made of those of a list by g -/
def spMade (g : Str → List Sp2 → List Sp2) (ok : Str → List Sp3 → Prop) : Sp := fun vs H Q _ => ∃ (a : Addr) (zs : List Sp3) (k : Str), vs = [.ref a, .str k] ∧ SpansAt H a zs ∧ zs.length ≤ 400 ∧ ok k zs ∧
  ∀ (p : Addr) (ws : List Sp3) (H' : Hp), Same H H' → H p = none → SpansAt H' p ws → ws.map (·.2) = g k (zs.map (·.2)) → ws.length ≤ zs.length → Q (.ref p) H'
def joinL (k : Str) (L : List Sp2) : List Sp2 := L.foldl (jstep k) []
theorem SpansAt.setLast {H : Hp} {pl t : Addr} {ws : List Sp3} {p : Sp3} {x y : Str} (h : SpansAt H pl (ws ++ [p])) (ht : H t = none) :
    SpansAt (upd (upd H t (.tup [.str x, .str y])) pl (.lst (((ws ++ [p]).map (fun z => V.ref z.1)).set ws.length (.ref t)))) pl (ws ++ [(t, x, y)]) := by
  have s := (same_new (o := .tup [V.str x, V.str y]) ht)
  refine ⟨?_, fun z hz => ?_⟩
  · rw [upd_same, List.map_append, List.set_append_right _ _ (by rw [List.length_map]; exact Nat.le_refl _), List.length_map, Nat.sub_self, List.map_append]
    rfl
  · have hz' : upd H t (.tup [.str x, .str y]) z.1 = some (.tup [.str z.2.1, .str z.2.2]) := by
      rcases List.mem_append.mp hz with m | m
      · exact s _ _ (h.tp z (by simp [m]))
      · rw [show z = (t, x, y) by simpa using m]
        exact upd_same
    rw [upd_ne (ne_of hz' (s _ _ h.ls) (by intro z; cases z))]
    exact hz'
theorem at_last {ws : List Sp3} {p : Sp3} : atI ((ws ++ [p]).map fun z => V.ref z.1) (-1) = some (.ref p.1) := by
  rw [List.map_append]
  exact atI_last _ _
theorem ix_last (n : Nat) : ixN (n + 1) (-1) = some n := by
  unfold ixN
  rw [if_neg (by omega), if_pos (by omega)]
  congr 1
  omega
section
variable {P : Program} {w : World} {K : PySem.W.Frag} {mg : Str → Option Value} {base : Heap}
theorem ok_joined_at {f : Addr} {fd : FuncData} (F : Fun K "joined_at" "joined_at" s_joined_at f fd) : FnOk P w K mg base CX0 1 f fd ["spans", "key"] (spMade joinL fun _ _ => True) := by
  refine F.ok sc_joined_at (fun vs H Q E h => ?_) (fun cdv A outer s H vs Q E hr h => ?_)
  · obtain ⟨a, zs, k, rfl, _⟩ := h
    rfl
  · obtain ⟨a, zs, k, rfl, hZ, hzl, _, q⟩ := h
    refine ⟨_, pss_cons (ps_set (i := 2) sc_joined_at.nd rfl (Or.inl rfl) (pe_lst pa_nil))
    (pss_cons (ps_for PassesOwn.never rfl (pi_list (pv 0)) (pg_name (i := 3) sc_joined_at.nd rfl (Or.inl rfl))
      (pss_one (ps_if (PW.pt (pw_and (pt_truth (pv 2) (by intro _; rfl)) (pw_and (pt_cmpR op_eq (pe_ix ix_tup (pe_ix ix_list (pv 2) (pe_un un_neg pe_int) (fun _ _ => rfl)) pe_int (fun _ _ => rfl)) (pv 1) (nomark _)) (pw_and1 (pt_cmpR op_eq (pe_ix ix_tup (pv 3) pe_int (fun _ _ => rfl)) (pv 1) (nomark _))))))
        (pss_one (ps_asg (pe_tup (pa_cons (pe_ix ix_tup (pe_ix ix_list (pv 2) (pe_un un_neg pe_int) (fun _ _ => rfl)) pe_int (fun _ _ => rfl)) (pa_cons (pe_ix ix_tup (pv 3) pe_int (fun _ _ => rfl)) pa_nil))) (pg_sub (pv 2) (pe_un un_neg pe_int) set_list)))
        (pss_one (ps_expr (pe_bm PySem.F.plainAttrs_list PySem.F.slot_list_append PySem.F.type_list_append mt_append (pv 2) (pa_cons (pv 3) pa_nil)))))))
    (pss_one (ps_ret (pv 2)))), ?_⟩
    refine ⟨Nat.zero_le _, fun pl npl => ?_⟩
    have s1 := same_new (o := .lst []) npl
    obtain ⟨Pv, hPv⟩ : ∃ Pv : Nat → L2.St → Hp → Prop, ∀ i σ H', Pv i σ H' ↔ ∃ v3, ∃ ws : List Sp3, σ = [some (.ref a), some (.str k), some (.ref pl), v3] ∧ SpansAt H' pl ws ∧ ws.map (·.2) = joinL k ((zs.take i).map (·.2)) ∧ ws.length ≤ i ∧ Same H H' := ⟨_, fun _ _ _ => Iff.rfl⟩
    refine ⟨_, rfl, a, rfl, ⟨_, SqL.of (s1 _ _ hZ.ls)⟩, for_list (K := K) (a := a) (xs := zs.map fun z => V.ref z.1) Pv ?_ ?_ ?_ ?_⟩
    · exact (hPv _ _ _).mpr ⟨none, [], rfl, ⟨upd_same, fun z hz => by simp at hz⟩, rfl, Nat.zero_le _, s1⟩
    · intro i σ H' _ hp
      obtain ⟨_, _, _, _, _, _, sm⟩ := (hPv _ _ _).mp hp
      exact SqL.of (sm _ _ hZ.ls)
    · intro i x σ H' hi hp
      obtain ⟨v3, ws, rfl, hW, ew, hwl, sm⟩ := (hPv _ _ _).mp hp
      rw [List.getElem?_map] at hi
      obtain ⟨z, hz, rfl⟩ := Option.map_eq_some_iff.mp hi
      have hm : z ∈ zs := List.mem_of_getElem? hz
      have hil : i < zs.length := (List.getElem?_eq_some_iff.mp hz).1
      have hzt := sm _ _ (hZ.tp z hm)
      have hT : SqT K H' z.1 [.str z.2.1, .str z.2.2] := SqT.of hzt
      have ej : joinL k ((zs.take (i + 1)).map (·.2)) = jstep k (ws.map (·.2)) z.2 := by
        unfold joinL at ew ⊢
        rw [take_snoc hz, List.map_append, List.foldl_append, ← ew]
        rfl
      have els : jstep k (ws.map (·.2)) z.2 = ws.map (·.2) ++ [z.2] → Pv (i + 1) [some (.ref a), some (.str k), some (.ref pl), some (.ref z.1)] (upd H' pl (.lst (ws.map (fun z => V.ref z.1) ++ [.ref z.1]))) := fun e => by
        refine (hPv _ _ _).mpr ⟨_, ws ++ [z], rfl, hW.add hzt, ?_, ?_, same_mut sm npl⟩
        · rw [ej, e, List.map_append]
          rfl
        · rw [List.length_append]
          show ws.length + 1 ≤ _
          omega
      refine ⟨_, rfl, _, .inl ⟨_, SqL.of hW.ls, rfl⟩, ?_⟩
      rcases nil_or_snoc ws with rfl | ⟨ws, p, rfl⟩
      · exact ⟨_, rfl, .inl ⟨rfl, _, SqL.of hW.ls⟩, _, rfl, pl, _, _, rfl, rfl, hW.ls, by decide, els rfl⟩
      · rw [show (!((ws ++ [p]).map (fun z => V.ref z.1)).isEmpty) = true by simp]
        have hpt := hW.tp p (by simp)
        have hTp : SqT K H' p.1 [.str p.2.1, .str p.2.2] := SqT.of hpt
        have hlen : ws.length + 1 ≤ i := by
          rw [List.length_append] at hwl
          exact hwl
        have no : ¬ (p.2.2 = k ∧ z.2.1 = k) → Pv (i + 1) [some (.ref a), some (.str k), some (.ref pl), some (.ref z.1)] (upd H' pl (.lst ((ws ++ [p]).map (fun z => V.ref z.1) ++ [.ref z.1]))) := fun e => els (by
          rw [List.map_append]
          exact jstep_no e)
        have hsz : ((ws ++ [p]).map fun z => V.ref z.1).length < sizeLine := by
          rw [List.length_map, List.length_append]
          exact small1000 (show ws.length + 1 ≤ 1000 by omega)
        refine ⟨_, rfl, _, rfl, pl, _, _, _, rfl, rfl, SqL.of hW.ls, at_last, p.1, _, _, _, rfl, rfl, hTp, atI_nat (j := 1) rfl, _, rfl, rfl, _, rfl, ite2 (fun e1 => ?_) (fun e1 => ?_)⟩
        · refine ⟨_, rfl, z.1, _, _, _, rfl, rfl, hT, atI_nat (j := 0) rfl, _, rfl, rfl, _, rfl, ite2 (fun e2 => ?_) (fun e2 => ?_)⟩
          · refine ⟨_, rfl, _, rfl, pl, _, _, _, rfl, rfl, SqL.of hW.ls, at_last, p.1, _, _, _, rfl, rfl, hTp, atI_nat (j := 0) rfl, _, rfl, z.1, _, _, _, rfl, rfl, hT, atI_nat (j := 1) rfl, by show 2 ≤ sizeLine; decide, fun t nt => ?_⟩
            have u1 := same_new (o := .tup [V.str p.2.1, V.str z.2.2]) nt
            refine ⟨_, rfl, _, rfl, pl, _, _, ws.length, rfl, rfl, u1 _ _ hW.ls, by rw [List.length_map, List.length_append]; exact ix_last _, (hPv _ _ _).mpr ⟨_, _, rfl, hW.setLast nt, ?_, ?_, same_mut (sm.trans u1) npl⟩⟩
            · rw [ej, List.map_append, List.map_append]
              exact (jstep_yes ⟨V.str.inj (of_decide_eq_true e1), V.str.inj (of_decide_eq_true e2)⟩).symm
            · rw [List.length_append]
              show ws.length + 1 ≤ _
              omega
          · exact ⟨_, rfl, .inl ⟨rfl, _, SqL.of hW.ls⟩, _, rfl, pl, _, _, rfl, rfl, hW.ls, hsz, no fun h => e2 (decide_eq_true (congrArg V.str h.2))⟩
        · exact ⟨_, rfl, .inl ⟨rfl, _, SqL.of hW.ls⟩, _, rfl, pl, _, _, rfl, rfl, hW.ls, hsz, no fun h => e1 (decide_eq_true (congrArg V.str h.1))⟩
    · intro σ H' hp
      obtain ⟨v3, ws, rfl, hW, ew, hwl, sm⟩ := (hPv _ _ _).mp hp
      rw [List.length_map] at hwl ew
      rw [List.take_length] at ew
      exact ⟨_, rfl, q pl ws H' sm npl hW ew hwl⟩
end
end FB

namespace FB
open PySem PySem.Spec PyProof.Rows L2
/-! ### the ledger's spans: cut and join -/
theorem LedAt.set_spans {C CS : Addr} {H : Hp} {L dx a : Addr} {m : Led} {ws : List Sp3} (h : LedAt C CS H L m) (ho : H L = some (.ins C dx (ledF m))) (ha : SpansAt H a ws) (ng : a ≠ m.aG) (na : a ≠ m.aA) :
    LedAt C CS (upd H L (.ins C dx (ledF { m with aS := a, zs := ws }))) L { m with aS := a, zs := ws } := by
  have kp := kp_upd (H := H) (x := L) (o := .ins C dx (ledF { m with aS := a, zs := ws }))
  have kt : ∀ b xs, H b = some (.tup xs) → upd H L (.ins C dx (ledF { m with aS := a, zs := ws })) b = some (.tup xs) := fun b xs e => kp b _ e (ne_of e ho (by intro z; cases z))
  have r := h.rest (x := L) (fun xs z => by rw [ho] at z; cases z) kp
  obtain ⟨dx2, d2, e2⟩ := h.sh.is
  have nLH : m.aH ≠ L := ne_of e2 ho (fun z => by
    injection z with _ _ z3
    have := congrArg List.length z3
    cases this)
  exact ⟨⟨dx, upd_same⟩, ⟨kp _ _ ha.ls (ne_of ha.ls ho (by intro z; cases z)), fun z hz => kt _ _ (ha.tp z hz)⟩, r.sh nLH (h.sh.not ho (by intro kvs z; cases z)), r.op (ne_of h.op ho (by intro z; cases z)), r.oo, r.ch (ne_of h.ch ho (by intro z; cases z)), r.en (ne_of h.en ho (by intro z; cases z)), r.rd (ne_of h.rd ho (by intro z; cases z)), r.rt, r.rf (ne_of h.rf ho (by intro z; cases z)), r.ho (ne_of h.ho ho (by intro z; cases z)), r.gi (ne_of h.gi ho (by intro z; cases z)), r.gt, r.ar (ne_of h.ar ho (by intro z; cases z)), h.nd, h.gl, ng, na⟩

def cutM (m : Led) (k : Str) : List Sp2 := cutL k (fun l h => canB l h k) (m.zs.map (·.2))
def joinM (m : Led) (k : Str) : List Sp2 := joinL k (m.zs.map (·.2))
/-- the word of a cut -/
def cutW (zs : List Sp2) (k : Str) : Str := if ownsB zs k = true then if (zs.any fun z => canB z.1 z.2 k) = true then "cut" else "known" else "away"
def joinW (zs : List Sp2) (k : Str) : Str := if (joinL k zs).length = zs.length then "away" else "joined"
/-- the spans behind it -/
def SpStep (C CS : Addr) (H H' : Hp) (p : Addr) (m : Led) (new : List Sp2) : Prop := ∃ (a : Addr) (ws : List Sp3), LedAt C CS H' p { m with aS := a, zs := ws } ∧ ws.map (·.2) = new ∧ (a = m.aS ∨ H a = none) ∧ Keep p H H'
def spLedCut (C CS : Addr) : Sp := fun vs H Q _ => ∃ (p : Addr) (m : Led) (k : Str), vs = [.ref p, .str k] ∧ LedAt C CS H p m ∧ m.zs.length ≤ 400 ∧ (∀ z ∈ m.zs, ∀ y ∈ m.zs, hasB z.2.1 z.2.2 k = true → hasB y.2.1 y.2.2 k = true → z.2 = y.2) ∧ ∀ H', SpStep C CS H H' p m (cutM m k) → Q (.str (cutW (m.zs.map (·.2)) k)) H'
def spLedJoin (C CS : Addr) : Sp := fun vs H Q _ => ∃ (p : Addr) (m : Led) (k : Str), vs = [.ref p, .str k] ∧ LedAt C CS H p m ∧ m.zs.length ≤ 400 ∧ ∀ H', SpStep C CS H H' p m (if (joinM m k).length = m.zs.length then m.zs.map (·.2) else joinM m k) → Q (.str (joinW (m.zs.map (·.2)) k)) H'
theorem cutL_id {k : Str} {c : Str → Str → Bool} : ∀ {zs : List Sp2}, (∀ z ∈ zs, c z.1 z.2 = false) → cutL k c zs = zs
  | [], _ => rfl
  | z :: r, h => by
    have e : cutL k c (z :: r) = (if c z.1 z.2 = true then [(z.1, k), (k, z.2)] else [z]) ++ cutL k c r := rfl
    rw [e, if_neg (by rw [h z List.mem_cons_self]; decide), cutL_id fun y hy => h y (List.mem_cons_of_mem _ hy)]
    rfl
theorem can_has {l h k : Str} (e : canB l h k = true) : hasB l h k = true := by
  unfold canB at e
  exact (Bool.and_eq_true_iff.mp e).1
section
variable {P : Program} {w : World} {K : PySem.W.Frag} {mg : Str → Option Value} {base : Heap}
theorem ok_led_cut {f C CS : Addr} {fd : FuncData} (F : Fun K "do_cut" "Ledger.do_cut" s_Ledger_do_cut f fd) (T : LdCls K C) (D_span_with : DefOk P w K mg base 2 "span_with" ["spans", "key"] spSpanWith) (D_can_cut : DefOk P w K mg base 2 "can_cut" ["span", "key"] (spCan K)) (D_cut_at : DefOk P w K mg base 3 "cut_at" ["spans", "key"] (spCut4 canB)) : FnOk P w K mg base CX0 4 f fd ["self", "key"] (spLedCut C CS) := by
  refine F.ok sc_Ledger_do_cut (fun vs H Q E h => ?_) (fun cdv A outer s H vs Q E hr h => ?_)
  · obtain ⟨p, m, k, rfl, _⟩ := h
    rfl
  · obtain ⟨p, m, k, rfl, hL, hl, hu1, q⟩ := h
    obtain ⟨dx, ho⟩ := hL.ob
    have stay : (∀ z ∈ m.zs, canB z.2.1 z.2.2 k = false) → SpStep C CS H H p m (cutM m k) := fun h => ⟨m.aS, m.zs, hL, by unfold cutM; rw [cutL_id]; intro z hz; obtain ⟨y, hy, rfl⟩ := List.mem_map.mp hz; exact h y hy, .inl rfl, Keep.refl _ _⟩
    refine ⟨_, pss_cons (ps_set (i := 2) sc_Ledger_do_cut.nd rfl (Or.inl rfl) (pe_def D_span_with (hr.mono (by omega)) (by rfl) (pa_cons (pe_fld (pv 0) rfl) (pa_cons (pv 1) pa_nil))))
    (pss_cons (ps_if (pt_cmpR op_isN (pv 2) pe_non (nomark _))
      (pss_one (ps_ret pe_str)) pss_nil)
    (pss_cons (ps_if (pt_not (pt_val (pe_def D_can_cut (hr.mono (by omega)) (by rfl) (pa_cons (pv 2) (pa_cons (pv 1) pa_nil)))))
      (pss_one (ps_ret pe_str)) pss_nil)
    (pss_cons (ps_fld (pv 0) (pe_def D_cut_at (hr.mono (by omega)) (by rfl) (pa_cons (pe_fld (pv 0) rfl) (pa_cons (pv 1) pa_nil))) rfl)
    (pss_one (ps_ret pe_str))))), ?_⟩
    refine ⟨_, rfl, p, C, dx, _, _, rfl, ho, T.cl, T.spans, look_spans m, _, rfl, m.aS, m.zs, k, rfl, hL.sp, ?_⟩
    have ef : ownsB (m.zs.map (·.2)) k = (m.zs.find? (fun z => hasB z.2.1 z.2.2 k)).isSome := any_find
    unfold cutW at q
    cases hf : m.zs.find? (fun z => hasB z.2.1 z.2.2 k) with
    | none =>
      rw [ef, hf, if_neg (by decide)] at q
      refine ⟨_, rfl, rfl, _, rfl, iteT ?_⟩
      refine q H (stay fun z hz => ?_)
      have := List.find?_eq_none.mp hf z hz
      cases e : canB z.2.1 z.2.2 k with
      | false => rfl
      | true => exact absurd (can_has e) this
    | some z =>
      rw [ef, hf, if_pos (show (some z).isSome = true from rfl)] at q
      have hz := List.mem_of_find?_eq_some hf
      have hh : hasB z.2.1 z.2.2 k = true := List.find?_some (p := fun z : Sp3 => hasB z.2.1 z.2.2 k) hf
      refine ⟨_, rfl, rfl, _, rfl, iteF ?_⟩
      refine ⟨_, rfl, _, rfl, z.1, z.2.1, z.2.2, k, rfl, SqT.of (hL.sp.tp z hz), _, rfl, ?_⟩
      have eany : ((m.zs.map (·.2)).any fun z => canB z.1 z.2 k) = canB z.2.1 z.2.2 k := by
        cases e : canB z.2.1 z.2.2 k with
        | true => exact List.any_eq_true.mpr ⟨z.2, List.mem_map.mpr ⟨z, hz, rfl⟩, e⟩
        | false =>
          rw [List.any_eq_false]
          intro y hy hc
          obtain ⟨y, hy2, rfl⟩ := List.mem_map.mp hy
          rw [← hu1 z hz y hy2 hh (can_has hc), e] at hc
          cases hc
      rw [eany] at q
      cases e : canB z.2.1 z.2.2 k with
      | false =>
        rw [e, if_neg (by decide)] at q
        refine iteT ?_
        refine q H (stay fun y hy => ?_)
        cases e2 : canB y.2.1 y.2.2 k with
        | false => rfl
        | true =>
          rw [← hu1 z hz y hy hh (can_has e2), e] at e2
          cases e2
      | true =>
        rw [e, if_pos rfl] at q
        refine iteF ?_
        refine ⟨_, rfl, p, C, dx, _, _, rfl, ho, T.cl, T.spans, look_spans m, _, rfl, m.aS, m.zs, k, rfl, hL.sp, hl, fun a ws H1 s1 na hW ew _ => ?_⟩
        have hL1 := hL.same s1
        have ho1 := s1 _ _ ho
        refine ⟨_, rfl, p, C, dx, _, rfl, ho1, T.cl, T.spans, by show 11 < 1000; decide, ?_⟩
        exact q _ ⟨a, ws, hL1.set_spans ho1 hW (ne_of_none hL.gi na).symm (ne_of_none hL.ar na).symm, ew, .inr na, fun b o hb n => by rw [upd_ne n]; exact s1 b o hb⟩
theorem ok_led_join {f C CS : Addr} {fd : FuncData} (F : Fun K "do_join" "Ledger.do_join" s_Ledger_do_join f fd) (B : Blt mg) (T : LdCls K C) (D_joined_at : DefOk P w K mg base 1 "joined_at" ["spans", "key"] (spMade joinL fun _ _ => True)) : FnOk P w K mg base CX0 2 f fd ["self", "key"] (spLedJoin C CS) := by
  refine F.ok sc_Ledger_do_join (fun vs H Q E h => ?_) (fun cdv A outer s H vs Q E hr h => ?_)
  · obtain ⟨p, m, k, rfl, _⟩ := h
    rfl
  · obtain ⟨p, m, k, rfl, hL, hl, q⟩ := h
    obtain ⟨dx, ho⟩ := hL.ob
    refine ⟨_, pss_cons (ps_set (i := 2) sc_Ledger_do_join.nd rfl (Or.inl rfl) (pe_def D_joined_at (hr.mono (by omega)) (by rfl) (pa_cons (pe_fld (pv 0) rfl) (pa_cons (pv 1) pa_nil))))
    (pss_cons (ps_if (pt_cmpR op_eq (pe_callB call_len_seq (by rfl) B.len (by decide +kernel) (pa_cons (pv 2) pa_nil)) (pe_callB call_len_seq (by rfl) B.len (by decide +kernel) (pa_cons (pe_fld (pv 0) rfl) pa_nil)) (nomark _))
      (pss_one (ps_ret pe_str)) pss_nil)
    (pss_cons (ps_fld (pv 0) (pv 2) rfl)
    (pss_one (ps_ret pe_str)))), ?_⟩
    refine ⟨_, rfl, p, C, dx, _, _, rfl, ho, T.cl, T.spans, look_spans m, _, rfl, m.aS, m.zs, k, rfl, hL.sp, hl, trivial, fun a ws H1 s1 na hW ew _ => ?_⟩
    have hL1 := hL.same s1
    have ho1 := s1 _ _ ho
    have hlen : (ws.map fun z : Sp3 => V.ref z.1).length = (joinM m k).length := by
      unfold joinM
      rw [← ew, List.length_map, List.length_map]
    have hlen2 : (m.zs.map fun z : Sp3 => V.ref z.1).length = m.zs.length := List.length_map ..
    refine ⟨_, rfl, a, _, rfl, .inl (SqL.of hW.ls), _, rfl, p, C, dx, _, _, rfl, ho1, T.cl, T.spans, look_spans m, m.aS, _, rfl, .inl (SqL.of hL1.sp.ls), rfl, _, rfl, ?_⟩
    rw [hlen, hlen2]
    have ew2 : joinL k (m.zs.map (·.2)) = joinM m k := rfl
    unfold joinW at q
    rw [ew2, List.length_map] at q
    refine ite2 (fun e => ?_) (fun e => ?_)
    · have e' : (joinM m k).length = m.zs.length := by
        have := V.int.inj (of_decide_eq_true e)
        omega
      rw [if_pos e', if_pos e'] at q
      exact q H1 ⟨m.aS, m.zs, hL1, rfl, .inl rfl, fun b o hb _ => s1 b o hb⟩
    · have e' : ¬ (joinM m k).length = m.zs.length := fun z => e (decide_eq_true (by rw [z]))
      rw [if_neg e', if_neg e'] at q
      refine ⟨_, rfl, _, rfl, p, C, dx, _, rfl, ho1, T.cl, T.spans, by show 11 < 1000; decide, ?_⟩
      exact q _ ⟨a, ws, hL1.set_spans ho1 hW (ne_of_none hL.gi na).symm (ne_of_none hL.ar na).symm, ew, .inr na, fun b o hb n => by rw [upd_ne n]; exact s1 b o hb⟩
end
end FB

namespace FB
open PySem PySem.Spec PyProof.Rows L2
/-! ### lists of spans, cut and joined -/
theorem has_inv {l h k : Str} (e : hasB l h k = true) : ltS k l = false ∧ (h = "" ∨ ltS k h = true) := by
  unfold hasB at e
  rw [Bool.and_eq_true, Bool.or_eq_true] at e
  obtain ⟨e1, e2⟩ := e
  refine ⟨by simpa using e1, ?_⟩
  rcases e2 with e2 | e2
  · exact .inl (V.str.inj (of_decide_eq_true e2))
  · exact .inr e2
theorem le_ltS {a b c : Str} (h : ltS b a = false) (h' : ltS b c = true) : ltS a c = true := by
  rcases lt_of_nlt h h' with e | e
  · exact e
  · rw [e]; exact h'
theorem lt_leS {a b c : Str} (h : ltS a b = true) (h' : ltS c b = false) : ltS a c = true := by
  by_cases e : b = c
  · rw [← e]; exact h
  · exact ltS_trans h (ltS_tri h' e)
section
variable {L A B : List Sp2} {z e b : Sp2} {k x : Str}
theorem Good.parts (g : Good (A ++ z :: B)) : (∀ p ∈ A, p.2 ≠ ("" : Str) ∧ ltS z.1 p.2 = false) ∧ (∀ q ∈ B, z.2 ≠ ("" : Str) ∧ ltS q.1 z.2 = false) ∧ (∀ p ∈ A, ∀ q ∈ B, p.2 ≠ ("" : Str) ∧ ltS q.1 p.2 = false) := by
  obtain ⟨_, h2, h3⟩ := List.pairwise_append.mp g.pw
  exact ⟨fun p hp => h3 p hp z List.mem_cons_self, (List.pairwise_cons.mp h2).1, fun p hp q hq => h3 p hp q (List.mem_cons_of_mem _ hq)⟩
theorem Good.lows (g : Good L) : L.Pairwise (fun p q => ltS p.1 q.1 = true) := by
  refine List.Pairwise.imp_of_mem (fun {p q} hp _ h => ?_) g.pw
  rcases g.up p hp with e | e
  · exact absurd e h.1
  · exact lt_leS e h.2
theorem lows_nodup (h : L.Pairwise (fun p q => ltS p.1 q.1 = true)) : L.Nodup := List.Pairwise.imp (fun {p q} h e => by rw [e, ltS_irrefl] at h; cases h) h
theorem Good.nodup (g : Good L) : L.Nodup := lows_nodup g.lows
/-- sorted by lows: just one order -/
theorem lows_uniq : ∀ {R S : List Sp2}, R.Pairwise (fun p q => ltS p.1 q.1 = true) → S.Pairwise (fun p q => ltS p.1 q.1 = true) → R.Perm S → R = S
  | [], S, _, _, p => List.Perm.nil_eq p
  | x :: r, S, h1, h2, p => by
    cases S with
    | nil => exact absurd p.length_eq (by simp)
    | cons y q =>
      obtain ⟨a1, a2⟩ := List.pairwise_cons.mp h1
      obtain ⟨b1, b2⟩ := List.pairwise_cons.mp h2
      have e : x = y := by
        rcases List.mem_cons.mp (p.mem_iff.mp (List.mem_cons_self (a := x))) with e | hx
        · exact e
        · rcases List.mem_cons.mp (p.mem_iff.mpr (List.mem_cons_self (a := y))) with e | hy
          · exact e.symm
          · have := ltS_trans (a1 y hy) (b1 x hx)
            rw [ltS_irrefl] at this
            cases this
      subst e
      rw [lows_uniq a2 b2 ((List.perm_cons _).mp p)]
theorem Good.one (g : Good (A ++ z :: B)) (hz : hasB z.1 z.2 k = true) : ∀ y ∈ A ++ B, hasB y.1 y.2 k = false := fun y hy => by
  obtain ⟨h1, h2, _⟩ := g.parts
  obtain ⟨z1, z2⟩ := has_inv hz
  rcases List.mem_append.mp hy with m | m
  · obtain ⟨n, l⟩ := h1 y m
    refine has_no2 n ?_
    cases e : ltS k y.2 with
    | false => rfl
    | true => rw [le_ltS z1 e] at l; cases l
  · obtain ⟨n, l⟩ := h2 y m
    rcases z2 with z2 | z2
    · exact absurd z2 n
    · exact has_no1 (lt_leS z2 l)
theorem Good.uniq (g : Good L) (hz : z ∈ L) (hy : b ∈ L) (h1 : hasB z.1 z.2 k = true) (h2 : hasB b.1 b.2 k = true) : z = b := by
  obtain ⟨A, B, rfl⟩ := List.append_of_mem hz
  rcases List.mem_append.mp hy with m | m
  · rw [g.one h1 b (List.mem_append_left _ m)] at h2
    cases h2
  · rcases List.mem_cons.mp m with m | m
    · exact m.symm
    · rw [g.one h1 b (List.mem_append_right _ m)] at h2
      cases h2
theorem cutL_append {c : Str → Str → Bool} : cutL k c (A ++ B) = cutL k c A ++ cutL k c B := by
  unfold cutL
  rw [List.map_append, List.flatten_append]
theorem cut_at_one (g : Good (A ++ z :: B)) (hc : canB z.1 z.2 k = true) : cutL k (fun l h => canB l h k) (A ++ z :: B) = A ++ (z.1, k) :: (k, z.2) :: B := by
  have no : ∀ y ∈ A ++ B, canB y.1 y.2 k = false := fun y hy => by
    cases e : canB y.1 y.2 k with
    | false => rfl
    | true => have := can_has e; rw [g.one (can_has hc) y hy] at this; cases this
  rw [show A ++ z :: B = A ++ ([z] ++ B) by rfl, cutL_append, cutL_append, cutL_id (zs := A) fun y hy => no y (List.mem_append_left _ hy), cutL_id (zs := B) fun y hy => no y (List.mem_append_right _ hy)]
  have : cutL k (fun l h => canB l h k) [z] = [(z.1, k), (k, z.2)] := by
    show (if canB z.1 z.2 k = true then [(z.1, k), (k, z.2)] else [z]) ++ [] = _
    rw [if_pos hc]
    rfl
  rw [this]
  rfl
theorem can_low (hz : KeyOr z.1) (hc : canB z.1 z.2 k = true) : ltS z.1 k = true := by
  unfold canB at hc
  obtain ⟨h1, h2⟩ := Bool.and_eq_true_iff.mp hc
  rw [max_a hz] at h2
  unfold leastS at h2
  split at h2
  · rename_i e
    rw [e]
    exact ltS_trans lt_empty_a h2
  · exact h2
theorem Good.cut (g : Good (A ++ z :: B)) (hk : k ≠ "") (hz : KeyOr z.1) (hc : canB z.1 z.2 k = true) : Good (A ++ (z.1, k) :: (k, z.2) :: B) := by
  obtain ⟨pA, pzB, pAB⟩ := List.pairwise_append.mp g.pw
  obtain ⟨pz, pB⟩ := List.pairwise_cons.mp pzB
  obtain ⟨h1, h2, h3⟩ := g.parts
  have lk := can_low hz hc
  obtain ⟨_, hh⟩ := has_inv (can_has hc)
  refine ⟨List.pairwise_append.mpr ⟨pA, List.pairwise_cons.mpr ⟨fun q hq => ⟨hk, ?_⟩, List.pairwise_cons.mpr ⟨pz, pB⟩⟩, fun p hp q hq => ?_⟩, fun p hp => ?_⟩
  · rcases List.mem_cons.mp hq with rfl | hq
    · exact ltS_irrefl _
    · obtain ⟨n, l⟩ := h2 q hq
      cases e : ltS q.1 k with
      | false => rfl
      | true =>
        rcases hh with hh | hh
        · exact absurd hh n
        · rw [ltS_trans e hh] at l; cases l
  · obtain ⟨n, l⟩ := h1 p hp
    rcases List.mem_cons.mp hq with rfl | hq
    · exact ⟨n, l⟩
    · rcases List.mem_cons.mp hq with rfl | hq
      · refine ⟨n, ?_⟩
        cases e : ltS k p.2 with
        | false => rfl
        | true => rw [ltS_trans lk e] at l; cases l
      · exact h3 p hp q hq
  · rcases List.mem_append.mp hp with m | m
    · exact g.up p (by simp [m])
    · rcases List.mem_cons.mp m with rfl | m
      · exact .inr lk
      · rcases List.mem_cons.mp m with rfl | m
        · exact hh
        · exact g.up p (by simp [m])
theorem cut_known (hz : KeyOr z.1) (hk : IsKey k) (hh : hasB z.1 z.2 k = true) : canB z.1 z.2 k = !(decide (V.str k = V.str z.1) || decide (V.str k = V.str "a")) := by
  rw [can_eq hz hk, hh, Bool.true_and]
  congr 1
  unfold leastS
  rcases hz with hz | hz
  · rw [if_pos hz, hz]
    have : decide (V.str k = V.str "") = false := decide_eq_false fun e => hk.ne (V.str.inj e)
    rw [this, Bool.false_or]
  · rw [if_neg hz.ne]
    cases e : decide (V.str k = V.str z.1) with
    | true => rfl
    | false =>
      rw [Bool.false_or]
      symm
      refine decide_eq_false fun e2 => ?_
      have e2 := V.str.inj e2
      subst e2
      obtain ⟨h1, _⟩ := has_inv hh
      have h2 := key_ge_a hz
      have : z.1 = "a" := by
        by_cases e3 : z.1 = "a"
        · exact e3
        · rw [ltS_tri h1 e3] at h2
          cases h2
      rw [this] at e
      exact absurd e (by simp)
/-! joining -/
theorem join_parts (g : Good L) (hk : k ≠ "") (he : e ∈ L) (hb : b ∈ L) (e2 : e.2 = k) (b1 : b.1 = k) : ∃ A B, L = A ++ e :: b :: B := by
  have eup : ltS e.1 k = true := by
    rcases g.up e he with h | h
    · exact absurd (e2.symm.trans h) hk
    · rw [← e2]; exact h
  have bup := g.up b hb
  obtain ⟨A, R, rfl⟩ := List.append_of_mem he
  obtain ⟨h1, h2, _⟩ := g.parts
  rcases List.mem_append.mp hb with m | m
  · obtain ⟨n, l⟩ := h1 b m
    rcases bup with h | h
    · exact absurd h n
    · rw [b1] at h
      rw [ltS_trans eup h] at l
      cases l
  · rcases List.mem_cons.mp m with m | m
    · rw [← m, b1, ltS_irrefl] at eup
      cases eup
    · obtain ⟨M, B, rfl⟩ := List.append_of_mem m
      cases M with
      | nil => exact ⟨A, B, rfl⟩
      | cons q M =>
        exfalso
        obtain ⟨_, l⟩ := h2 q (by simp)
        have g2 := (List.pairwise_append.mp g.pw).2.1
        have g3 := (List.pairwise_cons.mp g2).2
        have g4 := (List.pairwise_cons.mp g3).1 b (by simp)
        rcases g.up q (by simp) with h | h
        · exact g4.1 h
        · have := lt_leS h g4.2
          rw [b1] at this
          rw [e2, this] at l
          cases l
theorem join_rest (g : Good (A ++ e :: b :: B)) (hk : k ≠ "") (e2 : e.2 = k) (b1 : b.1 = k) : (∀ p ∈ A ++ B, p.1 ≠ k ∧ p.2 ≠ k) ∧ e.1 ≠ k ∧ b.2 ≠ k ∧ ltS e.1 k = true ∧ (b.2 = "" ∨ ltS k b.2 = true) := by
  have eup : ltS e.1 k = true := by
    rcases g.up e (by simp) with h | h
    · exact absurd (e2.symm.trans h) hk
    · rw [← e2]; exact h
  have bup : b.2 = "" ∨ ltS k b.2 = true := by
    rcases g.up b (by simp) with h | h
    · exact .inl h
    · rw [b1] at h; exact .inr h
  obtain ⟨h1, h2, h3⟩ := g.parts
  have g2 : Good ((A ++ [e]) ++ b :: B) := by rw [List.append_assoc]; exact g
  obtain ⟨_, k2, _⟩ := g2.parts
  refine ⟨fun p hp => ?_, ltS_ne eup, fun z => ?_, eup, bup⟩
  · rcases List.mem_append.mp hp with m | m
    · obtain ⟨n, l⟩ := h1 p m
      have pu : ltS p.1 p.2 = true := by
        rcases g.up p (by simp [m]) with h | h
        · exact absurd h n
        · exact h
      refine ⟨ltS_ne (ltS_trans (lt_leS pu l) eup), fun z => ?_⟩
      rw [z, eup] at l
      cases l
    · obtain ⟨n, l⟩ := k2 p m
      have kb : ltS k b.2 = true := by
        rcases bup with h | h
        · exact absurd h n
        · exact h
      have kp : ltS k p.1 = true := lt_leS kb l
      refine ⟨(ltS_ne kp).symm, fun z => ?_⟩
      rcases g.up p (by simp [m]) with h | h
      · exact hk (z.symm.trans h)
      · rw [z] at h
        rw [ltS_asymm kp] at h
        cases h
  · rcases bup with h | h
    · exact hk (z.symm.trans h)
    · rw [z, ltS_irrefl] at h
      cases h
theorem join_at_one (g : Good (A ++ e :: b :: B)) (hk : k ≠ "") (e2 : e.2 = k) (b1 : b.1 = k) : joinL k (A ++ e :: b :: B) = A ++ (e.1, b.2) :: B := by
  obtain ⟨hr, he1, hb2, _, _⟩ := join_rest g hk e2 b1
  unfold joinL
  rw [List.foldl_append, jfold_low A [] fun z hz => (hr z (List.mem_append_left _ hz)).1, List.nil_append]
  show List.foldl (jstep k) (jstep k (jstep k A e) b) B = _
  rw [jstep_low he1, jstep_yes ⟨e2, b1⟩, jfold_low B _ fun z hz => (hr z (List.mem_append_right _ hz)).1, List.append_assoc]
  rfl
theorem Good.join (g : Good (A ++ e :: b :: B)) (hk : k ≠ "") (e2 : e.2 = k) (b1 : b.1 = k) : Good (A ++ (e.1, b.2) :: B) := by
  obtain ⟨hr, he1, hb2, eup, bup⟩ := join_rest g hk e2 b1
  obtain ⟨pA, pR, pAR⟩ := List.pairwise_append.mp g.pw
  obtain ⟨pe, pbB⟩ := List.pairwise_cons.mp pR
  obtain ⟨pb, pB⟩ := List.pairwise_cons.mp pbB
  refine ⟨List.pairwise_append.mpr ⟨pA, List.pairwise_cons.mpr ⟨pb, pB⟩, fun p hp q hq => ?_⟩, fun p hp => ?_⟩
  · rcases List.mem_cons.mp hq with rfl | hq
    · exact pAR p hp e List.mem_cons_self
    · exact pAR p hp q (by simp [hq])
  · rcases List.mem_append.mp hp with m | m
    · exact g.up p (by simp [m])
    · rcases List.mem_cons.mp m with rfl | m
      · rcases bup with h | h
        · exact .inl h
        · exact .inr (ltS_trans eup h)
      · exact g.up p (by simp [m])
/-! the keys owned stay -/
theorem own_cut (lk : ltS z.1 k = true) (hk : k ≠ "") (hh : z.2 = "" ∨ ltS k z.2 = true) : hasB z.1 z.2 x = (hasB z.1 k x || hasB k z.2 x) := by
  cases c : ltS x k with
  | true =>
    have h2 : hasB k z.2 x = false := has_no1 c
    rw [h2, Bool.or_false]
    cases c1 : ltS x z.1 with
    | true => rw [has_no1 c1, has_no1 c1]
    | false =>
      rw [has_yes c1 (.inr c)]
      refine has_yes c1 ?_
      rcases hh with h | h
      · exact .inl h
      · exact .inr (ltS_trans c h)
  | false =>
    rw [has_no2 hk c, Bool.false_or]
    have c1 : ltS x z.1 = false := by
      cases c1 : ltS x z.1 with
      | false => rfl
      | true => rw [ltS_trans c1 lk] at c; cases c
    by_cases c2 : z.2 = "" ∨ ltS x z.2 = true
    · rw [has_yes c1 c2, has_yes c c2]
    · have n : z.2 ≠ "" := fun e => c2 (.inl e)
      have l : ltS x z.2 = false := Bool.eq_false_iff.mpr fun e => c2 (.inr e)
      rw [has_no2 n l, has_no2 n l]
theorem owns_append : ownsB (A ++ B) x = (ownsB A x || ownsB B x) := List.any_append
theorem owns_cons : ownsB (z :: B) x = (hasB z.1 z.2 x || ownsB B x) := List.any_cons
end
end FB

namespace FB
open PySem PySem.Spec PyProof.Rows L2
theorem op_notInDK {X : Cx} {K : PySem.W.Frag} (h : X.K = K) (hu : X.A.units + 65 < cLine) : OpR X (compareOp .NotIn) (rNotInD K) := h ▸ op_notInD hu
theorem eqv_pair2 (a b c d : Str) : PyData.eqv (.tuple [.str a, .str b]) (.tuple [.str c, .str d]) = decide ((a, b) = (c, d)) := by
  by_cases h : (a, b) = (c, d)
  · rw [decide_eq_true h]
    obtain ⟨rfl, rfl⟩ := Prod.mk.inj h
    simp [PyData.eqv, PyData.eqvAll]
  · rw [decide_eq_false h]
    by_cases h1 : a = c
    · have h2 : b ≠ d := fun e => h (by rw [h1, e])
      simp [PyData.eqv, PyData.eqvAll, h1, h2]
    · simp [PyData.eqv, PyData.eqvAll, h1]
theorem lc_keepS {K : PySem.W.Frag} {l : Addr} {zs : List Sp3} {σ : L2.St} {tt : TT} {te : TE} {vs : List Nat} {g : TG} {H0 : Hp} {D : Addr} {Qd : Hp → Prop} (c : Sp3 → Bool) (hZ : SpansAt H0 l zs) (nD : H0 D = none) (hzl : zs.length ≤ 900)
    (hs : ∀ z H, z ∈ zs → Same H0 H → ∀ Nx : Hp → Prop, (∀ H', Same H H' → c z = true → ∃ acc, H' D = some (.lst acc) ∧ acc.length < sizeLine ∧ Nx (upd H' D (.lst (acc ++ [.ref z.1])))) → (∀ H', Same H H' → c z = false → Nx H') →
      g (.ref z.1) (wipe σ vs) H fun σ2 H2 => wipe σ2 vs = wipe σ vs ∧ tt σ2 H2 fun b H3 => if b = true then te σ2 H3 fun y H4 => ∃ acc, H4 D = some (.lst acc) ∧ acc.length < sizeLine ∧ Nx (upd H4 D (.lst (acc ++ [y]))) else Nx H3)
    (hd : ∀ H, SpansAt H D (zs.filter c) → Same H0 H → Qd H) :
    ∃ W : Nat → Nat → Hp → Prop, (∃ m, W 0 m (upd H0 D (.lst []))) ∧ ∀ i m H, W i m H →
      ((Itl K l).stop i H ∧ Qd H) ∨ ((Itl K l).go i H ∧ ∃ Nx : Hp → Prop, (∀ H', Nx H' → ∃ m', m' < m ∧ W (i + 1) m' H') ∧ ∀ x H', (Itl K l).yld i H x H' → g x (wipe σ vs) H' fun σ2 H2 => wipe σ2 vs = wipe σ vs ∧ tt σ2 H2 fun b H3 =>
        if b = true then te σ2 H3 fun y H4 => ∃ acc, H4 D = some (.lst acc) ∧ acc.length < sizeLine ∧ Nx (upd H4 D (.lst (acc ++ [y]))) else Nx H3) := by
  refine lc_list (K := K) (a := l) (xs := zs.map fun z => V.ref z.1) (fun i H' => SpansAt H' D ((zs.take i).filter c) ∧ Same H0 H') ?_ ?_ ?_ ?_
  · exact ⟨⟨upd_same, fun z hz => by simp at hz⟩, same_new nD⟩
  · rintro i H' _ ⟨_, sm⟩
    exact SqL.of (sm _ _ hZ.ls)
  · rintro i x H' hi ⟨hW, sm⟩
    rw [List.getElem?_map] at hi
    obtain ⟨z, hz, rfl⟩ := Option.map_eq_some_iff.mp hi
    have hm : z ∈ zs := List.mem_of_getElem? hz
    have hil : i < zs.length := (List.getElem?_eq_some_iff.mp hz).1
    refine hs z H' hm sm _ (fun H2 s2 hc => ?_) (fun H2 s2 hc => ?_)
    · have hW2 := hW.same s2
      refine ⟨_, hW2.ls, small1000 (by rw [List.length_map]; exact Nat.le_trans (List.length_filter_le _ _) (by rw [List.length_take]; omega)), ?_, same_mut (sm.trans s2) nD⟩
      have := hW2.add (z := z) ((sm.trans s2) _ _ (hZ.tp z hm))
      rw [take_snoc hz, List.filter_append, show [z].filter c = [z] by simp only [List.filter_cons, List.filter_nil, hc, if_true]]
      exact this
    · rw [take_snoc hz, List.filter_append, show [z].filter c = [] by simp [hc], List.append_nil]
      exact ⟨hW.same s2, sm.trans s2⟩
  · rintro H' ⟨hW, sm⟩
    rw [List.length_map, List.take_length] at hW
    exact hd H' hW sm
/-! sorted spans -/
def keys2 (H : Hp) : V → List Key
  | .ref t => match H t with
    | some (.tup [.str a, .str b]) => [tk a, tk b]
    | _ => []
  | _ => []
theorem keys2_at {H : Hp} {z : Sp3} (h : H z.1 = some (.tup [.str z.2.1, .str z.2.2])) : keys2 H (.ref z.1) = [tk z.2.1, tk z.2.2] := by
  unfold keys2
  simp only [h]
theorem perm_map2 {α β : Type} (f : α → β) : ∀ {ys : List β} {zs : List α}, ys.Perm (zs.map f) → ∃ zs' : List α, zs'.Perm zs ∧ ys = zs'.map f := by
  suffices H : ∀ {ys l : List β}, ys.Perm l → ∀ zs : List α, l = zs.map f → ∃ zs' : List α, zs'.Perm zs ∧ ys = zs'.map f from fun {_ _} p => H p _ rfl
  intro ys l p
  induction p with
  | nil =>
    intro zs e
    exact ⟨zs, List.Perm.refl _, e⟩
  | cons x _ ih =>
    intro zs e
    cases zs with
    | nil => cases e
    | cons z r =>
      obtain ⟨e1, e2⟩ := List.cons.inj e
      obtain ⟨zs', h1, h2⟩ := ih r e2
      exact ⟨z :: zs', h1.cons z, by rw [h2, e1]; rfl⟩
  | swap x y l =>
    intro zs e
    match zs, e with
    | a :: b :: r, e =>
      obtain ⟨e1, e2⟩ := List.cons.inj e
      obtain ⟨e3, e4⟩ := List.cons.inj e2
      exact ⟨b :: a :: r, List.Perm.swap a b r, by rw [e1, e3, e4]; rfl⟩
  | trans _ _ ih1 ih2 =>
    intro zs e
    obtain ⟨z2, p2, e2⟩ := ih2 zs e
    obtain ⟨z1, p1, e1⟩ := ih1 z2 e2
    exact ⟨z1, p1.trans p2, e1⟩
/-! ### puts that change nothing, puts of rows -/
structure Ok17 (L : List Sp2) : Prop where
  g : Good L
  k1 : ∀ p ∈ L, KeyOr p.1
  k2 : ∀ p ∈ L, KeyOr p.2
def newC (L : List Sp2) (k : Str) : List Sp2 := cutL k (fun l h => canB l h k) L
def newJ (L : List Sp2) (k : Str) : List Sp2 := if (joinL k L).length = L.length then L else joinL k L
def spBound17 : Sp := fun vs H Q _ => ∃ (d : Addr) (w k : Str) (l : Addr) (us : List Sp3), vs = [.ref d, .str w, .str k] ∧ H d = some (.dK (dkv V.ref [("spans", l)])) ∧ SpansAt H l us ∧ us.length ≤ 400 ∧ Ok17 (us.map (·.2)) ∧ IsKey k ∧
  ((w = "cut" ∧ ∀ (l' : Addr) (us' : List Sp3) (H' : Hp), H' d = some (.dK (dkv V.ref [("spans", l')])) → SpansAt H' l' us' → us'.map (·.2) = newC (us.map (·.2)) k → (l' = l ∨ H l' = none) → Keep d H H' → Q (.str (cutW (us.map (·.2)) k)) H') ∨
   (w = "join" ∧ ∀ (l' : Addr) (us' : List Sp3) (H' : Hp), H' d = some (.dK (dkv V.ref [("spans", l')])) → SpansAt H' l' us' → us'.map (·.2) = newJ (us.map (·.2)) k → (l' = l ∨ H l' = none) → Keep d H H' → Q (.str (joinW (us.map (·.2)) k)) H'))
/-! sorted(..) of spans whose lows are unlike -/
theorem sort_keys {H : Hp} {a : Addr} {ws : List Sp3} (hW : SpansAt H a ws) : ∀ x ∈ ws.map (fun z => V.ref z.1), ∃ t, x = V.ref t ∧ H t = some (.tup ((keys2 H x).map kV)) ∧ shp (keys2 H x) = false :: [false] := fun x hx => by
  obtain ⟨z, hz, rfl⟩ := List.mem_map.mp hx
  have ht := hW.tp z hz
  refine ⟨z.1, rfl, ?_, ?_⟩
  · rw [keys2_at ht, ht]
    try rfl
  · rw [keys2_at ht]
    rfl
theorem sort_out {H : Hp} {a p : Addr} {ws : List Sp3} {L : List Sp2} {ys : List V} (hW : SpansAt H a ws) (hL : L.Pairwise (fun p q => ltS p.1 q.1 = true)) (hp : (ws.map (·.2)).Perm L) (hs : SrtO.Srtd (fun x y => llt (keys2 H x) (keys2 H y)) ys) (hpm : ys.Perm (ws.map fun z => V.ref z.1)) (np : H p = none) :
    ∃ us : List Sp3, ys = us.map (fun z => V.ref z.1) ∧ SpansAt (upd H p (.lst (us.map fun z => V.ref z.1))) p us ∧ us.map (·.2) = L := by
  obtain ⟨us, hu, rfl⟩ := perm_map2 (fun z : Sp3 => V.ref z.1) hpm
  have hm : ∀ z ∈ us, z ∈ ws := fun z hz => hu.mem_iff.mp hz
  have u := same_new (o := .lst (us.map fun z : Sp3 => V.ref z.1)) np
  refine ⟨us, rfl, ⟨upd_same, fun z hz => u _ _ (hW.tp z (hm z hz))⟩, ?_⟩
  refine lows_uniq ?_ hL ((hu.map _).trans hp)
  have nd : (us.map (·.2)).Pairwise (fun p q => p.1 ≠ q.1) := by
    refine (List.Perm.pairwise_iff (fun {x y} h e => h e.symm) ((hu.map _).trans hp)).mpr ?_
    exact hL.imp fun h => ltS_ne h
  rw [List.pairwise_map] at nd ⊢
  refine List.Pairwise.imp_of_mem (fun {x y} hx hy h => ?_) (nd.and (List.pairwise_map.mp hs))
  obtain ⟨n, hxy⟩ := h
  have hxy : llt (keys2 H (V.ref y.1)) (keys2 H (V.ref x.1)) = false := hxy
  rw [keys2_at (hW.tp x (hm x hx)), keys2_at (hW.tp y (hm y hy))] at hxy
  refine ltS_tri ?_ n
  cases e : ltS y.2.1 x.2.1 with
  | false => rfl
  | true =>
    rw [llt, if_neg fun z => n (Sum.inr.inj z).symm] at hxy
    have hxy : ltS y.2.1 x.2.1 = false := hxy
    rw [e] at hxy
    cases hxy
end FB

namespace FB
open PySem PySem.Spec PyProof.Rows L2
theorem filter_split {L A B : List Sp2} {z : Sp2} (h : L.Nodup) (e : L = A ++ z :: B) : L.filter (fun p => !decide (p = z)) = A ++ B := by
  subst e
  obtain ⟨_, h2, h3⟩ := List.nodup_append.mp h
  obtain ⟨h4, _⟩ := List.nodup_cons.mp h2
  rw [List.filter_append, List.filter_cons_of_neg (by simp), filter_all (l := A) fun x hx => ?_, filter_all (l := B) fun x hx => ?_]
  · rw [decide_eq_false (p := x = z) fun e => h4 (by rw [← e]; exact hx)]
    rfl
  · rw [decide_eq_false (p := x = z) fun e => h3 x hx z List.mem_cons_self e]
    rfl
theorem map_filter2 {us : List Sp3} {c : Sp2 → Bool} : (us.filter fun z => c z.2).map (·.2) = (us.map (·.2)).filter c := (List.filter_map ..).symm
theorem get_spans (l : Addr) : getS [(("spans" : Str), l)] "spans" = some l := by simp [getS]
theorem set_spans1 (l l' : Addr) : setS [(("spans" : Str), l)] "spans" l' = [(("spans" : Str), l')] := by simp [setS]
section
variable {P : Program} {w : World} {K : PySem.W.Frag} {mg : Str → Option Value} {base : Heap}
theorem ok_bound17 {f : Addr} {fd : FuncData} (F : Fun K "_law_do_bound" "_law_do_bound" s_do_bound f fd) (B : Blt mg) (D_has : DefOk P w K mg base 1 "_law_has" ["_law_span", "_law_key_here"] (spHas K)) (D_owns : DefOk P w K mg base 2 "_law_owns" ["_law_spans_here", "_law_key_here"] spOwnsW) : FnOk P w K mg base CX0 3 f fd ["_law_made", "_law_word", "_law_key_here"] spBound17 := by
  refine F.ok sc_do_bound (fun vs H Q E h => ?_) (fun cdv A outer s H vs Q E hr h => ?_)
  · obtain ⟨d, w, k, l, us, rfl, _⟩ := h
    rfl
  · obtain ⟨d, w, k, l, us, rfl, hd, hU, hul, hok, hk, q⟩ := h
    have hu := hu_of hr
    have hu65 : (A.deeper (envOfC "_law_do_bound" (defScope s_do_bound) s.heap.objs.size f cdv)).units + 65 < cLine := by
      have := hr.un
      omega
    have hkey : ∀ z ∈ us, KeyOr z.2.1 ∧ KeyOr z.2.2 := fun z hz => ⟨hok.k1 z.2 (List.mem_map.mpr ⟨z, hz, rfl⟩), hok.k2 z.2 (List.mem_map.mpr ⟨z, hz, rfl⟩)⟩
    have hdg := dget_dkv ("spans" : Str) hd
    rw [get_spans] at hdg
    have hkV : KeyOr k := .inr hk
    refine ⟨_, pss_cons (ps_set (i := 3) sc_do_bound.nd rfl (Or.inl rfl) (pe_dget hu (pv 0) pe_str (fun _ _ => rfl)))
    (pss_cons (ps_if (pt_cmpR op_eq (pv 1) pe_str (nomark _))
      (pss_cons (ps_if (pt_not (pt_val (pe_def D_owns (hr.mono (by omega)) (by rfl) (pa_cons (pv 3) (pa_cons (pv 2) pa_nil)))))
        (pss_one (ps_ret pe_str)) pss_nil)
      (pss_cons (ps_set (i := 4) sc_do_bound.nd rfl (Or.inr rfl) (pe_ix ix_list (pe_lc (own := [("_law_one", 8)]) (g := gName 8) rfl sc_do_bound.nd (pi_list (pv 3)) (blkOk_by (own := [("_law_one", 8)]) (N := ["_law_made", "_law_word", "_law_key_here", "_law_spans_here", "_law_span", "_law_ahead", "_law_behind", "_law_rest", "_law_one"]) (sc := defScope s_do_bound) (by decide +kernel)) (fun _ _ _ _ _ => pg_name (i := 8) sc_do_bound.nd rfl (Or.inl rfl)) (fun _ _ _ _ _ => pts_one (pt_val (pe_def D_has (hr.mono (by omega)) (by rfl) (pa_cons (pv 8) (pa_cons (pv 2) pa_nil))))) (fun _ _ _ _ _ => pv 8)) pe_int (fun _ _ => rfl)))
      (pss_cons (ps_if (PW.pt (pw_or (pt_cmpR op_eq (pv 2) (pe_ix ix_tup (pv 4) pe_int (fun _ _ => rfl)) (nomark _)) (pw_or1 (pt_cmpR op_eq (pv 2) pe_str (nomark _)))))
        (pss_one (ps_ret pe_str)) pss_nil)
      (pss_cons (ps_dput hu (pv 0) pe_str (pe_callB cr_sortedTup (by rfl) B.sorted (by decide +kernel) (pa_cons (pe_op op_cat (pe_lc (own := [("_law_one", 8)]) (g := gName 8) rfl sc_do_bound.nd (pi_list (pv 3)) (blkOk_by (own := [("_law_one", 8)]) (N := ["_law_made", "_law_word", "_law_key_here", "_law_spans_here", "_law_span", "_law_ahead", "_law_behind", "_law_rest", "_law_one"]) (sc := defScope s_do_bound) (by decide +kernel)) (fun _ _ _ _ _ => pg_name (i := 8) sc_do_bound.nd rfl (Or.inl rfl)) (fun _ _ _ _ _ => pts_one (pt_cmpR (op_neDK (K := K) rfl hr.units) (pv 8) (pv 4) (nomark _))) (fun _ _ _ _ _ => pv 8)) (pe_lst (pa_cons (pe_tup (pa_cons (pe_ix ix_tup (pv 4) pe_int (fun _ _ => rfl)) (pa_cons (pv 2) pa_nil))) (pa_cons (pe_tup (pa_cons (pv 2) (pa_cons (pe_ix ix_tup (pv 4) pe_int (fun _ _ => rfl)) pa_nil))) pa_nil)))) pa_nil)) rfl)
      (pss_one (ps_ret pe_str)))))) pss_nil)
    (pss_cons (ps_set (i := 5) sc_do_bound.nd rfl (Or.inr rfl) (pe_lc (own := [("_law_one", 8)]) (g := gName 8) rfl sc_do_bound.nd (pi_list (pv 3)) (blkOk_by (own := [("_law_one", 8)]) (N := ["_law_made", "_law_word", "_law_key_here", "_law_spans_here", "_law_span", "_law_ahead", "_law_behind", "_law_rest", "_law_one"]) (sc := defScope s_do_bound) (by decide +kernel)) (fun _ _ _ _ _ => pg_name (i := 8) sc_do_bound.nd rfl (Or.inl rfl)) (fun _ _ _ _ _ => pts_one (PW.pt (pw_and (pt_cmpR op_eq (pe_ix (ix_tupK (K := K) rfl) (pv 8) pe_int (fun _ _ => rfl)) (pv 2) (nomark _)) (pw_and1 (pt_cmpR op_ne (pv 2) pe_str (nomark _)))))) (fun _ _ _ _ _ => pv 8)))
    (pss_cons (ps_set (i := 6) sc_do_bound.nd rfl (Or.inr rfl) (pe_lc (own := [("_law_one", 8)]) (g := gName 8) rfl sc_do_bound.nd (pi_list (pv 3)) (blkOk_by (own := [("_law_one", 8)]) (N := ["_law_made", "_law_word", "_law_key_here", "_law_spans_here", "_law_span", "_law_ahead", "_law_behind", "_law_rest", "_law_one"]) (sc := defScope s_do_bound) (by decide +kernel)) (fun _ _ _ _ _ => pg_name (i := 8) sc_do_bound.nd rfl (Or.inl rfl)) (fun _ _ _ _ _ => pts_one (PW.pt (pw_and (pt_cmpR op_eq (pe_ix (ix_tupK (K := K) rfl) (pv 8) pe_int (fun _ _ => rfl)) (pv 2) (nomark _)) (pw_and1 (pt_cmpR op_ne (pv 2) pe_str (nomark _)))))) (fun _ _ _ _ _ => pv 8)))
    (pss_cons (ps_if (PW.pt (pw_or (pt_cmpR (op_eqD hr.units) (pv 5) (pe_lst pa_nil) (nomark _)) (pw_or1 (pt_cmpR (op_eqD hr.units) (pv 6) (pe_lst pa_nil) (nomark _)))))
      (pss_one (ps_ret pe_str)) pss_nil)
    (pss_cons (ps_setLc (i := 7) (own := [("_law_one", 8)]) (g := gName 8) rfl sc_do_bound.nd rfl rfl (sw_true rfl rfl rfl (by decide +kernel)) (pi_list (pv 3)) (blkOk_by (own := [("_law_one", 8)]) (N := ["_law_made", "_law_word", "_law_key_here", "_law_spans_here", "_law_span", "_law_ahead", "_law_behind", "_law_rest", "_law_one"]) (sc := defScope s_do_bound) (by decide +kernel)) (fun _ _ _ _ _ => pg_name (i := 8) sc_do_bound.nd rfl (Or.inl rfl)) (fun _ _ _ _ _ => pts_one (pt_cmpR (op_notInDK (K := K) rfl hu65) (pv 8) (pe_op op_cat (pv 5) (pv 6)) (by rfl))) (fun _ _ _ _ _ => pv 8))
    (pss_cons (ps_dput hu (pv 0) pe_str (pe_callB cr_sortedTup (by rfl) B.sorted (by decide +kernel) (pa_cons (pe_op op_cat (pv 7) (pe_lst (pa_cons (pe_tup (pa_cons (pe_ix ix_tup (pe_ix ix_list (pv 5) pe_int (fun _ _ => rfl)) pe_int (fun _ _ => rfl)) (pa_cons (pe_ix ix_tup (pe_ix ix_list (pv 6) pe_int (fun _ _ => rfl)) pe_int (fun _ _ => rfl)) pa_nil))) pa_nil))) pa_nil)) rfl)
    (pss_one (ps_ret pe_str)))))))), ?_⟩
    refine ⟨_, rfl, d, V.ref l, rfl, hdg, ?_⟩
    rcases q with ⟨rfl, q⟩ | ⟨rfl, q⟩
    · refine ⟨_, rfl, rfl, _, rfl, iteT ?_⟩
      refine ⟨_, rfl, _, rfl, l, us, k, rfl, hU, by omega, fun H1 s1 => ⟨_, rfl, ?_⟩⟩
      have hU1 := hU.same s1
      have hd1 := s1 _ _ hd
      unfold cutW at q
      cases c1 : ownsB (us.map (·.2)) k with
      | false =>
        rw [c1, if_neg (by decide)] at q
        refine iteT ?_
        refine q l us H1 hd1 hU1 ?_ (.inl rfl) (fun b o hb _ => s1 b o hb)
        unfold newC
        rw [cutL_id]
        intro z hz
        cases e : canB z.1 z.2 k with
        | false => rfl
        | true =>
          have : ownsB (us.map (·.2)) k = true := List.any_eq_true.mpr ⟨z, hz, can_has e⟩
          rw [c1] at this
          cases this
      | true =>
        rw [c1, if_pos rfl] at q
        refine iteF ?_
        refine ⟨_, rfl, l, rfl, ⟨_, SqL.of hU1.ls⟩, fun D nD => ?_⟩
        refine lc_keepS (fun z => hasB z.2.1 z.2.2 k) hU1 nD (by omega) (fun z H2 hm sm Nx h1 h0 => ?_) (fun H2 hF s2 => ?_)
        · refine ⟨rfl, _, rfl, _, rfl, z.1, z.2.1, z.2.2, k, rfl, SqT.of (sm _ _ (hU1.tp z hm)), _, rfl, ite2 (fun e => ?_) (fun e => ?_)⟩
          · exact ⟨_, rfl, h1 _ (Same.refl _) e⟩
          · exact h0 _ (Same.refl _) (Bool.eq_false_iff.mpr e)
        obtain ⟨z, zr, hzr⟩ : ∃ z r, us.filter (fun z => hasB z.2.1 z.2.2 k) = z :: r := by
          cases e : us.filter (fun z => hasB z.2.1 z.2.2 k) with
          | cons z r => exact ⟨z, r, rfl⟩
          | nil =>
            obtain ⟨y, hy, hy2⟩ := List.any_eq_true.mp c1
            obtain ⟨y, hy3, rfl⟩ := List.mem_map.mp hy
            have := List.filter_eq_nil_iff.mp e y hy3
            exact absurd hy2 this
        have hz : z ∈ us ∧ hasB z.2.1 z.2.2 k = true := List.mem_filter.mp (by rw [hzr]; exact List.mem_cons_self)
        obtain ⟨hzm, hzh⟩ := hz
        have hU2 := hU1.same s2
        have hT2 : SqT K H2 z.1 [.str z.2.1, .str z.2.2] := SqT.of (hU2.tp z hzm)
        refine ⟨D, _, _, _, rfl, rfl, SqL.of hF.ls, atI_nat (j := 0) (v := .ref z.1) (by rw [hzr]; rfl), ?_⟩
        have eany : ((us.map (·.2)).any fun z => canB z.1 z.2 k) = canB z.2.1 z.2.2 k := by
          cases e : canB z.2.1 z.2.2 k with
          | true => exact List.any_eq_true.mpr ⟨z.2, List.mem_map.mpr ⟨z, hzm, rfl⟩, e⟩
          | false =>
            rw [List.any_eq_false]
            intro y hy hc
            rw [← hok.g.uniq (List.mem_map.mpr ⟨z, hzm, rfl⟩) hy hzh (can_has hc), e] at hc
            cases hc
        have ekn := cut_known (z := z.2) (hkey z hzm).1 hk hzh
        rw [eany, ekn] at q
        -- known
        have known : ∀ H3, Same H2 H3 → canB z.2.1 z.2.2 k = false → Q (.str "known") H3 := fun H3 s3 e => by
          rw [← ekn, e, if_neg (by decide)] at q
          have sm := s1.trans (s2.trans s3)
          refine q l us H3 (sm _ _ hd) (hU.same sm) ?_ (.inl rfl) (fun b o hb _ => sm b o hb)
          unfold newC
          rw [cutL_id]
          intro y hy
          cases e2 : canB y.1 y.2 k with
          | false => rfl
          | true =>
            rw [← hok.g.uniq (List.mem_map.mpr ⟨z, hzm, rfl⟩) hy hzh (can_has e2), e] at e2
            cases e2
        refine ⟨_, rfl, _, rfl, z.1, _, _, _, rfl, rfl, hT2, atI_nat (j := 0) rfl, rfl, _, rfl, ite2 (fun e => ?_) (fun e => ?_)⟩
        · exact iteT (known H2 (Same.refl _) (by rw [ekn, e]; rfl))
        refine ⟨_, rfl, rfl, _, rfl, ite2 (fun e2 => ?_) (fun e2 => ?_)⟩
        · exact known H2 (Same.refl _) (by rw [ekn, e2, Bool.or_true]; rfl)
        have hcan : canB z.2.1 z.2.2 k = true := by
          rw [ekn, Bool.eq_false_iff.mpr e, Bool.eq_false_iff.mpr e2]
          rfl
        rw [← ekn, hcan, if_pos rfl] at q
        -- cut
        refine ⟨_, rfl, l, rfl, ⟨_, SqL.of hU2.ls⟩, fun D2 nD2 => ?_⟩
        refine lc_keepS (fun y => !decide (y.2 = z.2)) hU2 nD2 (by omega) (fun y H3 hm sm Nx h1 h0 => ?_) (fun H3 hF3 s3 => ?_)
        · refine ⟨rfl, _, rfl, _, rfl, _, _, dp_span (sm _ _ (hU2.tp y hm)), dp_span (sm _ _ (hU2.tp z hzm)), shaped2 (hkey y hm).1 (hkey y hm).2, shaped2 (hkey z hzm).1 (hkey z hzm).2, _, rfl, ?_⟩
          rw [show PyData.eqv (spanD y) (spanD z) = decide (y.2 = z.2) from eqv_pair2 _ _ _ _]
          refine ite2 (fun e => ?_) (fun e => ?_)
          · exact ⟨_, rfl, h1 _ (Same.refl _) e⟩
          · exact h0 _ (Same.refl _) (Bool.eq_false_iff.mpr e)
        have hU3 := hU2.same s3
        have hT3 : SqT K H3 z.1 [.str z.2.1, .str z.2.2] := SqT.of (hU3.tp z hzm)
        refine ⟨_, rfl, z.1, _, _, _, rfl, rfl, hT3, atI_nat (j := 0) rfl, _, rfl, by show 2 ≤ sizeLine; decide, fun t1 n1 => ?_⟩
        have u1 := same_new (o := .tup [V.str z.2.1, V.str k]) n1
        refine ⟨_, rfl, _, rfl, z.1, _, _, _, rfl, rfl, same_tup u1 hT3, atI_nat (j := 1) rfl, by show 2 ≤ sizeLine; decide, fun t2 n2 => ?_⟩
        have u2 := same_new (o := .tup [V.str k, V.str z.2.2]) n2
        refine ⟨by show 2 ≤ sizeLine; decide, fun l2 nl2 => ?_⟩
        have u3 := same_new (o := .lst [V.ref t1, V.ref t2]) nl2
        have hF6 := hF3.same (u1.trans (u2.trans u3))
        have hlenF : (us.filter fun y => !decide (y.2 = z.2)).length ≤ 400 := Nat.le_trans (List.length_filter_le _ _) hul
        refine ⟨D2, l2, _, _, rfl, rfl, hF6.ls, upd_same, Nat.le_trans (show _ ≤ 1000 by rw [List.length_map]; show _ + 2 ≤ 1000; omega) (by decide), fun p np => ?_⟩
        have u4 := same_new (o := .lst ((us.filter fun y => !decide (y.2 = z.2)).map (fun z : Sp3 => V.ref z.1) ++ [V.ref t1, V.ref t2])) np
        have hW : SpansAt (upd (upd (upd (upd H3 t1 (.tup [V.str z.2.1, V.str k])) t2 (.tup [V.str k, V.str z.2.2])) l2 (.lst [V.ref t1, V.ref t2])) p (.lst ((us.filter fun y => !decide (y.2 = z.2)).map (fun z : Sp3 => V.ref z.1) ++ [V.ref t1, V.ref t2]))) p ((us.filter fun y => !decide (y.2 = z.2)) ++ [(t1, z.2.1, k), (t2, k, z.2.2)]) := by
          refine ⟨by rw [upd_same, List.map_append]; rfl, fun y hy => ?_⟩
          rcases List.mem_append.mp hy with m | m
          · exact u4 _ _ (hF6.tp y m)
          · have : y = (t1, z.2.1, k) ∨ y = (t2, k, z.2.2) := by simpa using m
            rcases this with rfl | rfl
            · exact u4 _ _ (u3 _ _ (u2 _ _ upd_same))
            · exact u4 _ _ (u3 _ _ upd_same)
        have s6 := s1.trans (s2.trans (s3.trans (u1.trans (u2.trans (u3.trans u4)))))
        obtain ⟨LA, LB, hL⟩ := List.append_of_mem (show z.2 ∈ us.map (·.2) from List.mem_map.mpr ⟨z, hzm, rfl⟩)
        have g' : Good (LA ++ z.2 :: LB) := hL ▸ hok.g
        have enew : newC (us.map (·.2)) k = LA ++ (z.2.1, k) :: (k, z.2.2) :: LB := by
          unfold newC
          rw [hL]
          exact cut_at_one g' hcan
        have hperm : (((us.filter fun y => !decide (y.2 = z.2)) ++ [(t1, z.2.1, k), (t2, k, z.2.2)]).map (·.2)).Perm (LA ++ (z.2.1, k) :: (k, z.2.2) :: LB) := by
          rw [List.map_append, map_filter2 (c := fun p => !decide (p = z.2)), filter_split hok.g.nodup hL, List.append_assoc]
          refine List.Perm.append_left _ ?_
          show (LB ++ [(z.2.1, k), (k, z.2.2)]).Perm ([(z.2.1, k), (k, z.2.2)] ++ LB)
          exact List.perm_append_comm
        rw [show (us.filter fun y => !decide (y.2 = z.2)).map (fun z : Sp3 => V.ref z.1) ++ [V.ref t1, V.ref t2] = ((us.filter fun y => !decide (y.2 = z.2)) ++ [(t1, z.2.1, k), (t2, k, z.2.2)]).map (fun z : Sp3 => V.ref z.1) by rw [List.map_append]; rfl] at hW s6 ⊢
        refine ⟨p, _, keys2 _, false, [false], rfl, SqL.of hW.ls, sort_keys hW, fun ys p2 hs hpm np2 => ?_⟩
        obtain ⟨us2, rfl, hU7, eU⟩ := sort_out hW (g'.cut hk.ne (hkey z hzm).1 hcan).lows hperm hs hpm np2
        · have u7 := same_new (o := .lst (us2.map fun z : Sp3 => V.ref z.1)) np2
          have s7 := s6.trans u7
          refine ⟨_, rfl, d, _, rfl, dput_dkv ("spans" : Str) p2 (s7 _ _ hd) (by show 1 ≤ 900; decide), ?_⟩
          rw [set_spans1]
          have ndp : p2 ≠ d := (ne_of_none (s6 _ _ hd) np2).symm
          refine q p2 us2 _ upd_same ⟨by rw [upd_ne ndp]; exact hU7.ls, fun y hy => by rw [upd_ne (ne_of (hU7.tp y hy) (s7 _ _ hd) (by intro z; cases z))]; exact hU7.tp y hy⟩ (eU.trans enew.symm) (.inr (s6.free np2)) (fun b o hb n => by rw [upd_ne n]; exact s7 b o hb)
    · refine ⟨_, rfl, rfl, _, rfl, ite2 (fun z => absurd z (by decide +kernel)) (fun _ => ?_)⟩
      have nk : (!decide (V.str k = V.str "")) = true := by
        rw [decide_eq_false fun e => hk.ne (V.str.inj e)]
        rfl
      -- ahead
      refine ⟨_, rfl, l, rfl, ⟨_, SqL.of hU.ls⟩, fun D1 nD1 => ?_⟩
      refine lc_keepS (fun z => decide (z.2.2 = k)) hU nD1 (by omega) (fun z H1 hm sm Nx h1 h0 => ?_) (fun H1 hE s1 => ?_)
      · refine ⟨rfl, _, rfl, z.1, _, _, _, rfl, rfl, SqT.of (sm _ _ (hU.tp z hm)), atI_nat (j := 1) rfl, _, rfl, rfl, _, rfl, ite2 (fun e => ?_) (fun e => ?_)⟩
        · exact ⟨_, rfl, rfl, _, rfl, caseT nk ⟨_, rfl, h1 _ (Same.refl _) (decide_eq_true (V.str.inj (of_decide_eq_true e)))⟩⟩
        · exact iteF (h0 _ (Same.refl _) (decide_eq_false fun e2 => e (decide_eq_true (congrArg V.str e2))))
      have hU1 := hU.same s1
      -- behind
      refine ⟨_, rfl, l, rfl, ⟨_, SqL.of hU1.ls⟩, fun D2 nD2 => ?_⟩
      refine lc_keepS (fun z => decide (z.2.1 = k)) hU1 nD2 (by omega) (fun z H2 hm sm Nx h1 h0 => ?_) (fun H2 hB s2 => ?_)
      · refine ⟨rfl, _, rfl, z.1, _, _, _, rfl, rfl, SqT.of (sm _ _ (hU1.tp z hm)), atI_nat (j := 0) rfl, _, rfl, rfl, _, rfl, ite2 (fun e => ?_) (fun e => ?_)⟩
        · exact ⟨_, rfl, rfl, _, rfl, caseT nk ⟨_, rfl, h1 _ (Same.refl _) (decide_eq_true (V.str.inj (of_decide_eq_true e)))⟩⟩
        · exact iteF (h0 _ (Same.refl _) (decide_eq_false fun e2 => e (decide_eq_true (congrArg V.str e2))))
      have hU2 := hU1.same s2
      have hE2 := hE.same s2
      have kE : ∀ z ∈ us.filter (fun z => decide (z.2.2 = k)), KeyOr z.2.1 ∧ KeyOr z.2.2 := fun z h => hkey z (List.mem_filter.mp h).1
      have kB : ∀ z ∈ us.filter (fun z => decide (z.2.1 = k)), KeyOr z.2.1 ∧ KeyOr z.2.2 := fun z h => hkey z (List.mem_filter.mp h).1
      have fE : (us.map (·.2)).filter (fun p => decide (p.2 = k)) = (us.filter (fun z => decide (z.2.2 = k))).map (·.2) := List.filter_map ..
      have fB : (us.map (·.2)).filter (fun p => decide (p.1 = k)) = (us.filter (fun z => decide (z.2.1 = k))).map (·.2) := List.filter_map ..
      have ejd : joinL k (us.map (·.2)) = dueJ k (us.map (·.2)) := join_due hok.g hk.ne
      unfold joinW at q
      have away : ∀ H3, Same H2 H3 → dueJ k (us.map (·.2)) = us.map (·.2) → Q (.str "away") H3 := fun H3 s3 e => by
        have el : (joinL k (us.map (·.2))).length = (us.map (·.2)).length := by rw [ejd, e]
        rw [if_pos el] at q
        have sm := s1.trans (s2.trans s3)
        refine q l us H3 (sm _ _ hd) (hU.same sm) ?_ (.inl rfl) (fun b o hb _ => sm b o hb)
        unfold newJ
        rw [if_pos el]
      refine ⟨_, rfl, Nat.zero_le _, fun x1 nx1 => ?_⟩
      have t1 := same_new (o := .lst []) nx1
      refine ⟨_, .list [], dp_spans (hE2.same t1), .lst (SqL.of upd_same) .nil, shaped_spans kE, shaped_nil, _, rfl, ?_⟩
      cases hes : us.filter (fun z => decide (z.2.2 = k)) with
      | nil =>
        rw [List.map_nil, eqv_nil]
        refine iteT (iteT (away _ t1 ?_))
        unfold dueJ
        rw [fE, hes]
        rfl
      | cons e er =>
        rw [List.map_cons, eqv_cons]
        refine iteF ?_
        refine ⟨_, rfl, Nat.zero_le _, fun x2 nx2 => ?_⟩
        have t2 := same_new (o := .lst []) nx2
        have t12 := t1.trans t2
        refine ⟨_, .list [], dp_spans (hB.same t12), .lst (SqL.of upd_same) .nil, shaped_spans kB, shaped_nil, _, rfl, ?_⟩
        cases hbs : us.filter (fun z => decide (z.2.1 = k)) with
        | nil =>
          rw [List.map_nil, eqv_nil]
          refine iteT (away _ t12 ?_)
          unfold dueJ
          rw [fB, hbs]
          simp only [List.map_nil]
          split <;> first | rfl | (rename_i h; cases h)
        | cons b br =>
          rw [List.map_cons, eqv_cons]
          refine iteF ?_
          have hem : e ∈ us ∧ e.2.2 = k := by
            have := List.mem_filter.mp (show e ∈ us.filter (fun z => decide (z.2.2 = k)) by rw [hes]; exact List.mem_cons_self)
            exact ⟨this.1, of_decide_eq_true this.2⟩
          have hbm : b ∈ us ∧ b.2.1 = k := by
            have := List.mem_filter.mp (show b ∈ us.filter (fun z => decide (z.2.1 = k)) by rw [hbs]; exact List.mem_cons_self)
            exact ⟨this.1, of_decide_eq_true this.2⟩
          obtain ⟨LA, LB, hL⟩ := join_parts hok.g hk.ne (List.mem_map.mpr ⟨e, hem.1, rfl⟩) (List.mem_map.mpr ⟨b, hbm.1, rfl⟩) hem.2 hbm.2
          have g' : Good (LA ++ e.2 :: b.2 :: LB) := hL ▸ hok.g
          obtain ⟨hr1, he1, hb2, _, _⟩ := join_rest g' hk.ne hem.2 hbm.2
          have noA : ∀ p ∈ LA, p.1 ≠ k ∧ p.2 ≠ k := fun p hp => hr1 p (List.mem_append_left _ hp)
          have noB : ∀ p ∈ LB, p.1 ≠ k ∧ p.2 ≠ k := fun p hp => hr1 p (List.mem_append_right _ hp)
          have her : er = [] := by
            have h1 : (us.map (·.2)).filter (fun p => decide (p.2 = k)) = [e.2] := by
              rw [hL, List.filter_append, filter_none (l := LA) fun p hp => decide_eq_false (noA p hp).2, List.filter_cons_of_pos (by simpa using hem.2), List.filter_cons_of_neg (by simpa using hb2), filter_none (l := LB) fun p hp => decide_eq_false (noB p hp).2]
              rfl
            rw [fE, hes] at h1
            have := congrArg List.length h1
            cases er with
            | nil => rfl
            | cons _ _ => simp at this
          have hbr : br = [] := by
            have h1 : (us.map (·.2)).filter (fun p => decide (p.1 = k)) = [b.2] := by
              rw [hL, List.filter_append, filter_none (l := LA) fun p hp => decide_eq_false (noA p hp).1, List.filter_cons_of_neg (by simpa using he1), List.filter_cons_of_pos (by simpa using hbm.2), filter_none (l := LB) fun p hp => decide_eq_false (noB p hp).1]
              rfl
            rw [fB, hbs] at h1
            have := congrArg List.length h1
            cases br with
            | nil => rfl
            | cons _ _ => simp at this
          subst her hbr
          rw [hes] at hE2
          rw [hbs] at hB
          have hE3 := hE2.same t12
          have hB3 := hB.same t12
          have hU3 := hU2.same t12
          have s3 := s1.trans (s2.trans t12)
          generalize upd (upd H2 x1 (.lst [])) x2 (.lst []) = H3 at hE3 hB3 hU3 s3
          -- the rest
          refine ⟨_, rfl, l, rfl, ⟨_, SqL.of hU3.ls⟩, fun D3 nD3 => ?_⟩
          refine lc_keepS (fun y => !(decide (e.2 = y.2) || decide (b.2 = y.2))) hU3 nD3 (by omega) (fun y H4 hm sm Nx h1 h0 => ?_) (fun H4 hF s4 => ?_)
          · refine ⟨rfl, _, rfl, _, rfl, _, rfl, D1, D2, _, _, rfl, rfl, sm _ _ hE3.ls, sm _ _ hB3.ls, by show 2 ≤ sizeLine; decide, fun p np => ?_⟩
            have u := same_new (o := .lst [V.ref e.1, V.ref b.1]) np
            have su := sm.trans u
            have hds : Dp K (upd H4 p (.lst [V.ref e.1, V.ref b.1])) (.ref p) (.list ([e, b].map spanD)) := .lst (SqL.of upd_same) (dpall_spans [e, b] fun z hz => by
              have : z = e ∨ z = b := by simpa using hz
              rcases this with rfl | rfl
              · exact su _ _ (hU3.tp z hem.1)
              · exact su _ _ (hU3.tp z hbm.1))
            refine ⟨_, _, dp_span (su _ _ (hU3.tp y hm)), hds, shaped2 (hkey y hm).1 (hkey y hm).2, shaped_spans (zs := [e, b]) (fun z hz => by
              have : z = e ∨ z = b := by simpa using hz
              rcases this with rfl | rfl
              · exact hkey z hem.1
              · exact hkey z hbm.1), _, rfl, ?_⟩
            have ec : ([e, b].map spanD).any (fun z => PyData.eqv z (spanD y)) = (decide (e.2 = y.2) || decide (b.2 = y.2)) := by
              show (PyData.eqv (spanD e) (spanD y) || (PyData.eqv (spanD b) (spanD y) || false)) = _
              rw [Bool.or_false, show PyData.eqv (spanD e) (spanD y) = decide (e.2 = y.2) from eqv_pair2 _ _ _ _, show PyData.eqv (spanD b) (spanD y) = decide (b.2 = y.2) from eqv_pair2 _ _ _ _]
            rw [ec]
            refine ite2 (fun c => ?_) (fun c => ?_)
            · exact ⟨_, rfl, h1 _ u c⟩
            · exact h0 _ u (Bool.eq_false_iff.mpr c)
          have hE4 := hE3.same s4
          have hB4 := hB3.same s4
          refine ⟨_, rfl, _, rfl, D1, _, _, _, rfl, rfl, SqL.of hE4.ls, atI_nat (j := 0) rfl, e.1, _, _, _, rfl, rfl, SqT.of (hE4.tp e List.mem_cons_self), atI_nat (j := 0) rfl, _, rfl, D2, _, _, _, rfl, rfl, SqL.of hB4.ls, atI_nat (j := 0) rfl, b.1, _, _, _, rfl, rfl, SqT.of (hB4.tp b List.mem_cons_self), atI_nat (j := 1) rfl, by show 2 ≤ sizeLine; decide, fun t1 n1 => ?_⟩
          have u1 := same_new (o := .tup [V.str e.2.1, V.str b.2.2]) n1
          refine ⟨by show 1 ≤ sizeLine; decide, fun l2 nl2 => ?_⟩
          have u2 := same_new (o := .lst [V.ref t1]) nl2
          have hF6 := hF.same (u1.trans u2)
          have hlenF : (us.filter fun y => !(decide (e.2 = y.2) || decide (b.2 = y.2))).length ≤ 400 := Nat.le_trans (List.length_filter_le _ _) hul
          refine ⟨D3, l2, _, _, rfl, rfl, hF6.ls, upd_same, Nat.le_trans (show _ ≤ 1000 by rw [List.length_map]; show _ + 1 ≤ 1000; omega) (by decide), fun p np => ?_⟩
          have u4 := same_new (o := .lst ((us.filter fun y => !(decide (e.2 = y.2) || decide (b.2 = y.2))).map (fun z : Sp3 => V.ref z.1) ++ [V.ref t1])) np
          have hW : SpansAt (upd (upd (upd H4 t1 (.tup [V.str e.2.1, V.str b.2.2])) l2 (.lst [V.ref t1])) p (.lst ((us.filter fun y => !(decide (e.2 = y.2) || decide (b.2 = y.2))).map (fun z : Sp3 => V.ref z.1) ++ [V.ref t1]))) p ((us.filter fun y => !(decide (e.2 = y.2) || decide (b.2 = y.2))) ++ [(t1, e.2.1, b.2.2)]) := by
            refine ⟨by rw [upd_same, List.map_append]; rfl, fun y hy => ?_⟩
            rcases List.mem_append.mp hy with m | m
            · exact u4 _ _ (hF6.tp y m)
            · rw [show y = (t1, e.2.1, b.2.2) by simpa using m]
              exact u4 _ _ (u2 _ _ upd_same)
          have s6 := s3.trans (s4.trans (u1.trans (u2.trans u4)))
          have enew : joinL k (us.map (·.2)) = LA ++ (e.2.1, b.2.2) :: LB := by
            rw [hL]
            exact join_at_one g' hk.ne hem.2 hbm.2
          have enl : ¬ (joinL k (us.map (·.2))).length = (us.map (·.2)).length := by
            rw [enew, hL, List.length_append, List.length_append, List.length_cons, List.length_cons, List.length_cons]
            omega
          rw [if_neg enl] at q
          have hfil : (us.map (·.2)).filter (fun p => !(decide (e.2 = p) || decide (b.2 = p))) = LA ++ LB := by
            have ny : ∀ p : Sp2, p.1 ≠ k → p.2 ≠ k → (!(decide (e.2 = p) || decide (b.2 = p))) = true := fun p h1 h2 => by
              rw [decide_eq_false (p := e.2 = p) fun z => h2 (by rw [← z]; exact hem.2), decide_eq_false (p := b.2 = p) fun z => h1 (by rw [← z]; exact hbm.2)]
              rfl
            rw [hL, List.filter_append, filter_all (l := LA) fun p hp => ny p (noA p hp).1 (noA p hp).2, List.filter_cons_of_neg (by simp), List.filter_cons_of_neg (by simp), filter_all (l := LB) fun p hp => ny p (noB p hp).1 (noB p hp).2]
          have hperm : (((us.filter fun y => !(decide (e.2 = y.2) || decide (b.2 = y.2))) ++ [(t1, e.2.1, b.2.2)]).map (·.2)).Perm (LA ++ (e.2.1, b.2.2) :: LB) := by
            rw [List.map_append, map_filter2 (c := fun p => !(decide (e.2 = p) || decide (b.2 = p))), hfil, List.append_assoc]
            refine List.Perm.append_left _ ?_
            show (LB ++ [(e.2.1, b.2.2)]).Perm ([(e.2.1, b.2.2)] ++ LB)
            exact List.perm_append_comm
          rw [show (us.filter fun y => !(decide (e.2 = y.2) || decide (b.2 = y.2))).map (fun z : Sp3 => V.ref z.1) ++ [V.ref t1] = ((us.filter fun y => !(decide (e.2 = y.2) || decide (b.2 = y.2))) ++ [(t1, e.2.1, b.2.2)]).map (fun z : Sp3 => V.ref z.1) by rw [List.map_append]; rfl] at hW s6 ⊢
          refine ⟨p, _, keys2 _, false, [false], rfl, SqL.of hW.ls, sort_keys hW, fun ys p2 hs hpm np2 => ?_⟩
          obtain ⟨us2, rfl, hU7, eU⟩ := sort_out hW (g'.join hk.ne hem.2 hbm.2).lows hperm hs hpm np2
          have u7 := same_new (o := .lst (us2.map fun z : Sp3 => V.ref z.1)) np2
          have s7 := s6.trans u7
          refine ⟨_, rfl, d, _, rfl, dput_dkv ("spans" : Str) p2 (s7 _ _ hd) (by show 1 ≤ 900; decide), ?_⟩
          rw [set_spans1]
          have ndp : p2 ≠ d := (ne_of_none (s6 _ _ hd) np2).symm
          refine q p2 us2 _ upd_same ⟨by rw [upd_ne ndp]; exact hU7.ls, fun y hy => by rw [upd_ne (ne_of (hU7.tp y hy) (s7 _ _ hd) (by intro z; cases z))]; exact hU7.tp y hy⟩ ?_ (.inr (s6.free np2)) (fun b o hb n => by rw [upd_ne n]; exact s7 b o hb)
          unfold newJ
          rw [if_neg enl, enew]
          exact eU
end
end FB

namespace FB
open PySem PySem.Spec PyProof.Rows L2
def wordS (w : Str) (L : List Sp2) (k : Str) : Str := if w = "cut" then cutW L k else joinW L k
def newS (w : Str) (L : List Sp2) (k : Str) : List Sp2 := if w = "cut" then newC L k else newJ L k
theorem join_ne_cut : ¬ (("join" : Str) = "cut") := by decide +kernel
def spApply17 (C CS : Addr) : Sp := fun vs H Q _ => ∃ (p c : Addr) (m : Led) (w k : Str), vs = [.ref p, .ref c] ∧ LedAt C CS H p m ∧ m.zs.length ≤ 400 ∧ Ok17 (m.zs.map (·.2)) ∧ H c = some (.tup [.str w, .str k]) ∧ (w = "cut" ∨ w = "join") ∧
  ∀ H', SpStep C CS H H' p m (newS w (m.zs.map (·.2)) k) → Q (.str (wordS w (m.zs.map (·.2)) k)) H'
def spBoundW : Sp := fun vs H Q _ => ∃ (d : Addr) (w k : Str) (l : Addr) (us : List Sp3), vs = [.ref d, .str w, .str k] ∧ H d = some (.dK (dkv V.ref [("spans", l)])) ∧ SpansAt H l us ∧ us.length ≤ 400 ∧ Ok17 (us.map (·.2)) ∧ IsKey k ∧ (w = "cut" ∨ w = "join") ∧
  ∀ (l' : Addr) (us' : List Sp3) (H' : Hp), H' d = some (.dK (dkv V.ref [("spans", l')])) → SpansAt H' l' us' → us'.map (·.2) = newS w (us.map (·.2)) k → (l' = l ∨ H l' = none) → Keep d H H' → Q (.str (wordS w (us.map (·.2)) k)) H'
theorem boundW {vs : List V} {H : Hp} {Q : VK} {E : XK} (h : spBoundW vs H Q E) : spBound17 vs H Q E := by
  obtain ⟨d, w, k, l, us, rfl, h1, h2, h3, h4, h5, hw, q⟩ := h
  refine ⟨d, w, k, l, us, rfl, h1, h2, h3, h4, h5, ?_⟩
  rcases hw with rfl | rfl
  · unfold wordS newS at q
    rw [if_pos rfl, if_pos rfl] at q
    exact .inl ⟨rfl, q⟩
  · unfold wordS newS at q
    rw [if_neg join_ne_cut, if_neg join_ne_cut] at q
    exact .inr ⟨rfl, q⟩
def spKeysOwned (C CS : Addr) : Sp := fun vs H Q _ => ∃ (p a kl : Addr) (m : Led) (zs : List Sp3) (ks : List Str), vs = [.ref p, .ref a, .ref kl] ∧ LedAt C CS H p m ∧ m.zs.length ≤ 400 ∧ SpansAt H a zs ∧ zs.length ≤ 400 ∧ H kl = some (.lst (ks.map V.str)) ∧ (∀ x, ownsB (m.zs.map (·.2)) x = ownsB (zs.map (·.2)) x) ∧ ∀ H', Same H H' → Q (.bl true) H'
section
variable {L : List Sp2} {k w : Str}
theorem keyor_cut (ok : Ok17 L) (hk : IsKey k) : Ok17 (newC L k) ∧ (newC L k).length ≤ L.length + 1 ∧ ∀ x, ownsB (newC L k) x = ownsB L x := by
  unfold newC
  by_cases h : ∃ z ∈ L, canB z.1 z.2 k = true
  · obtain ⟨z, hz, hc⟩ := h
    obtain ⟨A, B, rfl⟩ := List.append_of_mem hz
    rw [cut_at_one ok.g hc]
    have hz1 := ok.k1 z hz
    refine ⟨⟨ok.g.cut hk.ne hz1 hc, fun p hp => ?_, fun p hp => ?_⟩, by simp; omega, fun x => ?_⟩
    · rcases List.mem_append.mp hp with m | m
      · exact ok.k1 p (List.mem_append_left _ m)
      · rcases List.mem_cons.mp m with rfl | m
        · exact hz1
        · rcases List.mem_cons.mp m with rfl | m
          · exact .inr hk
          · exact ok.k1 p (by simp [m])
    · rcases List.mem_append.mp hp with m | m
      · exact ok.k2 p (List.mem_append_left _ m)
      · rcases List.mem_cons.mp m with rfl | m
        · exact .inr hk
        · rcases List.mem_cons.mp m with rfl | m
          · exact ok.k2 z hz
          · exact ok.k2 p (by simp [m])
    · rw [owns_append, owns_append, owns_cons, owns_cons, owns_cons, own_cut (x := x) (can_low hz1 hc) hk.ne (has_inv (can_has hc)).2, Bool.or_assoc]
  · rw [cutL_id fun z hz => Bool.eq_false_iff.mpr fun e => h ⟨z, hz, e⟩]
    exact ⟨ok, Nat.le_succ _, fun x => rfl⟩
theorem keyor_join (ok : Ok17 L) (hk : IsKey k) : Ok17 (newJ L k) ∧ (newJ L k).length ≤ L.length + 1 ∧ ∀ x, ownsB (newJ L k) x = ownsB L x := by
  unfold newJ
  split
  · exact ⟨ok, Nat.le_succ _, fun x => rfl⟩
  · rename_i hn
    by_cases h : (∃ e ∈ L, e.2 = k) ∧ ∃ b ∈ L, b.1 = k
    · obtain ⟨⟨e, he, e2⟩, b, hb, b1⟩ := h
      obtain ⟨A, B, rfl⟩ := join_parts ok.g hk.ne he hb e2 b1
      obtain ⟨_, _, _, eup, bup⟩ := join_rest ok.g hk.ne e2 b1
      rw [join_at_one ok.g hk.ne e2 b1]
      refine ⟨⟨ok.g.join hk.ne e2 b1, fun p hp => ?_, fun p hp => ?_⟩, by simp; omega, fun x => ?_⟩
      · rcases List.mem_append.mp hp with m | m
        · exact ok.k1 p (List.mem_append_left _ m)
        · rcases List.mem_cons.mp m with rfl | m
          · exact ok.k1 e he
          · exact ok.k1 p (by simp [m])
      · rcases List.mem_append.mp hp with m | m
        · exact ok.k2 p (List.mem_append_left _ m)
        · rcases List.mem_cons.mp m with rfl | m
          · exact ok.k2 b hb
          · exact ok.k2 p (by simp [m])
      · have := own_cut (z := (e.1, b.2)) (k := k) (x := x) eup hk.ne bup
        rw [owns_append, owns_append, owns_cons, owns_cons, owns_cons, this, e2, b1, Bool.or_assoc]
    · exfalso
      apply hn
      have : joinL k L = dueJ k L := join_due ok.g hk.ne
      rw [this]
      unfold dueJ
      split
      · rename_i e _ b _ h1 h2
        exact absurd ⟨⟨e, (List.mem_filter.mp (show e ∈ L.filter _ by rw [h1]; exact List.mem_cons_self)).1, of_decide_eq_true (List.mem_filter.mp (show e ∈ L.filter _ by rw [h1]; exact List.mem_cons_self)).2⟩, b, (List.mem_filter.mp (show b ∈ L.filter _ by rw [h2]; exact List.mem_cons_self)).1, of_decide_eq_true (List.mem_filter.mp (show b ∈ L.filter _ by rw [h2]; exact List.mem_cons_self)).2⟩ h
      · rfl
theorem keyor_step (ok : Ok17 L) (hk : IsKey k) : Ok17 (newS w L k) ∧ (newS w L k).length ≤ L.length + 1 ∧ ∀ x, ownsB (newS w L k) x = ownsB L x := by
  unfold newS
  split
  · exact keyor_cut ok hk
  · exact keyor_join ok hk
end
section
variable {P : Program} {w : World} {K : PySem.W.Frag} {mg : Str → Option Value} {base : Heap}
theorem ok_led_apply17 {f C CS : Addr} {fd : FuncData} (F : Fun K "apply" "Ledger.apply" s_Ledger_apply f fd) (T : LdCls K C) (D_Ledger_do_cut : MethOk P w K mg base 4 C "do_cut" ["self", "key"] (spLedCut C CS)) (D_Ledger_do_join : MethOk P w K mg base 2 C "do_join" ["self", "key"] (spLedJoin C CS))
    (D_Ledger_do_open : MethOk P w K mg base 4 C "do_open" ["self", "deal", "ops"] spNo) (D_Ledger_do_choose : MethOk P w K mg base 4 C "do_choose" ["self", "deal", "verdict"] spNo)
    (D_Ledger_do_ready : MethOk P w K mg base 4 C "do_ready" ["self", "deal", "ops", "moment"] spNo) (D_Ledger_do_over : MethOk P w K mg base 4 C "do_over" ["self", "deal", "verdict"] spNo) (D_Ledger_do_mark : MethOk P w K mg base 4 C "do_mark" ["self", "moment"] spNo)
    (D_Ledger_do_give : MethOk P w K mg base 4 C "do_give" ["self", "move", "low", "group", "moment"] spNo) (D_Ledger_do_take : MethOk P w K mg base 4 C "do_take" ["self", "move", "low", "high", "moment", "rows"] spNo) : FnOk P w K mg base CX0 5 f fd ["self", "command"] (spApply17 C CS) := by
  have L_Ledger := T.cl
  refine F.ok sc_Ledger_apply (fun vs H Q E h => ?_) (fun cdv A outer s H vs Q E hr h => ?_)
  · obtain ⟨p, c, m, w, k, rfl, _⟩ := h
    rfl
  · obtain ⟨p, c, m, w, k, rfl, hL, hl, ok, hc, hw, q⟩ := h
    obtain ⟨dx, ho⟩ := hL.ob
    refine ⟨_, pss_cons (ps_match (pv 1) (pcs_case rfl sc_Ledger_apply.nd (.cons (i := 2) rfl (Or.inl rfl) (Or.inr rfl) (.cons (i := 3) rfl (Or.inl rfl) (Or.inr rfl) .nil)) (pss_one (ps_ret (pe_mth L_Ledger D_Ledger_do_open (hr.mono (by omega)) (pv 0) (pa_cons (pv 2) (pa_cons (pv 3) pa_nil)))))
      (pcs_case rfl sc_Ledger_apply.nd (.cons (i := 2) rfl (Or.inl rfl) (Or.inr rfl) (.cons (i := 3) rfl (Or.inl rfl) (Or.inr rfl) (.cons (i := 4) rfl (Or.inl rfl) (Or.inr rfl) .nil))) (pss_one (ps_ret (pe_mth L_Ledger D_Ledger_do_ready (hr.mono (by omega)) (pv 0) (pa_cons (pv 2) (pa_cons (pv 3) (pa_cons (pv 4) pa_nil))))))
      (pcs_case rfl sc_Ledger_apply.nd (.cons (i := 2) rfl (Or.inl rfl) (Or.inr rfl) (.cons (i := 5) rfl (Or.inl rfl) (Or.inr rfl) .nil)) (pss_one (ps_ret (pe_mth L_Ledger D_Ledger_do_choose (hr.mono (by omega)) (pv 0) (pa_cons (pv 2) (pa_cons (pv 5) pa_nil)))))
      (pcs_case rfl sc_Ledger_apply.nd (.cons (i := 2) rfl (Or.inl rfl) (Or.inr rfl) (.cons (i := 5) rfl (Or.inl rfl) (Or.inr rfl) .nil)) (pss_one (ps_ret (pe_mth L_Ledger D_Ledger_do_over (hr.mono (by omega)) (pv 0) (pa_cons (pv 2) (pa_cons (pv 5) pa_nil)))))
      (pcs_case rfl sc_Ledger_apply.nd (.cons (i := 4) rfl (Or.inl rfl) (Or.inr rfl) .nil) (pss_one (ps_ret (pe_mth L_Ledger D_Ledger_do_mark (hr.mono (by omega)) (pv 0) (pa_cons (pv 4) pa_nil))))
      (pcs_case rfl sc_Ledger_apply.nd (.cons (i := 6) rfl (Or.inl rfl) (Or.inr rfl) .nil) (pss_one (ps_ret (pe_mth L_Ledger D_Ledger_do_cut (hr.mono (by omega)) (pv 0) (pa_cons (pv 6) pa_nil))))
      (pcs_case rfl sc_Ledger_apply.nd (.cons (i := 6) rfl (Or.inl rfl) (Or.inr rfl) .nil) (pss_one (ps_ret (pe_mth L_Ledger D_Ledger_do_join (hr.mono (by omega)) (pv 0) (pa_cons (pv 6) pa_nil))))
      (pcs_case rfl sc_Ledger_apply.nd (.cons (i := 7) rfl (Or.inl rfl) (Or.inr rfl) (.cons (i := 8) rfl (Or.inl rfl) (Or.inr rfl) (.cons (i := 9) rfl (Or.inl rfl) (Or.inr rfl) (.cons (i := 4) rfl (Or.inl rfl) (Or.inr rfl) .nil)))) (pss_one (ps_ret (pe_mth L_Ledger D_Ledger_do_give (hr.mono (by omega)) (pv 0) (pa_cons (pv 7) (pa_cons (pv 8) (pa_cons (pv 9) (pa_cons (pv 4) pa_nil)))))))
      (pcs_case rfl sc_Ledger_apply.nd (.cons (i := 7) rfl (Or.inl rfl) (Or.inr rfl) (.cons (i := 8) rfl (Or.inl rfl) (Or.inr rfl) (.cons (i := 10) rfl (Or.inl rfl) (Or.inr rfl) (.cons (i := 4) rfl (Or.inl rfl) (Or.inr rfl) (.cons (i := 11) rfl (Or.inl rfl) (Or.inr rfl) .nil))))) (pss_one (ps_ret (pe_mth L_Ledger D_Ledger_do_take (hr.mono (by omega)) (pv 0) (pa_cons (pv 7) (pa_cons (pv 8) (pa_cons (pv 10) (pa_cons (pv 4) (pa_cons (pv 11) pa_nil))))))))
      pcs_nil))))))))))
    (pss_one (ps_ret pe_str)), ?_⟩
    have n2 : ¬ (1 = 2) := by decide
    have n3 : ¬ (1 = 3) := by decide
    rcases hw with rfl | rfl
    · unfold wordS newS at q
      rw [if_pos rfl, if_pos rfl] at q
      refine ⟨_, rfl, c, _, _, rfl, SqT.of hc, caseF (fun z => n2 z.1) ⟨c, _, _, rfl, SqT.of hc, caseF (fun z => n3 z.1) ⟨c, _, _, rfl, SqT.of hc, caseF (fun z => n2 z.1) ⟨c, _, _, rfl, SqT.of hc, caseF (fun z => n2 z.1) ⟨c, _, _, rfl, SqT.of hc, caseF (fun z => absurd z.2 (by decide +kernel)) ⟨c, _, _, rfl, SqT.of hc, caseT ⟨rfl, rfl⟩ ?_⟩⟩⟩⟩⟩⟩
      exact ⟨_, rfl, p, dx, _, rfl, ho, ledF_no m (by decide +kernel), _, rfl, p, m, k, rfl, hL, hl, fun z hz y hy h1 h2 => ok.g.uniq (List.mem_map.mpr ⟨z, hz, rfl⟩) (List.mem_map.mpr ⟨y, hy, rfl⟩) h1 h2, q⟩
    · unfold wordS newS at q
      rw [if_neg join_ne_cut, if_neg join_ne_cut] at q
      refine ⟨_, rfl, c, _, _, rfl, SqT.of hc, caseF (fun z => n2 z.1) ⟨c, _, _, rfl, SqT.of hc, caseF (fun z => n3 z.1) ⟨c, _, _, rfl, SqT.of hc, caseF (fun z => n2 z.1) ⟨c, _, _, rfl, SqT.of hc, caseF (fun z => n2 z.1) ⟨c, _, _, rfl, SqT.of hc, caseF (fun z => absurd z.2 (by decide +kernel)) ⟨c, _, _, rfl, SqT.of hc, caseF (fun z => absurd z.2 (by decide +kernel)) ⟨c, _, _, rfl, SqT.of hc, caseT ⟨rfl, rfl⟩ ?_⟩⟩⟩⟩⟩⟩⟩
      unfold newJ at q
      rw [List.length_map] at q
      exact ⟨_, rfl, p, dx, _, rfl, ho, ledF_no m (by decide +kernel), _, rfl, p, m, k, rfl, hL, hl, q⟩
theorem ok_keys_owned {f C CS : Addr} {fd : FuncData} (F : Fun K "_law_keys_owned" "_law_keys_owned" s_keys_owned f fd) (L_Ledger : Cls K C) (D_Ledger_owned : MethOk P w K mg base 1 C "owned" ["self"] (spLedOwned C CS)) (D_owns : DefOk P w K mg base 2 "_law_owns" ["_law_spans_here", "_law_key_here"] spOwnsW) : FnOk P w K mg base CX0 3 f fd ["_law_ledger", "_law_spans_here", "_law_keys_here"] (spKeysOwned C CS) := by
  refine F.ok sc_keys_owned (fun vs H Q E h => ?_) (fun cdv A outer s H vs Q E hr h => ?_)
  · obtain ⟨p, a, kl, m, zs, ks, rfl, _⟩ := h
    rfl
  · obtain ⟨p, a, kl, m, zs, ks, rfl, hL, hml, hZ, hzl, hkl, he, q⟩ := h
    obtain ⟨dx, ho⟩ := hL.ob
    refine ⟨_, pss_cons (ps_set (i := 3) sc_keys_owned.nd rfl (Or.inl rfl) (pe_mth0 L_Ledger D_Ledger_owned (hr.mono (by omega)) (pv 0)))
    (pss_cons (ps_for PassesOwn.never rfl (pi_list (pv 2)) (pg_name (i := 4) sc_keys_owned.nd rfl (Or.inl rfl))
      (pss_one (ps_if (pt_cmpR op_ne (pe_def D_owns (hr.mono (by omega)) (by rfl) (pa_cons (pv 3) (pa_cons (pv 4) pa_nil))) (pe_def D_owns (hr.mono (by omega)) (by rfl) (pa_cons (pv 1) (pa_cons (pv 4) pa_nil))) (nomark _))
        (pss_one (ps_ret pe_bl)) pss_nil)))
    (pss_one (ps_ret pe_bl))), ?_⟩
    refine ⟨_, rfl, p, dx, _, rfl, ho, ledF_no m (by decide +kernel), p, m, rfl, hL, fun l H1 nl hF s1 => ?_⟩
    refine ⟨_, rfl, kl, rfl, ⟨_, SqL.of (s1 _ _ hkl)⟩, for_list (K := K) (a := kl) (xs := ks.map V.str) (fun i σ H' => ∃ v4, σ = [some (.ref p), some (.ref a), some (.ref kl), some (.ref l), v4] ∧ Same H1 H') ⟨none, rfl, Same.refl _⟩ ?_ ?_ ?_⟩
    · rintro i σ H' _ ⟨_, _, sm⟩
      exact SqL.of (sm _ _ (s1 _ _ hkl))
    · rintro i x σ H' hi ⟨v4, rfl, sm⟩
      rw [List.getElem?_map] at hi
      obtain ⟨k, _, rfl⟩ := Option.map_eq_some_iff.mp hi
      refine ⟨_, rfl, _, rfl, l, m.zs, k, rfl, hF.same sm, by omega, fun H2 s2 => ?_⟩
      refine ⟨_, rfl, _, rfl, a, zs, k, rfl, (hZ.same (s1.trans sm)).same s2, by omega, fun H3 s3 => ?_⟩
      refine ⟨rfl, _, rfl, ?_⟩
      rw [he k]
      refine caseF (by simp) ?_
      exact ⟨_, rfl, sm.trans (s2.trans s3)⟩
    · rintro σ H' ⟨v4, rfl, sm⟩
      exact q H' (s1.trans sm)
end
end FB

namespace FB
open PySem PySem.Spec PyProof.Rows L2
theorem pe_mk {X : Cx} {k : Nat} {C : Addr} {x : Str} {ps : List Str} {sp : Sp} {e : Expr} {es : List Expr} {t : TA} {p pos : Pos} (D : MakeOk X.prog X.w X.K X.mg X.base k C ps sp) (hm : X.mg x = some (.ref C)) (hr : Room (k + 1) X.A) (hg : Gl X x) (ha : PA X (e :: es) t) (hd : (x == ("__debug__" : Str)) = false := by decide) (h1 : starEach (e :: es) X.env = (false, eval e X.env) :: starEach es X.env := by rfl) (h2 : (backTo pos (starEach es X.env)).any (·.1) = false := by rfl) : PE X (.Call (.Name x p) (e :: es) [] pos) (tMake C sp [] E0 t) := by
  obtain ⟨f, fd, F, M, hb⟩ := D
  exact pe_make M F hr hg hm hb .nil pass0 ha hd h1 h2
theorem LedAt.dict {C CS : Addr} {H : Hp} {L : Addr} {m : Led} (h : LedAt C CS H L m) {b : Addr} (hb : b ∈ dicts m) : ∃ kvs, H b = some (.dK kvs) := by
  simp only [dicts, List.mem_cons] at hb
  rcases hb with rfl | rfl | rfl | rfl | rfl | rfl | hb
  · exact ⟨_, h.op⟩
  · exact ⟨_, h.ch⟩
  · exact ⟨_, h.en⟩
  · exact ⟨_, h.rd⟩
  · exact ⟨_, h.rf⟩
  · exact ⟨_, h.ho⟩
  · obtain ⟨d, S, ⟨_, h2, h3, _, _⟩, e, _⟩ := h.sh
    rw [e] at hb
    unfold foot at hb
    rcases List.mem_cons.mp hb with rfl | hb
    · exact ⟨_, h2⟩
    · obtain ⟨y, hy, rfl⟩ := List.mem_map.mp hb
      exact ⟨_, h3 y hy⟩
end FB

namespace FB
open PySem PySem.Spec PyProof.Rows L2
section
variable {P : Program} {w : World} {K : PySem.W.Frag} {mg : Str → Option Value} {base : Heap}
theorem ok_sh_init {f C : Addr} {fd : FuncData} (F : Fun K "__init__" "Shelf.__init__" s_Shelf___init__ f fd) (T : ShCls K C) : FnOk P w K mg base CX0 1 f fd ["self"] (spShInit C) := by
  refine F.ok sc_Shelf___init__ (fun vs H Q E h => ?_) (fun cdv A outer s H vs Q E hr h => ?_)
  · obtain ⟨p, dx, rfl, _⟩ := h
    rfl
  · obtain ⟨p, dx, rfl, hp, k⟩ := h
    refine ⟨_, pss_one (ps_fld (pv 0) pe_dnewK rfl), ?_⟩
    intro d hd
    have npd : p ≠ d := ne_of_none hp hd
    refine ⟨_, rfl, p, C, dx, [], rfl, (by rw [upd_ne npd]; exact hp), T.cl, T.nP, (by show 0 < 1000; decide), ?_⟩
    refine k d _ hd ⟨d, [], ⟨⟨dx, upd_same⟩, ?_, fun e he => (by cases he), List.nodup_nil, List.nodup_nil⟩, rfl, fun k => rfl, Nat.le_refl _⟩ fun b o e hb => ?_
    · rw [upd_ne npd.symm, upd_same]
      rfl
    · rw [upd_ne hb, upd_ne (ne_of_none e hd)]
      exact e
theorem ok_sh_put {f C : Addr} {fd : FuncData} (F : Fun K "put" "Shelf.put" s_Shelf_put f fd) (T : ShCls K C) : FnOk P w K mg base CX0 1 f fd ["self", "key", "moment", "value"] (spShPut C) := by
  refine F.ok sc_Shelf_put (fun vs H Q E h => ?_) (fun cdv A outer s H vs Q E hr h => ?_)
  · obtain ⟨p, F, ps, k, t, v, rfl, _⟩ := h
    rfl
  · obtain ⟨p, Ft, ps, k, t, v, rfl, ⟨d, S, R, rfl, hpg, hSl⟩, hpl, q⟩ := h
    refine ⟨_, pss_cons (ps_set (i := 4) sc_Shelf_put.nd rfl (Or.inl rfl) (pe_dsetd (pe_fld (pv 0) rfl) (pv 1) pe_dnewK ⟨rfl, rfl, rfl, rfl⟩))
    (pss_one (ps_expr (pe_dsetd (pv 4) (pv 2) (pv 3) ⟨rfl, rfl, rfl, rfl⟩))), ?_⟩
    obtain ⟨⟨dx, ho⟩, hd, hen, nk, na⟩ := id R
    refine ⟨_, rfl, p, C, dx, _, _, rfl, ho, T.cl, T.nP, shFlds_look d, d, rfl, .inl ⟨_, .inl hd⟩, _, rfl, fun np nnp => ?_⟩
    have s1 := same_new (o := .dK []) nnp
    have hsz : (shKvs S).length < sizeLine := by
      unfold shKvs
      rw [List.length_map]
      exact small1000 (by omega)
    have npd : np ≠ d := (ne_of_none hd nnp).symm
    refine ⟨shKvs S, tk k, s1 _ _ hd, rfl, hsz, fun y hy => ?_, fun hn => ?_⟩
    · -- the key has a page
      rw [val_sh] at hy
      obtain ⟨e, he, rfl⟩ := Option.map_eq_some_iff.mp hy
      obtain ⟨hm, rfl⟩ := find_key he
      have hpgk : pgS S e.1 = e.2.2 := by
        unfold pgS
        rw [he]
      have hel : e.2.2.length ≤ 900 := by
        rw [← hpgk, hpg]
        exact Nat.le_trans (pgOf_len _ _) hpl
      have end_ : (e.2.2.map (·.1)).Nodup := by
        rw [← hpgk, hpg]
        exact pgOf_nodup _ _
      have hea := s1 _ _ (hen e hm)
      refine ⟨_, rfl, e.2.1, rfl, .inl ⟨_, .inl hea⟩, _, rfl, _, rfl, pgKvs e.2.2, Sum.inl t, hea, rfl, by unfold pgKvs; rw [List.length_map]; exact small1000 (by omega), fun y hy => ?_, fun hn => ?_⟩
      · -- the moment is there: nothing changes
        have hin : t ∈ e.2.2.map (·.1) := by
          apply Decidable.byContradiction
          intro h
          rw [val_pg_none h] at hy
          cases hy
        refine q (foot d S) _ ⟨d, S, ⟨⟨dx, s1 _ _ ho⟩, s1 _ _ hd, fun x hx => s1 _ _ (hen x hx), nk, na⟩, rfl, fun j => ?_, by rw [List.length_append]; omega⟩ (fun b hb => .inl hb) fun b o hb _ => s1 _ _ hb
        rw [pgOf_snoc]
        split
        · rename_i hj
          have hj : e.1 = j := hj
          subst hj
          rw [← hpg, hpgk]
          exact (if_pos hin).symm
        · exact hpg j
      · have hin : t ∉ e.2.2.map (·.1) := fun h => by
          obtain ⟨y, hy, ey⟩ := List.mem_map.mp h
          have := val_pg_some end_ (t := t) (r := y.2) (by rw [← ey]; exact hy)
          rw [this] at hn
          cases hn
        have ekv : putK (pgKvs e.2.2) (Sum.inl t : Key) (V.int v) = pgKvs (e.2.2 ++ [(t, v)]) := by
          rw [putK_new _ hn]
          unfold pgKvs
          rw [List.map_append]
          rfl
        rw [ekv]
        have ned : e.2.1 ≠ d := fun z => by
          have h1 := hen e hm
          rw [z, hd] at h1
          have h2 := HO.dK.inj (Option.some.inj h1)
          cases S with
          | nil => cases hm
          | cons x r =>
            cases hp2 : e.2.2 with
            | nil =>
              rw [hp2] at h2
              cases h2
            | cons y r2 =>
              rw [hp2] at h2
              have h3 := (List.cons.inj h2).1
              exact nomatch (Prod.mk.inj h3).1
        have keep : ∀ b o, H b = some o → b ≠ e.2.1 → upd (upd H np (.dK [])) e.2.1 (.dK (pgKvs (e.2.2 ++ [(t, v)]))) b = some o := fun b o hb hne => by
          rw [upd_ne hne]
          exact s1 _ _ hb
        have nop : p ≠ e.2.1 := ne_of ho (hen e hm) (by intro z; cases z)
        refine q (foot d S) _ ⟨d, setPg S e.2.1 (e.2.2 ++ [(t, v)]), ⟨⟨dx, keep _ _ ho nop⟩, ?_, ?_, by rw [setPg_keys]; exact nk, by rw [setPg_addrs]; exact na⟩, ?_, fun j => ?_, ?_⟩ (fun b hb => .inl hb) fun b o hb hnf => keep b o hb fun z => hnf (by rw [z]; exact List.mem_cons_of_mem _ (List.mem_map.mpr ⟨e, hm, rfl⟩))
        · rw [setPg_kvs]
          exact keep _ _ hd ned.symm
        · intro x hx
          obtain ⟨y, hy, rfl⟩ := List.mem_map.mp hx
          by_cases hy2 : y.2.1 = e.2.1
          · rw [if_pos hy2]
            exact upd_same
          · rw [if_neg hy2]
            exact keep _ _ (hen y hy) hy2
        · unfold foot
          rw [setPg_addrs]
        · rw [pgS_set hm nk na, pgOf_snoc]
          by_cases hj : j = e.1
          · subst hj
            rw [if_pos rfl, if_pos rfl, ← hpg, hpgk]
            exact (if_neg hin).symm
          · rw [if_neg hj, if_neg fun z => hj z.symm]
            exact hpg j
        · unfold setPg
          rw [List.length_map, List.length_append]
          omega
    · -- a new page
      rw [val_sh] at hn
      have hno : S.find? (fun e => decide (e.1 = k)) = none := by
        cases h : S.find? (fun e => decide (e.1 = k)) with
        | none => rfl
        | some e => rw [h] at hn; cases hn
      have hk0 : pgOf ps k = [] := by
        rw [← hpg]
        unfold pgS
        rw [hno]
      have ekv : putK (shKvs S) (tk k) (V.ref np) = shKvs (S ++ [(k, np, [])]) := by
        rw [putK_new _ (by rw [val_sh, hno]; rfl)]
        unfold shKvs
        rw [List.map_append]
        rfl
      have hnp : upd (upd H np (.dK [])) d (.dK (putK (shKvs S) (tk k) (V.ref np))) np = some (.dK (pgKvs [])) := by
        rw [upd_ne npd, upd_same]
        rfl
      refine ⟨_, rfl, np, rfl, .inl ⟨_, .inl hnp⟩, _, rfl, _, rfl, pgKvs [], Sum.inl t, hnp, rfl, by decide, fun y hy => (by cases hy), fun _ => ?_⟩
      have ekv2 : putK (pgKvs []) (Sum.inl t : Key) (V.int v) = pgKvs [(t, v)] := putK_new _ rfl
      rw [ekv2, ekv]
      have keep : ∀ b o, H b = some o → b ≠ d → upd (upd (upd H np (.dK [])) d (.dK (shKvs (S ++ [(k, np, [])])))) np (.dK (pgKvs [(t, v)])) b = some o := fun b o hb hne => by
        rw [upd_ne (ne_of_none hb nnp), upd_ne hne]
        exact s1 _ _ hb
      have nop : p ≠ d := ne_of ho hd (by intro z; cases z)
      have hnew : np ∉ S.map (·.2.1) := fun h => by
        obtain ⟨e, he, z⟩ := List.mem_map.mp h
        have := hen e he
        rw [z, nnp] at this
        cases this
      have hkn : k ∉ S.map (·.1) := fun h => by
        obtain ⟨e, he, z⟩ := List.mem_map.mp h
        have := List.find?_eq_none.mp hno e he
        exact this (by simpa using z)
      refine q (foot d (S ++ [(k, np, [(t, v)])])) _ ⟨d, S ++ [(k, np, [(t, v)])], ⟨⟨dx, keep _ _ ho nop⟩, ?_, ?_, ?_, ?_⟩, rfl, fun j => ?_, ?_⟩ ?_ fun b o hb hnf => keep b o hb fun z => hnf (by rw [z]; exact List.mem_cons_self)
      · rw [upd_ne npd.symm, upd_same]
        unfold shKvs
        rw [List.map_append, List.map_append]
        rfl
      · intro e he
        rcases List.mem_append.mp he with h | h
        · refine keep _ _ (hen e h) fun z => ?_
          have h1 := hen e h
          rw [z, hd] at h1
          have h2 := HO.dK.inj (Option.some.inj h1)
          cases S with
          | nil => cases h
          | cons x r =>
            cases hp2 : e.2.2 with
            | nil =>
              rw [hp2] at h2
              cases h2
            | cons y r2 =>
              rw [hp2] at h2
              have h3 := (List.cons.inj h2).1
              exact nomatch (Prod.mk.inj h3).1
        · rw [show e = (k, np, [(t, v)]) by simpa using h]
          exact upd_same
      · rw [List.map_append, List.nodup_append]
        exact ⟨nk, by simp, fun a ha b hb z => hkn (by rw [show b = k by simpa using hb] at z; rw [← z]; exact ha)⟩
      · rw [List.map_append, List.nodup_append]
        exact ⟨na, by simp, fun a ha b hb z => hnew (by rw [show b = np by simpa using hb] at z; rw [← z]; exact ha)⟩
      · rw [pgS_snoc hno, pgOf_snoc]
        by_cases hj : j = k
        · rw [if_pos hj, if_pos hj.symm, hj, hk0]
          rfl
        · rw [if_neg hj, if_neg fun z => hj z.symm]
          exact hpg j
      · rw [List.length_append, List.length_append]
        exact Nat.add_le_add_right hSl 1
      · intro b hb
        unfold foot at hb
        rw [List.map_append] at hb
        rcases List.mem_cons.mp hb with h | h
        · exact .inl (by rw [h]; exact List.mem_cons_self)
        · rcases List.mem_append.mp h with h | h
          · exact .inl (List.mem_cons_of_mem _ h)
          · rw [show b = np by simpa using h]
            exact .inr nnp
end
end FB

namespace FB
open PySem PySem.Spec PyProof.Rows L2
structure S17 (C CS : Addr) (H : Hp) (d kl a p ha md : Addr) (ks : List Str) (zs : List Sp3) (m : Led) (lm : Addr) (um : List Sp3) : Prop where
  led : LedAt C CS H p m
  kl : H kl = some (.lst (ks.map V.str))
  sp : SpansAt H a zs
  hs : SpansAt H ha zs
  hmd : H md = some (.dK (dkv V.ref [("spans", lm)]))
  hum : SpansAt H lm um
  eu : um.map (·.2) = m.zs.map (·.2)
  ok : Ok17 (m.zs.map (·.2))
  own : ∀ x, ownsB (m.zs.map (·.2)) x = ownsB (zs.map (·.2)) x
  dmd : d ≠ md
  nd : d ∉ dicts m
  nm : md ∉ dicts m
  dd : ∃ kvs, H d = some (.dK kvs)
  nas : a ≠ m.aS
  ag : a ≠ m.aG
  aa : a ≠ m.aA
  alm : a ≠ lm
section
variable {C CS d kl a p ha md lm x c : Addr} {H H1 H2 : Hp} {ks : List Str} {zs um : List Sp3} {m m' : Led} {cs : List Int} {n : Nat}
theorem SpansAt.keepX {a : Addr} {zs : List Sp3} (h : SpansAt H a zs) (k : Keep x H H1) (hx : ∃ o, H x = some o ∧ (∀ xs, o ≠ .lst xs) ∧ ∀ xs, o ≠ .tup xs) : SpansAt H1 a zs := by
  obtain ⟨o, hx, n1, n2⟩ := hx
  exact ⟨k _ _ h.ls (ne_of h.ls hx (n1 _).symm), fun e he => k _ _ (h.tp e he) (ne_of (h.tp e he) hx (n2 _).symm)⟩
theorem dict_no {kvs : List (Key × V)} (h : H x = some (.dK kvs)) : ∃ o, H x = some o ∧ (∀ xs, o ≠ .lst xs) ∧ ∀ xs, o ≠ .tup xs := ⟨_, h, (fun xs z => by cases z), (fun xs z => by cases z)⟩
theorem ins_no {C dx : Addr} {fs : List (Str × V)} (h : H x = some (.ins C dx fs)) : ∃ o, H x = some o ∧ (∀ xs, o ≠ .lst xs) ∧ ∀ xs, o ≠ .tup xs := ⟨_, h, (fun xs z => by cases z), (fun xs z => by cases z)⟩
theorem S17.same (S : S17 C CS H d kl a p ha md ks zs m lm um) (s : Same H H1) : S17 C CS H1 d kl a p ha md ks zs m lm um := by
  obtain ⟨kvs, hd⟩ := S.dd
  exact ⟨S.led.same s, s _ _ S.kl, S.sp.same s, S.hs.same s, s _ _ S.hmd, S.hum.same s, S.eu, S.ok, S.own, S.dmd, S.nd, S.nm, ⟨kvs, s _ _ hd⟩, S.nas, S.ag, S.aa, S.alm⟩
theorem S17.keep (S : S17 C CS H d kl a p ha md ks zs m lm um) (k : Keep d H H1) (hd : ∃ kvs, H1 d = some (.dK kvs)) : S17 C CS H1 d kl a p ha md ks zs m lm um := by
  have hd0 := S.dd
  obtain ⟨kvs, hd'⟩ := id hd0
  have nx := dict_no hd'
  exact ⟨S.led.keepD k hd0 S.nd, k _ _ S.kl (ne_of S.kl hd' (by intro z; cases z)), S.sp.keepX k nx, S.hs.keepX k nx, k _ _ S.hmd S.dmd.symm, S.hum.keepX k nx, S.eu, S.ok, S.own, S.dmd, S.nd, S.nm, hd, S.nas, S.ag, S.aa, S.alm⟩
/-- the ledger is changed, then the law's own dict -/
theorem S17.step (S : S17 C CS H d kl a p ha md ks zs m lm um) (D : DrawAt H d c cs n) {L : List Sp2} {lm' : Addr} {um' : List Sp3} (hst : SpStep C CS H H1 p m L) (he : H2 md = some (.dK (dkv V.ref [("spans", lm')]))) (hu : SpansAt H2 lm' um') (eu : um'.map (·.2) = L) (fr : lm' = lm ∨ H1 lm' = none) (k2 : Keep md H1 H2) (ok : Ok17 L) (own : ∀ x, ownsB L x = ownsB (m.zs.map (·.2)) x) :
    ∃ m', S17 C CS H2 d kl a p ha md ks zs m' lm' um' ∧ DrawAt H2 d c cs n ∧ m'.zs.map (·.2) = L := by
  obtain ⟨a1, ws, hL, ew, hfr, k1⟩ := hst
  obtain ⟨dx, ho⟩ := S.led.ob
  have np := ins_no ho
  have neo : md ≠ p := ne_of S.hmd ho (by intro z; cases z)
  have hmd1 := k1 _ _ S.hmd neo
  have nx1 := dict_no hmd1
  obtain ⟨kvs, hd⟩ := S.dd
  have ndp : d ≠ p := ne_of hd ho (by intro z; cases z)
  have hkl1 := k1 _ _ S.kl (ne_of S.kl ho (by intro z; cases z))
  have hsp1 := S.sp.keepX k1 np
  refine ⟨{ m with aS := a1, zs := ws }, ⟨hL.keepD k2 ⟨_, hmd1⟩ S.nm, k2 _ _ hkl1 (ne_of hkl1 hmd1 (by intro z; cases z)), hsp1.keepX k2 nx1, (S.hs.keepX k1 np).keepX k2 nx1, he, hu, eu.trans ew.symm, by show Ok17 (ws.map (·.2)); rw [ew]; exact ok, fun x => by show ownsB (ws.map (·.2)) x = _; rw [ew, own]; exact S.own x, S.dmd, S.nd, S.nm, ⟨kvs, k2 _ _ (k1 _ _ hd ndp) S.dmd⟩, ?_, S.ag, S.aa, ?_⟩, ?_, ew⟩
  · show a ≠ a1
    rcases hfr with e | e
    · rw [e]; exact S.nas
    · exact ne_of_none S.sp.ls e
  · rcases fr with e | e
    · rw [e]; exact S.alm
    · exact ne_of_none hsp1.ls e
  · obtain ⟨x1, x2, x3, x4, h1, h2, h3⟩ := D
    exact ⟨x1, x2, x3, x4, k2 _ _ (k1 _ _ h1 ndp) S.dmd, k2 _ _ (k1 _ _ h2 (ne_of h2 ho (by intro z; cases z))) (ne_of (k1 _ _ h2 (ne_of h2 ho (by intro z; cases z))) hmd1 (by intro z; cases z)), h3⟩
end
theorem plb0s (x : Str) : PlB 0 (.str x) := .inr (.inr ⟨x, rfl⟩)
theorem plb0i (x : Int) : PlB 0 (.int x) := .inr (.inl ⟨x, rfl⟩)
theorem plb_up : ∀ {n : Nat} {d : PyData}, PlB 0 d → PlB n d
  | 0, _, h => h
  | _ + 1, _, h => .inl h
theorem pl_spansB {zs : List Sp3} (h : zs.length ≤ 900) : PlB 4 (.list (zs.map spanD)) := .inr ⟨_, .inl rfl, by rw [List.length_map]; exact h, fun d hd => by
  obtain ⟨z, _, rfl⟩ := List.mem_map.mp hd
  refine .inr ⟨_, .inr rfl, by show 2 ≤ 900; decide, fun d hd => ?_⟩
  have : d = .str z.2.1 ∨ d = .str z.2.2 := by simpa using hd
  rcases this with h | h <;> rw [h] <;> exact plb_up (plb0s _)⟩
theorem spans_data {us ws : List Sp3} (h : us.map (·.2) = ws.map (·.2)) : us.map spanD = ws.map spanD := by
  have : ∀ l : List Sp3, l.map spanD = (l.map (·.2)).map (fun p => PyData.tuple [.str p.1, .str p.2]) := fun l => by rw [List.map_map]; rfl
  rw [this, this, h]
section
variable {P : Program} {w : World} {K : PySem.W.Frag} {mg : Str → Option Value} {base : Heap}
theorem ok_law {f C CS : Addr} {fd : FuncData} (F : Fun K "law" "law" s_law f fd) (B : Blt mg) (X : Txt mg) (TS : ShCls K CS) (T : LdCls K C) (M_Shelf : mg "Shelf" = some (.ref CS)) (M_Ledger : mg "Ledger" = some (.ref C)) (A_sinit : MakeAt K CS "Shelf.__init__" s_Shelf___init__ ["self"]) (A_linit : MakeAt K C "Ledger.__init__" s_Ledger___init__ ["self", "spans"])
    (A_apply : MethAt K C "apply" "Ledger.apply" s_Ledger_apply ["self", "command"]) (A_do_cut : MethAt K C "do_cut" "Ledger.do_cut" s_Ledger_do_cut ["self", "key"]) (A_do_join : MethAt K C "do_join" "Ledger.do_join" s_Ledger_do_join ["self", "key"]) (A_owned : MethAt K C "owned" "Ledger.owned" s_Ledger_owned ["self"])
    (A_do_open : MethAt K C "do_open" "Ledger.do_open" s_Ledger_do_open ["self", "deal", "ops"]) (A_do_choose : MethAt K C "do_choose" "Ledger.do_choose" s_Ledger_do_choose ["self", "deal", "verdict"])
    (A_do_ready : MethAt K C "do_ready" "Ledger.do_ready" s_Ledger_do_ready ["self", "deal", "ops", "moment"]) (A_do_over : MethAt K C "do_over" "Ledger.do_over" s_Ledger_do_over ["self", "deal", "verdict"]) (A_do_mark : MethAt K C "do_mark" "Ledger.do_mark" s_Ledger_do_mark ["self", "moment"])
    (A_do_give : MethAt K C "do_give" "Ledger.do_give" s_Ledger_do_give ["self", "move", "low", "group", "moment"]) (A_do_take : MethAt K C "do_take" "Ledger.do_take" s_Ledger_do_take ["self", "move", "low", "high", "moment", "rows"])
    (A_has_key : DefAt K mg "has_key" s_has_key ["span", "key"]) (A_span_with : DefAt K mg "span_with" s_span_with ["spans", "key"]) (A_can_cut : DefAt K mg "can_cut" s_can_cut ["span", "key"]) (A_cut_at : DefAt K mg "cut_at" s_cut_at ["spans", "key"]) (A_joined_at : DefAt K mg "joined_at" s_joined_at ["spans", "key"])
    (A_drawn : DefAt K mg "_law_drawn" s_drawn ["_law_script"]) (A_pick : DefAt K mg "_law_pick" s_pick ["_law_draw", "_law_many"]) (A_key : DefAt K mg "_law_key" s_key ["_law_draw"]) (A_keys : DefAt K mg "_law_keys" s_keys ["_law_draw"]) (A_spans : DefAt K mg "_law_spans" s_spans ["_law_draw", "_law_keys_here", "_law_often"])
    (A_has : DefAt K mg "_law_has" s_has ["_law_span", "_law_key_here"]) (A_lowns : DefAt K mg "_law_owns" s_owns ["_law_spans_here", "_law_key_here"]) (A_same : DefAt K mg "_law_same" s_same ["_law_found", "_law_due"]) (A_bound : DefAt K mg "_law_do_bound" s_do_bound ["_law_made", "_law_word", "_law_key_here"]) (A_kown : DefAt K mg "_law_keys_owned" s_keys_owned ["_law_ledger", "_law_spans_here", "_law_keys_here"]) :
    FnOk P w K mg base CX0 9 f fd ["_law_script"] (spLaw K) := by
  have L_Ledger := T.cl
  have D_Shelf : MakeOk P w K mg base 1 CS ["self"] (spShInit CS) := A_sinit.ok fun _ _ F => ok_sh_init F TS
  have D_Ledger : MakeOk P w K mg base 3 C ["self", "spans"] (spLedInit C CS) := A_linit.ok fun _ _ F => ok_led_init F B T D_Shelf M_Shelf
  have D_has_key : DefOk P w K mg base 1 "has_key" ["span", "key"] (spHas K) := A_has_key.ok fun _ _ F => ok_has_key F
  have D_span_with : DefOk P w K mg base 2 "span_with" ["spans", "key"] spSpanWith := A_span_with.ok fun _ _ F => ok_span_with F D_has_key
  have D_can_cut : DefOk P w K mg base 2 "can_cut" ["span", "key"] (spCan K) := A_can_cut.ok fun _ _ F => ok_can_cut F B X D_has_key
  have D_cut_at : DefOk P w K mg base 3 "cut_at" ["spans", "key"] (spCut4 canB) := A_cut_at.ok fun _ _ F => ok_cut_at F D_can_cut
  have D_joined_at : DefOk P w K mg base 1 "joined_at" ["spans", "key"] (spMade joinL fun _ _ => True) := A_joined_at.ok fun _ _ F => ok_joined_at F
  have D_Ledger_do_cut : MethOk P w K mg base 4 C "do_cut" ["self", "key"] (spLedCut C CS) := A_do_cut.ok fun _ _ F => ok_led_cut F T D_span_with D_can_cut D_cut_at
  have D_Ledger_do_join : MethOk P w K mg base 2 C "do_join" ["self", "key"] (spLedJoin C CS) := A_do_join.ok fun _ _ F => ok_led_join F B T D_joined_at
  have D_Ledger_apply : MethOk P w K mg base 5 C "apply" ["self", "command"] (spApply17 C CS) := A_apply.ok fun _ _ F => ok_led_apply17 F T D_Ledger_do_cut D_Ledger_do_join A_do_open.no A_do_choose.no A_do_ready.no A_do_over.no A_do_mark.no A_do_give.no A_do_take.no
  have D_Ledger_owned : MethOk P w K mg base 1 C "owned" ["self"] (spLedOwned C CS) := A_owned.ok fun _ _ F => ok_led_owned F B T
  have D_pick : DefOk P w K mg base 1 "_law_pick" ["_law_draw", "_law_many"] spPickW := A_pick.ok fun _ _ F => ok_pickW F B
  have D_drawn : DefOk P w K mg base 1 "_law_drawn" ["_law_script"] (spDrawn K) := A_drawn.ok fun _ _ F => ok_drawn F B
  have D_key : DefOk P w K mg base 2 "_law_key" ["_law_draw"] spKeyW := A_key.ok fun _ _ F => ok_keyW F B D_pick
  have D_keys : DefOk P w K mg base 3 "_law_keys" ["_law_draw"] spKeysW := A_keys.ok fun _ _ F => ok_keysW F B D_pick D_key
  have D_spans : DefOk P w K mg base 2 "_law_spans" ["_law_draw", "_law_keys_here", "_law_often"] spSpansW := A_spans.ok fun _ _ F => ok_spansW F B D_pick
  have D_has : DefOk P w K mg base 1 "_law_has" ["_law_span", "_law_key_here"] (spHas K) := A_has.ok fun _ _ F => ok_hasW F
  have D_owns : DefOk P w K mg base 2 "_law_owns" ["_law_spans_here", "_law_key_here"] spOwnsW := A_lowns.ok fun _ _ F => ok_ownsW F B D_has
  have D_same : DefOk P w K mg base 6 "_law_same" ["_law_found", "_law_due"] (spSameB K 4) := by
    obtain ⟨f', fd', F', hm, hb⟩ := A_same
    exact ⟨f', fd', ok_same F' B hm hb 4, hm, F'.kp, hb⟩
  have D_do_bound : DefOk P w K mg base 3 "_law_do_bound" ["_law_made", "_law_word", "_law_key_here"] spBoundW := A_bound.ok fun _ _ F => ⟨fun vs H Q E h => (ok_bound17 (P := P) (w := w) (base := base) F B D_has D_owns).len vs H Q E (boundW h), fun A outer s H args us vs Q E r1 r2 r3 r4 h => (ok_bound17 (P := P) (w := w) (base := base) F B D_has D_owns).run A outer s H args us vs Q E r1 r2 r3 r4 (boundW h)⟩
  have D_keys_owned : DefOk P w K mg base 3 "_law_keys_owned" ["_law_ledger", "_law_spans_here", "_law_keys_here"] (spKeysOwned C CS) := A_kown.ok fun _ _ F => ok_keys_owned F T.cl D_Ledger_owned D_owns
  refine F.ok sc_law (fun vs H Q E h => ?_) (fun cdv A outer s H vs Q E hr h => ?_)
  · obtain ⟨a, ns, rfl, _⟩ := h
    rfl
  · obtain ⟨a0, ns, rfl, hS, hl, q⟩ := h
    have hu := hu_of hr
    refine ⟨_, pss_cons (ps_set (i := 1) sc_law.nd rfl (Or.inl rfl) (pe_def D_drawn (hr.mono (by omega)) (by rfl) (pa_cons (pv 0) pa_nil)))
    (pss_cons (ps_set (i := 2) sc_law.nd rfl (Or.inl rfl) (pe_def D_keys (hr.mono (by omega)) (by rfl) (pa_cons (pv 1) pa_nil)))
    (pss_cons (ps_set (i := 3) sc_law.nd rfl (Or.inl rfl) (pe_def D_spans (hr.mono (by omega)) (by rfl) (pa_cons (pv 1) (pa_cons (pv 2) (pa_cons pe_int pa_nil)))))
    (pss_cons (ps_set (i := 4) sc_law.nd rfl (Or.inl rfl) (pe_mk D_Ledger M_Ledger (hr.mono (by omega)) (by rfl) (pa_cons (pv 3) pa_nil)))
    (pss_cons (ps_set (i := 5) sc_law.nd rfl (Or.inl rfl) (pe_callTy call_list_of (by rfl) B.list (by decide +kernel) (pa_cons (pv 3) pa_nil)))
    (pss_cons (ps_set (i := 6) sc_law.nd rfl (Or.inl rfl) (pe_disp (pps_cons pe_str (pe_callTy call_list_of (by rfl) B.list (by decide +kernel) (pa_cons (pv 3) pa_nil)) pps_nil) (by rfl) (by rfl) (fun z => by cases z) (by decide)))
    (pss_cons (ps_for PassesOwn.never rfl (pi_range1 (by rfl) B.range (pa_cons (pe_def D_pick (hr.mono (by omega)) (by rfl) (pa_cons (pv 1) (pa_cons pe_int pa_nil))) pa_nil)) (pg_name (i := 7) sc_law.nd rfl (Or.inl rfl))
      (pss_cons (ps_set (i := 8) sc_law.nd rfl (Or.inl rfl) (pe_ix ix_list (pe_lst (pa_cons pe_str (pa_cons pe_str pa_nil))) (pe_def D_pick (hr.mono (by omega)) (by rfl) (pa_cons (pv 1) (pa_cons pe_int pa_nil))) (fun _ _ => rfl)))
      (pss_cons (ps_set (i := 9) sc_law.nd rfl (Or.inl rfl) (pe_ix ix_list (pv 2) (pe_def D_pick (hr.mono (by omega)) (by rfl) (pa_cons (pv 1) (pa_cons (pe_callB call_len_seq (by rfl) B.len (by decide +kernel) (pa_cons (pv 2) pa_nil)) pa_nil))) (fun _ _ => rfl)))
      (pss_cons (ps_if (pt_not (pt_val (pe_def D_same (hr.mono (by omega)) (by rfl) (pa_cons (pe_mth L_Ledger D_Ledger_apply (hr.mono (by omega)) (pv 4) (pa_cons (pe_tup (pa_cons (pv 8) (pa_cons (pv 9) pa_nil))) pa_nil)) (pa_cons (pe_def D_do_bound (hr.mono (by omega)) (by rfl) (pa_cons (pv 6) (pa_cons (pv 8) (pa_cons (pv 9) pa_nil)))) pa_nil)))))
        (pss_one (ps_ret pe_bl)) pss_nil)
      (pss_cons (ps_set (i := 10) sc_law.nd rfl (Or.inl rfl) (pe_mth0 L_Ledger D_Ledger_owned (hr.mono (by omega)) (pv 4)))
      (pss_cons (ps_if (PW.pt (pw_or (pt_not (pt_val (pe_def D_same (hr.mono (by omega)) (by rfl) (pa_cons (pv 10) (pa_cons (pe_dget hu (pv 6) pe_str (fun _ _ => rfl)) pa_nil))))) (pw_or1 (pt_not (pt_val (pe_def D_keys_owned (hr.mono (by omega)) (by rfl) (pa_cons (pv 4) (pa_cons (pv 5) (pa_cons (pv 2) pa_nil)))))))))
        (pss_one (ps_ret pe_bl)) pss_nil)
      (pss_cons (ps_expr (pe_bm PySem.F.plainAttrs_list PySem.F.slot_list_append PySem.F.type_list_append mt_append (pv 10) (pa_cons (pe_tup (pa_cons pe_str (pa_cons pe_str pa_nil))) pa_nil)))
      (pss_one (ps_if (pt_not (pt_val (pe_def D_same (hr.mono (by omega)) (by rfl) (pa_cons (pe_mth0 L_Ledger D_Ledger_owned (hr.mono (by omega)) (pv 4)) (pa_cons (pe_dget hu (pv 6) pe_str (fun _ _ => rfl)) pa_nil)))))
        (pss_one (ps_ret pe_bl)) pss_nil)))))))))
    (pss_cons (ps_expr (pe_bm PySem.F.plainAttrs_list PySem.F.slot_list_append PySem.F.type_list_append mt_append (pv 3) (pa_cons (pe_tup (pa_cons pe_str (pa_cons pe_str pa_nil))) pa_nil)))
    (pss_one (ps_ret (pe_def D_same (hr.mono (by omega)) (by rfl) (pa_cons (pe_mth0 L_Ledger D_Ledger_owned (hr.mono (by omega)) (pv 4)) (pa_cons (pe_dget hu (pv 6) pe_str (fun _ _ => rfl)) pa_nil)))))))))))), ?_⟩
    refine ⟨_, rfl, a0, ns, rfl, hS, hl, fun d c cs H1 s1 nd D1 => ?_⟩
    refine ⟨_, rfl, d, c, cs, 0, rfl, D1, by decide, fun kl ks H2 hKL hkl D2 k2 nkl => ?_⟩
    refine ⟨_, rfl, _, rfl, d, c, cs, _, kl, ks, 8, rfl, D2, by decide, hkl, hKL, by decide, by decide, fun a zs H3 hSL hZ D3 k3 na => ?_⟩
    have hkl3 := k3 _ _ hkl (by obtain ⟨kvs, e⟩ := D2.is; exact ne_of hkl e (by intro z; cases z))
    have hzl : zs.length ≤ 30 := by
      obtain ⟨_, _, _, _, _, h⟩ := hSL
      exact h
    have hok : Ok17 (zs.map (·.2)) := ⟨good_spans hSL, fun p hp => by obtain ⟨z, hz, rfl⟩ := List.mem_map.mp hp; exact (hSL.keys z hz).1, fun p hp => by obtain ⟨z, hz, rfl⟩ := List.mem_map.mp hp; exact (hSL.keys z hz).2⟩
    -- Ledger(spans)
    refine ⟨_, rfl, fun p dx np ndx nepx => ?_⟩
    have u4 : Same H3 (upd (upd H3 dx (.own p)) p (.ins C dx [])) := fun b o e => by rw [upd_ne (ne_of_none e np), upd_ne (ne_of_none e ndx)]; exact e
    refine ⟨p, dx, a, zs, rfl, upd_same, hZ.same u4, by omega, fun aS aH dH aO aC aE aR aF aL aG aA H5 hL5 hfr kp5 => ⟨rfl, ?_⟩⟩
    have s35 : Same H3 H5 := fun b o e => kp5 b o (u4 b o e) (ne_of_none e np)
    have D5 := D3.same s35
    have hnew : ∀ b o, H3 b = some o → b ∉ aS :: mutL p (led0 aS zs aH dH aO aC aE aR aF aL aG aA) := fun b o e hm => by
      have e2 := hfr b hm (ne_of_none e np)
      rw [u4 _ _ e] at e2
      cases e2
    have hnd5 : d ∉ dicts (led0 aS zs aH dH aO aC aE aR aF aL aG aA) := fun hm => by
      obtain ⟨kvs, e⟩ := D3.is
      exact hnew d _ e (List.mem_cons_of_mem _ (List.mem_cons_of_mem _ (List.mem_cons_of_mem _ (List.mem_cons_of_mem _ hm))))
    have nas : a ≠ aS := fun z => hnew a _ hZ.ls (by rw [z]; exact List.mem_cons_self)
    have nag : a ≠ aG := fun z => hnew a _ hZ.ls (by rw [z]; exact List.mem_cons_of_mem _ (List.mem_cons_of_mem _ List.mem_cons_self))
    have naa : a ≠ aA := fun z => hnew a _ hZ.ls (by rw [z]; exact List.mem_cons_of_mem _ (List.mem_cons_of_mem _ (List.mem_cons_of_mem _ List.mem_cons_self)))
    -- handed
    have hZ5 := hZ.same s35
    refine ⟨_, rfl, a, _, rfl, .inl (SqL.of hZ5.ls), fun ha nha => ?_⟩
    have s6 := same_new (o := .lst (zs.map fun z : Sp3 => V.ref z.1)) nha
    have hH6 : SpansAt (upd H5 ha (.lst (zs.map fun z : Sp3 => V.ref z.1))) ha zs := ⟨upd_same, fun z hz => s6 _ _ (hZ5.tp z hz)⟩
    have s36 := s35.trans s6
    have hL6 := hL5.same s6
    generalize upd H5 ha (.lst (zs.map fun z : Sp3 => V.ref z.1)) = H6 at s6 s36 hH6 hL6
    -- made
    intro md nmd
    have s7 := same_new (o := .dK []) nmd
    have hmd7 : upd H6 md (.dK []) md = some (.dK []) := upd_same
    have hnm : md ∉ dicts (led0 aS zs aH dH aO aC aE aR aF aL aG aA) := fun hm => by
      obtain ⟨kvs, e⟩ := hL6.dict hm
      rw [nmd] at e
      cases e
    have D6 := D3.same s36
    have dmd : d ≠ md := (D6.ne nmd).symm
    have s37 := s36.trans s7
    have hL7 := hL6.same s7
    have hH7 := hH6.same s7
    generalize upd H6 md (.dK []) = H7 at s7 hmd7 s37 hL7 hH7
    have hZ7 := hZ.same s37
    refine ⟨_, rfl, a, _, rfl, .inl (SqL.of hZ7.ls), fun lm nlm => ?_⟩
    have s8 := same_new (o := .lst (zs.map fun z : Sp3 => V.ref z.1)) nlm
    have hU8 : SpansAt (upd H7 lm (.lst (zs.map fun z : Sp3 => V.ref z.1))) lm zs := ⟨upd_same, fun z hz => s8 _ _ (hZ7.tp z hz)⟩
    have alm : a ≠ lm := ne_of_none hZ7.ls nlm
    have hmd8 := s8 _ _ hmd7
    have hL8 := hL7.same s8
    have hH8 := hH7.same s8
    have s38 := s37.trans s8
    generalize upd H7 lm (.lst (zs.map fun z : Sp3 => V.ref z.1)) = H8 at s8 hU8 hmd8 hL8 hH8 s38
    refine ⟨hmd8, [(tk "spans", V.ref lm)], rfl, by show 1 ≤ 15; decide, ?_⟩
    have k9 : Keep md H8 (upd H8 md (.dK (dkv V.ref [(("spans" : Str), lm)]))) := fun b o hb n => by rw [upd_ne n]; exact hb
    have nx8 := dict_no hmd8
    have hkl8 := s38 _ _ hkl3
    have D8 := D3.same s38
    obtain ⟨kvd, hkvd⟩ := D8.is
    have S9 : S17 C CS (upd H8 md (.dK (dkv V.ref [(("spans" : Str), lm)]))) d kl a p ha md ks zs (led0 aS zs aH dH aO aC aE aR aF aL aG aA) lm zs := ⟨hL8.keepD k9 ⟨_, hmd8⟩ hnm, k9 _ _ hkl8 (ne_of hkl8 hmd8 (by intro z; cases z)), (hZ.same s38).keepX k9 nx8, hH8.keepX k9 nx8, upd_same, hU8.keepX k9 nx8, rfl, hok, fun x => rfl, dmd, hnd5, hnm, ⟨kvd, k9 _ _ hkvd dmd⟩, nas, nag, naa, alm⟩
    have D9 : DrawAt (upd H8 md (.dK (dkv V.ref [(("spans" : Str), lm)]))) d c cs (0 + 6000 + 2000) := D8.upd dmd.symm (ne_of hmd8 D8.cells (by intro z; cases z))
    have eM : mergeK [] [(tk "spans", V.ref lm)] = dkv V.ref [(("spans" : Str), lm)] := rfl
    rw [eM]
    generalize upd H8 md (.dK (dkv V.ref [(("spans" : Str), lm)])) = H9 at k9 S9 D9
    generalize hm0 : led0 aS zs aH dH aO aC aE aR aF aL aG aA = m0 at S9
    have hm1 : m0.zs = zs := by rw [← hm0]; rfl
    clear hm0 hL5 hL6 hL7 hL8 hnd5 hnm hfr kp5 hnew hH6 hH7 hH8 hU8 hZ7 nx8 hkl8
    refine ⟨_, rfl, d, c, cs, _, 41, rfl, D9, by decide, by decide, by decide, fun cnt H10 c0 c1 D10 k10 => ?_⟩
    have S10 := S9.keep k10 D10.is
    have hkl1 := hKL.one
    have hkl2 := hKL.few
    refine ⟨cnt, rfl, by omega, by omega, for_range (lo := 0) (n := cnt.toNat) (fun i σ H' => ∃ v7 v8 v9 v10 m lm um, σ = [some (.ref a0), some (.ref d), some (.ref kl), some (.ref a), some (.ref p), some (.ref ha), some (.ref md), v7, v8, v9, v10] ∧ S17 C CS H' d kl a p ha md ks zs m lm um ∧ DrawAt H' d c cs (9000 + 200 * i) ∧ m.zs.length ≤ 30 + i) ?_ ?_ ?_⟩
    · exact ⟨none, none, none, none, m0, lm, zs, rfl, S10, D10.mono (by omega), by rw [hm1]; omega⟩
    · rintro i σ H11 hi ⟨v7, v8, v9, v10, m, lm, um, rfl, S11, D11, hml⟩
      have hi41 : i ≤ 41 := by omega
      -- the word
      refine ⟨by show 2 ≤ sizeLine; decide, fun lw nlw => ?_⟩
      have s12 := same_new (o := .lst [V.str "cut", V.str "join"]) nlw
      have hlw : upd H11 lw (.lst [V.str "cut", V.str "join"]) lw = some (.lst [V.str "cut", V.str "join"]) := upd_same
      have S12 := S11.same s12
      have D12 := D11.same s12
      generalize upd H11 lw (.lst [V.str "cut", V.str "join"]) = H12 at s12 hlw S12 D12
      refine ⟨_, rfl, d, c, cs, _, 2, rfl, D12, by decide, by decide, by omega, fun x1 H13 x10 x11 D13 k13 => ?_⟩
      have S13' := S12.keep k13 D13.is
      obtain ⟨w', hw', hat⟩ := at_list (xs := [V.str "cut", V.str "join"]) x10 (by show x1 < 2; exact x11)
      obtain ⟨w, rfl, hw⟩ : ∃ w : Str, w' = .str w ∧ (w = "cut" ∨ w = "join") := by
        have : w' = .str "cut" ∨ w' = .str "join" := by simpa using hw'
        rcases this with h | h
        · exact ⟨_, h, .inl rfl⟩
        · exact ⟨_, h, .inr rfl⟩
      have hlw13 := k13 _ _ hlw (by obtain ⟨kv, e⟩ := D12.is; exact ne_of hlw e (by intro z; cases z))
      refine ⟨lw, _, _, _, rfl, rfl, SqL.of hlw13, hat, ?_⟩
      -- the key
      refine ⟨_, rfl, _, rfl, _, rfl, kl, _, rfl, .inl (SqL.of S13'.kl), d, c, cs, _, _, rfl, D13, by rw [List.length_map]; omega, by rw [List.length_map]; omega, by omega, fun x2 H14 x20 x21 D14 k14 => ?_⟩
      have S14 := S13'.keep k14 D14.is
      obtain ⟨k', hk', hat2⟩ := at_list (xs := ks.map V.str) x20 x21
      obtain ⟨k, hkm, rfl⟩ := List.mem_map.mp hk'
      have hk : IsKey k := hKL.key k hkm
      refine ⟨kl, _, _, _, rfl, rfl, SqL.of S14.kl, hat2, ?_⟩
      -- the command
      obtain ⟨dx14, ho14⟩ := S14.led.ob
      refine ⟨_, rfl, p, dx14, _, rfl, ho14, ledF_no m (by decide +kernel), _, rfl, _, rfl, by show 2 ≤ sizeLine; decide, fun t nt => ?_⟩
      have s15 := same_new (o := .tup [V.str w, V.str k]) nt
      have ht : upd H14 t (.tup [V.str w, V.str k]) t = some (.tup [V.str w, V.str k]) := upd_same
      have S15 := S14.same s15
      have D15 := D14.same s15
      generalize upd H14 t (.tup [V.str w, V.str k]) = H15 at s15 ht S15 D15
      obtain ⟨ok', len', own'⟩ := keyor_step (w := w) S15.ok hk
      refine ⟨p, t, m, w, k, rfl, S15.led, by omega, S15.ok, ht, hw, fun H16 hst => ?_⟩
      have hst0 := hst
      obtain ⟨a1, ws1, _, _, _, k16⟩ := hst0
      obtain ⟨dx15, ho15⟩ := S15.led.ob
      have np15 := ins_no ho15
      have hul : um.length = m.zs.length := by
        have := congrArg List.length S15.eu
        rw [List.length_map, List.length_map] at this
        exact this
      refine ⟨_, rfl, _, rfl, _, rfl, md, w, k, lm, um, rfl, k16 _ _ S15.hmd (ne_of S15.hmd ho15 (by intro z; cases z)), S15.hum.keepX k16 np15, by omega, by rw [S15.eu]; exact S15.ok, hk, hw, fun lm' um' H17 he17 hU17 eu17 fr17 k17 => ?_⟩
      rw [S15.eu] at eu17 ⊢
      obtain ⟨m', S17', D17, em'⟩ := S15.step D15 hst he17 hU17 eu17 fr17 k17 ok' own'
      refine ⟨_, _, .str _, rfl, .str _, .str _, plb_up (plb0s _), fun H18 s18 => ⟨_, rfl, iteF ?_⟩⟩
      have S18 := S17'.same s18
      have D18 := D17.same s18
      have hml' : m'.zs.length ≤ 30 + (i + 1) := by
        have := congrArg List.length em'
        rw [List.length_map] at this
        rw [List.length_map] at len'
        omega
      clear S17' D17 hst
      -- found
      obtain ⟨dx18, ho18⟩ := S18.led.ob
      refine ⟨_, rfl, p, dx18, _, rfl, ho18, ledF_no m' (by decide +kernel), p, m', rfl, S18.led, fun l H19 nl hSp s19 => ?_⟩
      have S19 := S18.same s19
      have hdg : ∀ {H' : Hp}, Same H18 H' → DGet H' md (.str "spans") (some (V.ref lm')) := fun sm => by
        have := dget_dkv ("spans" : Str) ((S18.same sm).hmd)
        rw [get_spans] at this
        exact this
      have edata : um'.map spanD = m'.zs.map spanD := spans_data S18.eu
      have hpl : PlB 4 (.list (m'.zs.map spanD)) := pl_spansB (by omega)
      refine ⟨_, rfl, _, rfl, md, _, rfl, hdg s19, _, _, .list (m'.zs.map spanD), rfl, dp_spans hSp, by rw [← edata]; exact dp_spans S19.hum, hpl, fun H20 s20 => ⟨_, rfl, iteF ?_⟩⟩
      have S20 := S19.same s20
      refine ⟨_, rfl, _, rfl, _, rfl, p, ha, kl, m', zs, ks, rfl, S20.led, by omega, S20.hs, by omega, S20.kl, S20.own, fun H21 s21 => ⟨_, rfl, iteF ?_⟩⟩
      have hSp21 := (hSp.same s20).same s21
      have s1821 := s19.trans (s20.trans s21)
      -- found.append
      refine ⟨_, rfl, .inl ⟨rfl, _, SqL.of hSp21.ls⟩, by show 2 ≤ sizeLine; decide, fun t2 nt2 => ?_⟩
      have s22 := same_new (o := .tup [V.str "more", V.str ""]) nt2
      refine ⟨l, _, _, rfl, rfl, s22 _ _ hSp21.ls, small1000 (by rw [List.length_map]; omega), ?_⟩
      have s1822 : Same H18 (upd (upd H21 t2 (.tup [V.str "more", V.str ""])) l (.lst ((m'.zs.map fun z : Sp3 => V.ref z.1) ++ [V.ref t2]))) := same_mut (s1821.trans s22) nl
      generalize upd (upd H21 t2 (.tup [V.str "more", V.str ""])) l (.lst ((m'.zs.map fun z : Sp3 => V.ref z.1) ++ [V.ref t2])) = H22 at s1822
      have S22 := S18.same s1822
      obtain ⟨dx22, ho22⟩ := S22.led.ob
      refine ⟨_, rfl, p, dx22, _, rfl, ho22, ledF_no m' (by decide +kernel), p, m', rfl, S22.led, fun l3 H23 nl3 hSp3 s23 => ?_⟩
      have S23 := S22.same s23
      refine ⟨_, rfl, md, _, rfl, hdg (s1822.trans s23), _, _, .list (m'.zs.map spanD), rfl, dp_spans hSp3, by rw [← edata]; exact dp_spans S23.hum, hpl, fun H24 s24 => ⟨_, rfl, iteF ?_⟩⟩
      exact ⟨_, _, _, _, m', lm', um', rfl, S23.same s24, ((D18.same s1822).same (s23.trans s24)).mono (by omega), hml'⟩
    · rintro σ H11 ⟨v7, v8, v9, v10, m, lm, um, rfl, S11, D11, hml⟩
      have hcn : m.zs.length ≤ 400 := by omega
      -- spans.append
      refine ⟨_, rfl, .inl ⟨rfl, _, SqL.of S11.sp.ls⟩, by show 2 ≤ sizeLine; decide, fun t2 nt2 => ?_⟩
      have s12 := same_new (o := .tup [V.str "more", V.str ""]) nt2
      have S12 := S11.same s12
      generalize upd H11 t2 (.tup [V.str "more", V.str ""]) = H12 at s12 S12
      refine ⟨a, _, _, rfl, rfl, S12.sp.ls, small1000 (by rw [List.length_map]; omega), ?_⟩
      have kp : ∀ b o, H12 b = some o → b ≠ a → upd H12 a (.lst ((zs.map fun z : Sp3 => V.ref z.1) ++ [V.ref t2])) b = some o := fun b o hb n => by rw [upd_ne n]; exact hb
      have hL13 := S12.led.apartL ⟨_, S12.sp.ls⟩ S12.nas S12.ag S12.aa kp
      have hmd13 := kp _ _ S12.hmd (ne_of S12.hmd S12.sp.ls (by intro z; cases z))
      have hum13 : SpansAt (upd H12 a (.lst ((zs.map fun z : Sp3 => V.ref z.1) ++ [V.ref t2]))) lm um := ⟨kp _ _ S12.hum.ls S12.alm.symm, fun z hz => kp _ _ (S12.hum.tp z hz) (ne_of (S12.hum.tp z hz) S12.sp.ls (by intro z; cases z))⟩
      generalize upd H12 a (.lst ((zs.map fun z : Sp3 => V.ref z.1) ++ [V.ref t2])) = H13 at kp hL13 hmd13 hum13
      obtain ⟨dx13, ho13⟩ := hL13.ob
      refine ⟨_, rfl, p, dx13, _, rfl, ho13, ledF_no m (by decide +kernel), p, m, rfl, hL13, fun l3 H14 nl3 hSp3 s14 => ?_⟩
      have hdg := dget_dkv ("spans" : Str) (s14 _ _ hmd13)
      rw [get_spans] at hdg
      exact ⟨_, rfl, md, _, rfl, hdg, _, _, .list (m.zs.map spanD), rfl, dp_spans hSp3, by rw [← spans_data S12.eu]; exact dp_spans (hum13.same s14), pl_spansB (by omega), fun H15 s15 => q H15⟩
end
theorem all_mk {l : PySem.W.OpenLaw} {w : World} {K : PySem.W.Frag} {h : Heap} {mg : Str → Option Value} {fa f0 f1 f2 f3 f4 f5 f6 f7 f8 f9 f10 f11 f12 f13 f14 f15 fm0 fm1 fm2 fm3 fm4 fm5 fm6 fm7 fm8 fm9 fm10 fm11 fm12 C_Shelf C_Ledger : Addr} (X : K.In h) (G : h.Ns mainGlobals mg) (hfa : mg "law" = some (.ref fa))
    {od0 an0 od1 an1 od2 an2 od3 an3 od4 an4 od5 an5 od6 an6 od7 an7 od8 an8 od9 an9 od10 an10 od11 an11 od12 an12 od13 an13 od14 an14 od15 an15 odm0 anm0 odm1 anm1 odm2 anm2 odm3 anm3 odm4 anm4 odm5 anm5 odm6 anm6 odm7 anm7 odm8 anm8 odm9 anm9 odm10 anm10 odm11 anm11 odm12 anm12 : Option Addr} {sl0 sl1 sl2 sl3 sl4 sl5 sl6 sl7 sl8 sl9 sl10 sl11 sl12 sl13 sl14 sl15 slm0 slm1 slm2 slm3 slm4 slm5 slm6 slm7 slm8 slm9 slm10 slm11 slm12 : Array (Option Value)} {oc0 kV0 dc0 pm0 cd0 ct0 oc1 kV1 dc1 pm1 cd1 ct1 oc2 kV2 dc2 pm2 cd2 ct2 oc3 kV3 dc3 pm3 cd3 ct3 oc4 kV4 dc4 pm4 cd4 ct4 oc5 kV5 dc5 pm5 cd5 ct5 oc6 kV6 dc6 pm6 cd6 ct6 oc7 kV7 dc7 pm7 cd7 ct7 oc8 kV8 dc8 pm8 cd8 ct8 oc9 kV9 dc9 pm9 cd9 ct9 oc10 kV10 dc10 pm10 cd10 ct10 oc11 kV11 dc11 pm11 cd11 ct11 oc12 kV12 dc12 pm12 cd12 ct12 oc13 kV13 dc13 pm13 cd13 ct13 oc14 kV14 dc14 pm14 cd14 ct14 oc15 kV15 dc15 pm15 cd15 ct15 ocm0 kVm0 dcm0 pmm0 cdm0 ctm0 ocm1 kVm1 dcm1 pmm1 cdm1 ctm1 ocm2 kVm2 dcm2 pmm2 cdm2 ctm2 ocm3 kVm3 dcm3 pmm3 cdm3 ctm3 ocm4 kVm4 dcm4 pmm4 cdm4 ctm4 ocm5 kVm5 dcm5 pmm5 cdm5 ctm5 ocm6 kVm6 dcm6 pmm6 cdm6 ctm6 ocm7 kVm7 dcm7 pmm7 cdm7 ctm7 ocm8 kVm8 dcm8 pmm8 cdm8 ctm8 ocm9 kVm9 dcm9 pmm9 cdm9 ctm9 ocm10 kVm10 dcm10 pmm10 cdm10 ctm10 ocm11 kVm11 dcm11 pmm11 cdm11 ctm11 ocm12 kVm12 dcm12 pmm12 cdm12 ctm12 : Value}
    (aC_Shelf : PySem.W.nsIn K mainGlobals "Shelf" = some (some (.ref C_Shelf)))
    (pg_Shelf : PySem.W.plainGet K C_Shelf Str.empty = true) (hd_Shelf : PySem.W.hasDictIn K C_Shelf = true) (po_Shelf : PySem.W.plainOver K C_Shelf = true)
    (sa_Shelf : PySem.W.findIn K (.ref C_Shelf) "__setattr__" = some (some (.builtin "object.__setattr__"))) (mk_Shelf : PySem.W.makesIn K C_Shelf = true) (kc_Shelf : PySem.W.keepIn K (.ref C_Shelf) = true)
    (nF_Shelf_pages : PySem.W.findIn K (.ref C_Shelf) "pages" = some none)
    (aC_Ledger : PySem.W.nsIn K mainGlobals "Ledger" = some (some (.ref C_Ledger)))
    (pg_Ledger : PySem.W.plainGet K C_Ledger Str.empty = true) (hd_Ledger : PySem.W.hasDictIn K C_Ledger = true) (po_Ledger : PySem.W.plainOver K C_Ledger = true)
    (sa_Ledger : PySem.W.findIn K (.ref C_Ledger) "__setattr__" = some (some (.builtin "object.__setattr__"))) (mk_Ledger : PySem.W.makesIn K C_Ledger = true) (kc_Ledger : PySem.W.keepIn K (.ref C_Ledger) = true)
    (nF_Ledger_spans : PySem.W.findIn K (.ref C_Ledger) "spans" = some none)
    (nF_Ledger_shelf : PySem.W.findIn K (.ref C_Ledger) "shelf" = some none)
    (nF_Ledger_latest : PySem.W.findIn K (.ref C_Ledger) "latest" = some none)
    (nF_Ledger_all_opened : PySem.W.findIn K (.ref C_Ledger) "all_opened" = some none)
    (nF_Ledger_all_chosen : PySem.W.findIn K (.ref C_Ledger) "all_chosen" = some none)
    (nF_Ledger_all_ended : PySem.W.findIn K (.ref C_Ledger) "all_ended" = some none)
    (nF_Ledger_now_ready : PySem.W.findIn K (.ref C_Ledger) "now_ready" = some none)
    (nF_Ledger_now_refused : PySem.W.findIn K (.ref C_Ledger) "now_refused" = some none)
    (nF_Ledger_holders : PySem.W.findIn K (.ref C_Ledger) "holders" = some none)
    (nF_Ledger_gifts : PySem.W.findIn K (.ref C_Ledger) "gifts" = some none)
    (nF_Ledger_arrivals : PySem.W.findIn K (.ref C_Ledger) "arrivals" = some none)
    (am0 : PySem.W.findIn K (.ref C_Shelf) "__init__" = some (some (.ref fm0))) (im0 : PySem.W.isFn K (.ref fm0) = true)
    (lm0 : K.lookup fm0 = some ⟨ocm0, odm0, .func (PySem.W.fnOf "__init__" "Shelf.__init__" (defArgs s_Shelf___init__) (defBody s_Shelf___init__) (defScope s_Shelf___init__) .none kVm0 dcm0 pmm0 anm0 cdm0 ctm0), slm0⟩)
    (cm0 : PySem.W.codeIn K cdm0 "Shelf.__init__" = true) (km0 : PySem.W.keepIn K (.ref fm0) = true)
    (am1 : PySem.W.findIn K (.ref C_Ledger) "__init__" = some (some (.ref fm1))) (im1 : PySem.W.isFn K (.ref fm1) = true)
    (lm1 : K.lookup fm1 = some ⟨ocm1, odm1, .func (PySem.W.fnOf "__init__" "Ledger.__init__" (defArgs s_Ledger___init__) (defBody s_Ledger___init__) (defScope s_Ledger___init__) .none kVm1 dcm1 pmm1 anm1 cdm1 ctm1), slm1⟩)
    (cm1 : PySem.W.codeIn K cdm1 "Ledger.__init__" = true) (km1 : PySem.W.keepIn K (.ref fm1) = true)
    (am2 : PySem.W.findIn K (.ref C_Ledger) "apply" = some (some (.ref fm2))) (im2 : PySem.W.isFn K (.ref fm2) = true)
    (lm2 : K.lookup fm2 = some ⟨ocm2, odm2, .func (PySem.W.fnOf "apply" "Ledger.apply" (defArgs s_Ledger_apply) (defBody s_Ledger_apply) (defScope s_Ledger_apply) .none kVm2 dcm2 pmm2 anm2 cdm2 ctm2), slm2⟩)
    (cm2 : PySem.W.codeIn K cdm2 "Ledger.apply" = true) (km2 : PySem.W.keepIn K (.ref fm2) = true)
    (am3 : PySem.W.findIn K (.ref C_Ledger) "do_cut" = some (some (.ref fm3))) (im3 : PySem.W.isFn K (.ref fm3) = true)
    (lm3 : K.lookup fm3 = some ⟨ocm3, odm3, .func (PySem.W.fnOf "do_cut" "Ledger.do_cut" (defArgs s_Ledger_do_cut) (defBody s_Ledger_do_cut) (defScope s_Ledger_do_cut) .none kVm3 dcm3 pmm3 anm3 cdm3 ctm3), slm3⟩)
    (cm3 : PySem.W.codeIn K cdm3 "Ledger.do_cut" = true) (km3 : PySem.W.keepIn K (.ref fm3) = true)
    (am4 : PySem.W.findIn K (.ref C_Ledger) "do_join" = some (some (.ref fm4))) (im4 : PySem.W.isFn K (.ref fm4) = true)
    (lm4 : K.lookup fm4 = some ⟨ocm4, odm4, .func (PySem.W.fnOf "do_join" "Ledger.do_join" (defArgs s_Ledger_do_join) (defBody s_Ledger_do_join) (defScope s_Ledger_do_join) .none kVm4 dcm4 pmm4 anm4 cdm4 ctm4), slm4⟩)
    (cm4 : PySem.W.codeIn K cdm4 "Ledger.do_join" = true) (km4 : PySem.W.keepIn K (.ref fm4) = true)
    (am5 : PySem.W.findIn K (.ref C_Ledger) "owned" = some (some (.ref fm5))) (im5 : PySem.W.isFn K (.ref fm5) = true)
    (lm5 : K.lookup fm5 = some ⟨ocm5, odm5, .func (PySem.W.fnOf "owned" "Ledger.owned" (defArgs s_Ledger_owned) (defBody s_Ledger_owned) (defScope s_Ledger_owned) .none kVm5 dcm5 pmm5 anm5 cdm5 ctm5), slm5⟩)
    (cm5 : PySem.W.codeIn K cdm5 "Ledger.owned" = true) (km5 : PySem.W.keepIn K (.ref fm5) = true)
    (am6 : PySem.W.findIn K (.ref C_Ledger) "do_open" = some (some (.ref fm6))) (im6 : PySem.W.isFn K (.ref fm6) = true)
    (lm6 : K.lookup fm6 = some ⟨ocm6, odm6, .func (PySem.W.fnOf "do_open" "Ledger.do_open" (defArgs s_Ledger_do_open) (defBody s_Ledger_do_open) (defScope s_Ledger_do_open) .none kVm6 dcm6 pmm6 anm6 cdm6 ctm6), slm6⟩)
    (cm6 : PySem.W.codeIn K cdm6 "Ledger.do_open" = true) (km6 : PySem.W.keepIn K (.ref fm6) = true)
    (am7 : PySem.W.findIn K (.ref C_Ledger) "do_choose" = some (some (.ref fm7))) (im7 : PySem.W.isFn K (.ref fm7) = true)
    (lm7 : K.lookup fm7 = some ⟨ocm7, odm7, .func (PySem.W.fnOf "do_choose" "Ledger.do_choose" (defArgs s_Ledger_do_choose) (defBody s_Ledger_do_choose) (defScope s_Ledger_do_choose) .none kVm7 dcm7 pmm7 anm7 cdm7 ctm7), slm7⟩)
    (cm7 : PySem.W.codeIn K cdm7 "Ledger.do_choose" = true) (km7 : PySem.W.keepIn K (.ref fm7) = true)
    (am8 : PySem.W.findIn K (.ref C_Ledger) "do_ready" = some (some (.ref fm8))) (im8 : PySem.W.isFn K (.ref fm8) = true)
    (lm8 : K.lookup fm8 = some ⟨ocm8, odm8, .func (PySem.W.fnOf "do_ready" "Ledger.do_ready" (defArgs s_Ledger_do_ready) (defBody s_Ledger_do_ready) (defScope s_Ledger_do_ready) .none kVm8 dcm8 pmm8 anm8 cdm8 ctm8), slm8⟩)
    (cm8 : PySem.W.codeIn K cdm8 "Ledger.do_ready" = true) (km8 : PySem.W.keepIn K (.ref fm8) = true)
    (am9 : PySem.W.findIn K (.ref C_Ledger) "do_over" = some (some (.ref fm9))) (im9 : PySem.W.isFn K (.ref fm9) = true)
    (lm9 : K.lookup fm9 = some ⟨ocm9, odm9, .func (PySem.W.fnOf "do_over" "Ledger.do_over" (defArgs s_Ledger_do_over) (defBody s_Ledger_do_over) (defScope s_Ledger_do_over) .none kVm9 dcm9 pmm9 anm9 cdm9 ctm9), slm9⟩)
    (cm9 : PySem.W.codeIn K cdm9 "Ledger.do_over" = true) (km9 : PySem.W.keepIn K (.ref fm9) = true)
    (am10 : PySem.W.findIn K (.ref C_Ledger) "do_mark" = some (some (.ref fm10))) (im10 : PySem.W.isFn K (.ref fm10) = true)
    (lm10 : K.lookup fm10 = some ⟨ocm10, odm10, .func (PySem.W.fnOf "do_mark" "Ledger.do_mark" (defArgs s_Ledger_do_mark) (defBody s_Ledger_do_mark) (defScope s_Ledger_do_mark) .none kVm10 dcm10 pmm10 anm10 cdm10 ctm10), slm10⟩)
    (cm10 : PySem.W.codeIn K cdm10 "Ledger.do_mark" = true) (km10 : PySem.W.keepIn K (.ref fm10) = true)
    (am11 : PySem.W.findIn K (.ref C_Ledger) "do_give" = some (some (.ref fm11))) (im11 : PySem.W.isFn K (.ref fm11) = true)
    (lm11 : K.lookup fm11 = some ⟨ocm11, odm11, .func (PySem.W.fnOf "do_give" "Ledger.do_give" (defArgs s_Ledger_do_give) (defBody s_Ledger_do_give) (defScope s_Ledger_do_give) .none kVm11 dcm11 pmm11 anm11 cdm11 ctm11), slm11⟩)
    (cm11 : PySem.W.codeIn K cdm11 "Ledger.do_give" = true) (km11 : PySem.W.keepIn K (.ref fm11) = true)
    (am12 : PySem.W.findIn K (.ref C_Ledger) "do_take" = some (some (.ref fm12))) (im12 : PySem.W.isFn K (.ref fm12) = true)
    (lm12 : K.lookup fm12 = some ⟨ocm12, odm12, .func (PySem.W.fnOf "do_take" "Ledger.do_take" (defArgs s_Ledger_do_take) (defBody s_Ledger_do_take) (defScope s_Ledger_do_take) .none kVm12 dcm12 pmm12 anm12 cdm12 ctm12), slm12⟩)
    (cm12 : PySem.W.codeIn K cdm12 "Ledger.do_take" = true) (km12 : PySem.W.keepIn K (.ref fm12) = true)
    (a0 : PySem.W.nsIn K mainGlobals "has_key" = some (some (.ref f0)))
    (l0 : K.lookup f0 = some ⟨oc0, od0, .func (PySem.W.fnOf "has_key" "has_key" (defArgs s_has_key) (defBody s_has_key) (defScope s_has_key) .none kV0 dc0 pm0 an0 cd0 ct0), sl0⟩)
    (c0 : PySem.W.codeIn K cd0 "has_key" = true) (k0 : PySem.W.keepIn K (.ref f0) = true)
    (a1 : PySem.W.nsIn K mainGlobals "span_with" = some (some (.ref f1)))
    (l1 : K.lookup f1 = some ⟨oc1, od1, .func (PySem.W.fnOf "span_with" "span_with" (defArgs s_span_with) (defBody s_span_with) (defScope s_span_with) .none kV1 dc1 pm1 an1 cd1 ct1), sl1⟩)
    (c1 : PySem.W.codeIn K cd1 "span_with" = true) (k1 : PySem.W.keepIn K (.ref f1) = true)
    (a2 : PySem.W.nsIn K mainGlobals "can_cut" = some (some (.ref f2)))
    (l2 : K.lookup f2 = some ⟨oc2, od2, .func (PySem.W.fnOf "can_cut" "can_cut" (defArgs s_can_cut) (defBody s_can_cut) (defScope s_can_cut) .none kV2 dc2 pm2 an2 cd2 ct2), sl2⟩)
    (c2 : PySem.W.codeIn K cd2 "can_cut" = true) (k2 : PySem.W.keepIn K (.ref f2) = true)
    (a3 : PySem.W.nsIn K mainGlobals "cut_at" = some (some (.ref f3)))
    (l3 : K.lookup f3 = some ⟨oc3, od3, .func (PySem.W.fnOf "cut_at" "cut_at" (defArgs s_cut_at) (defBody s_cut_at) (defScope s_cut_at) .none kV3 dc3 pm3 an3 cd3 ct3), sl3⟩)
    (c3 : PySem.W.codeIn K cd3 "cut_at" = true) (k3 : PySem.W.keepIn K (.ref f3) = true)
    (a4 : PySem.W.nsIn K mainGlobals "joined_at" = some (some (.ref f4)))
    (l4 : K.lookup f4 = some ⟨oc4, od4, .func (PySem.W.fnOf "joined_at" "joined_at" (defArgs s_joined_at) (defBody s_joined_at) (defScope s_joined_at) .none kV4 dc4 pm4 an4 cd4 ct4), sl4⟩)
    (c4 : PySem.W.codeIn K cd4 "joined_at" = true) (k4 : PySem.W.keepIn K (.ref f4) = true)
    (a5 : PySem.W.nsIn K mainGlobals "_law_drawn" = some (some (.ref f5)))
    (l5 : K.lookup f5 = some ⟨oc5, od5, .func (PySem.W.fnOf "_law_drawn" "_law_drawn" (defArgs s_drawn) (defBody s_drawn) (defScope s_drawn) .none kV5 dc5 pm5 an5 cd5 ct5), sl5⟩)
    (c5 : PySem.W.codeIn K cd5 "_law_drawn" = true) (k5 : PySem.W.keepIn K (.ref f5) = true)
    (a6 : PySem.W.nsIn K mainGlobals "_law_pick" = some (some (.ref f6)))
    (l6 : K.lookup f6 = some ⟨oc6, od6, .func (PySem.W.fnOf "_law_pick" "_law_pick" (defArgs s_pick) (defBody s_pick) (defScope s_pick) .none kV6 dc6 pm6 an6 cd6 ct6), sl6⟩)
    (c6 : PySem.W.codeIn K cd6 "_law_pick" = true) (k6 : PySem.W.keepIn K (.ref f6) = true)
    (a7 : PySem.W.nsIn K mainGlobals "_law_key" = some (some (.ref f7)))
    (l7 : K.lookup f7 = some ⟨oc7, od7, .func (PySem.W.fnOf "_law_key" "_law_key" (defArgs s_key) (defBody s_key) (defScope s_key) .none kV7 dc7 pm7 an7 cd7 ct7), sl7⟩)
    (c7 : PySem.W.codeIn K cd7 "_law_key" = true) (k7 : PySem.W.keepIn K (.ref f7) = true)
    (a8 : PySem.W.nsIn K mainGlobals "_law_keys" = some (some (.ref f8)))
    (l8 : K.lookup f8 = some ⟨oc8, od8, .func (PySem.W.fnOf "_law_keys" "_law_keys" (defArgs s_keys) (defBody s_keys) (defScope s_keys) .none kV8 dc8 pm8 an8 cd8 ct8), sl8⟩)
    (c8 : PySem.W.codeIn K cd8 "_law_keys" = true) (k8 : PySem.W.keepIn K (.ref f8) = true)
    (a9 : PySem.W.nsIn K mainGlobals "_law_spans" = some (some (.ref f9)))
    (l9 : K.lookup f9 = some ⟨oc9, od9, .func (PySem.W.fnOf "_law_spans" "_law_spans" (defArgs s_spans) (defBody s_spans) (defScope s_spans) .none kV9 dc9 pm9 an9 cd9 ct9), sl9⟩)
    (c9 : PySem.W.codeIn K cd9 "_law_spans" = true) (k9 : PySem.W.keepIn K (.ref f9) = true)
    (a10 : PySem.W.nsIn K mainGlobals "_law_has" = some (some (.ref f10)))
    (l10 : K.lookup f10 = some ⟨oc10, od10, .func (PySem.W.fnOf "_law_has" "_law_has" (defArgs s_has) (defBody s_has) (defScope s_has) .none kV10 dc10 pm10 an10 cd10 ct10), sl10⟩)
    (c10 : PySem.W.codeIn K cd10 "_law_has" = true) (k10 : PySem.W.keepIn K (.ref f10) = true)
    (a11 : PySem.W.nsIn K mainGlobals "_law_owns" = some (some (.ref f11)))
    (l11 : K.lookup f11 = some ⟨oc11, od11, .func (PySem.W.fnOf "_law_owns" "_law_owns" (defArgs s_owns) (defBody s_owns) (defScope s_owns) .none kV11 dc11 pm11 an11 cd11 ct11), sl11⟩)
    (c11 : PySem.W.codeIn K cd11 "_law_owns" = true) (k11 : PySem.W.keepIn K (.ref f11) = true)
    (a12 : PySem.W.nsIn K mainGlobals "_law_same" = some (some (.ref f12)))
    (l12 : K.lookup f12 = some ⟨oc12, od12, .func (PySem.W.fnOf "_law_same" "_law_same" (defArgs s_same) (defBody s_same) (defScope s_same) .none kV12 dc12 pm12 an12 cd12 ct12), sl12⟩)
    (c12 : PySem.W.codeIn K cd12 "_law_same" = true) (k12 : PySem.W.keepIn K (.ref f12) = true)
    (a13 : PySem.W.nsIn K mainGlobals "_law_do_bound" = some (some (.ref f13)))
    (l13 : K.lookup f13 = some ⟨oc13, od13, .func (PySem.W.fnOf "_law_do_bound" "_law_do_bound" (defArgs s_do_bound) (defBody s_do_bound) (defScope s_do_bound) .none kV13 dc13 pm13 an13 cd13 ct13), sl13⟩)
    (c13 : PySem.W.codeIn K cd13 "_law_do_bound" = true) (k13 : PySem.W.keepIn K (.ref f13) = true)
    (a14 : PySem.W.nsIn K mainGlobals "_law_keys_owned" = some (some (.ref f14)))
    (l14 : K.lookup f14 = some ⟨oc14, od14, .func (PySem.W.fnOf "_law_keys_owned" "_law_keys_owned" (defArgs s_keys_owned) (defBody s_keys_owned) (defScope s_keys_owned) .none kV14 dc14 pm14 an14 cd14 ct14), sl14⟩)
    (c14 : PySem.W.codeIn K cd14 "_law_keys_owned" = true) (k14 : PySem.W.keepIn K (.ref f14) = true)
    (a15 : PySem.W.nsIn K mainGlobals "law" = some (some (.ref f15)))
    (l15 : K.lookup f15 = some ⟨oc15, od15, .func (PySem.W.fnOf "law" "law" (defArgs s_law) (defBody s_law) (defScope s_law) .none kV15 dc15 pm15 an15 cd15 ct15), sl15⟩)
    (c15 : PySem.W.codeIn K cd15 "law" = true) (k15 : PySem.W.keepIn K (.ref f15) = true)
    (z0 : PySem.W.nsIn K mainGlobals "all" = some none)
    (z1 : PySem.W.nsIn K mainGlobals "any" = some none)
    (z2 : PySem.W.nsIn K mainGlobals "bool" = some none)
    (z3 : PySem.W.nsIn K mainGlobals "int" = some none)
    (z4 : PySem.W.nsIn K mainGlobals "isinstance" = some none)
    (z5 : PySem.W.nsIn K mainGlobals "len" = some none)
    (z6 : PySem.W.nsIn K mainGlobals "list" = some none)
    (z7 : PySem.W.nsIn K mainGlobals "max" = some none)
    (z8 : PySem.W.nsIn K mainGlobals "range" = some none)
    (z9 : PySem.W.nsIn K mainGlobals "sorted" = some none)
    (z10 : PySem.W.nsIn K mainGlobals "str" = some none)
    (z11 : PySem.W.nsIn K mainGlobals "tuple" = some none)
    (z12 : PySem.W.nsIn K mainGlobals "zip" = some none)
    {t0 : Tok} (y0 : PySem.W.nsIn K mainGlobals "LEAST_KEY" = some (some (.str "a" t0))) :
    ∃ fd : FuncData, (∀ (s : Shared) (v : Value), BindsTo s fd ⟨[v], []⟩ [("_law_script", v)]) ∧ ∀ base : Heap, K.In base → base.Ns mainGlobals mg → FnOk l.prog w K mg base CX0 9 fa fd ["_law_script"] (spLaw K) := by
  have e := hfa.symm.trans (PySem.W.mg_of X G a15)
  cases e
  have B : Blt mg := ⟨PySem.W.mg_none_of X G z0, PySem.W.mg_none_of X G z1, PySem.W.mg_none_of X G z2, PySem.W.mg_none_of X G z3, PySem.W.mg_none_of X G z4, PySem.W.mg_none_of X G z5, PySem.W.mg_none_of X G z6, PySem.W.mg_none_of X G z7, PySem.W.mg_none_of X G z8, PySem.W.mg_none_of X G z9, PySem.W.mg_none_of X G z10, PySem.W.mg_none_of X G z11, PySem.W.mg_none_of X G z12⟩
  have T : Txt mg := ⟨⟨_, PySem.W.mg_of X G y0⟩⟩
  have L_Shelf : Cls K C_Shelf := ⟨pg_Shelf, hd_Shelf, po_Shelf, sa_Shelf⟩
  have M_Shelf := PySem.W.mg_of X G aC_Shelf
  have L_Ledger : Cls K C_Ledger := ⟨pg_Ledger, hd_Ledger, po_Ledger, sa_Ledger⟩
  have M_Ledger := PySem.W.mg_of X G aC_Ledger
  have Fm0 := fun_mk (st := s_Shelf___init__) lm0 cm0 km0
  have bm0 := Fm0.binds (ps := ["self"]) fun _ _ _ _ _ _ us hl => match us, hl with | [_], _ => rfl
  have A_Shelf___init__ : MakeAt K C_Shelf "Shelf.__init__" s_Shelf___init__ ["self"] := ⟨_, _, Fm0, ⟨mk_Shelf, am0, im0, kc_Shelf⟩, bm0⟩
  have Fm1 := fun_mk (st := s_Ledger___init__) lm1 cm1 km1
  have bm1 := Fm1.binds (ps := ["self", "spans"]) fun _ _ _ _ _ _ us hl => match us, hl with | [_, _], _ => rfl
  have A_Ledger___init__ : MakeAt K C_Ledger "Ledger.__init__" s_Ledger___init__ ["self", "spans"] := ⟨_, _, Fm1, ⟨mk_Ledger, am1, im1, kc_Ledger⟩, bm1⟩
  have Fm2 := fun_mk (st := s_Ledger_apply) lm2 cm2 km2
  have bm2 := Fm2.binds (ps := ["self", "command"]) fun _ _ _ _ _ _ us hl => match us, hl with | [_, _], _ => rfl
  have A_Ledger_apply : MethAt K C_Ledger "apply" "Ledger.apply" s_Ledger_apply ["self", "command"] := ⟨_, _, Fm2, ⟨am2, im2, km2⟩, bm2⟩
  have Fm3 := fun_mk (st := s_Ledger_do_cut) lm3 cm3 km3
  have bm3 := Fm3.binds (ps := ["self", "key"]) fun _ _ _ _ _ _ us hl => match us, hl with | [_, _], _ => rfl
  have A_Ledger_do_cut : MethAt K C_Ledger "do_cut" "Ledger.do_cut" s_Ledger_do_cut ["self", "key"] := ⟨_, _, Fm3, ⟨am3, im3, km3⟩, bm3⟩
  have Fm4 := fun_mk (st := s_Ledger_do_join) lm4 cm4 km4
  have bm4 := Fm4.binds (ps := ["self", "key"]) fun _ _ _ _ _ _ us hl => match us, hl with | [_, _], _ => rfl
  have A_Ledger_do_join : MethAt K C_Ledger "do_join" "Ledger.do_join" s_Ledger_do_join ["self", "key"] := ⟨_, _, Fm4, ⟨am4, im4, km4⟩, bm4⟩
  have Fm5 := fun_mk (st := s_Ledger_owned) lm5 cm5 km5
  have bm5 := Fm5.binds (ps := ["self"]) fun _ _ _ _ _ _ us hl => match us, hl with | [_], _ => rfl
  have A_Ledger_owned : MethAt K C_Ledger "owned" "Ledger.owned" s_Ledger_owned ["self"] := ⟨_, _, Fm5, ⟨am5, im5, km5⟩, bm5⟩
  have Fm6 := fun_mk (st := s_Ledger_do_open) lm6 cm6 km6
  have bm6 := Fm6.binds (ps := ["self", "deal", "ops"]) fun _ _ _ _ _ _ us hl => match us, hl with | [_, _, _], _ => rfl
  have A_Ledger_do_open : MethAt K C_Ledger "do_open" "Ledger.do_open" s_Ledger_do_open ["self", "deal", "ops"] := ⟨_, _, Fm6, ⟨am6, im6, km6⟩, bm6⟩
  have Fm7 := fun_mk (st := s_Ledger_do_choose) lm7 cm7 km7
  have bm7 := Fm7.binds (ps := ["self", "deal", "verdict"]) fun _ _ _ _ _ _ us hl => match us, hl with | [_, _, _], _ => rfl
  have A_Ledger_do_choose : MethAt K C_Ledger "do_choose" "Ledger.do_choose" s_Ledger_do_choose ["self", "deal", "verdict"] := ⟨_, _, Fm7, ⟨am7, im7, km7⟩, bm7⟩
  have Fm8 := fun_mk (st := s_Ledger_do_ready) lm8 cm8 km8
  have bm8 := Fm8.binds (ps := ["self", "deal", "ops", "moment"]) fun _ _ _ _ _ _ us hl => match us, hl with | [_, _, _, _], _ => rfl
  have A_Ledger_do_ready : MethAt K C_Ledger "do_ready" "Ledger.do_ready" s_Ledger_do_ready ["self", "deal", "ops", "moment"] := ⟨_, _, Fm8, ⟨am8, im8, km8⟩, bm8⟩
  have Fm9 := fun_mk (st := s_Ledger_do_over) lm9 cm9 km9
  have bm9 := Fm9.binds (ps := ["self", "deal", "verdict"]) fun _ _ _ _ _ _ us hl => match us, hl with | [_, _, _], _ => rfl
  have A_Ledger_do_over : MethAt K C_Ledger "do_over" "Ledger.do_over" s_Ledger_do_over ["self", "deal", "verdict"] := ⟨_, _, Fm9, ⟨am9, im9, km9⟩, bm9⟩
  have Fm10 := fun_mk (st := s_Ledger_do_mark) lm10 cm10 km10
  have bm10 := Fm10.binds (ps := ["self", "moment"]) fun _ _ _ _ _ _ us hl => match us, hl with | [_, _], _ => rfl
  have A_Ledger_do_mark : MethAt K C_Ledger "do_mark" "Ledger.do_mark" s_Ledger_do_mark ["self", "moment"] := ⟨_, _, Fm10, ⟨am10, im10, km10⟩, bm10⟩
  have Fm11 := fun_mk (st := s_Ledger_do_give) lm11 cm11 km11
  have bm11 := Fm11.binds (ps := ["self", "move", "low", "group", "moment"]) fun _ _ _ _ _ _ us hl => match us, hl with | [_, _, _, _, _], _ => rfl
  have A_Ledger_do_give : MethAt K C_Ledger "do_give" "Ledger.do_give" s_Ledger_do_give ["self", "move", "low", "group", "moment"] := ⟨_, _, Fm11, ⟨am11, im11, km11⟩, bm11⟩
  have Fm12 := fun_mk (st := s_Ledger_do_take) lm12 cm12 km12
  have bm12 := Fm12.binds (ps := ["self", "move", "low", "high", "moment", "rows"]) fun _ _ _ _ _ _ us hl => match us, hl with | [_, _, _, _, _, _], _ => rfl
  have A_Ledger_do_take : MethAt K C_Ledger "do_take" "Ledger.do_take" s_Ledger_do_take ["self", "move", "low", "high", "moment", "rows"] := ⟨_, _, Fm12, ⟨am12, im12, km12⟩, bm12⟩
  have F0 := fun_mk (st := s_has_key) l0 c0 k0
  have b0 := F0.binds (ps := ["span", "key"]) fun _ _ _ _ _ _ us hl => match us, hl with | [_, _], _ => rfl
  have A_has_key : DefAt K mg "has_key" s_has_key ["span", "key"] := ⟨_, _, F0, PySem.W.mg_of X G a0, b0⟩
  have F1 := fun_mk (st := s_span_with) l1 c1 k1
  have b1 := F1.binds (ps := ["spans", "key"]) fun _ _ _ _ _ _ us hl => match us, hl with | [_, _], _ => rfl
  have A_span_with : DefAt K mg "span_with" s_span_with ["spans", "key"] := ⟨_, _, F1, PySem.W.mg_of X G a1, b1⟩
  have F2 := fun_mk (st := s_can_cut) l2 c2 k2
  have b2 := F2.binds (ps := ["span", "key"]) fun _ _ _ _ _ _ us hl => match us, hl with | [_, _], _ => rfl
  have A_can_cut : DefAt K mg "can_cut" s_can_cut ["span", "key"] := ⟨_, _, F2, PySem.W.mg_of X G a2, b2⟩
  have F3 := fun_mk (st := s_cut_at) l3 c3 k3
  have b3 := F3.binds (ps := ["spans", "key"]) fun _ _ _ _ _ _ us hl => match us, hl with | [_, _], _ => rfl
  have A_cut_at : DefAt K mg "cut_at" s_cut_at ["spans", "key"] := ⟨_, _, F3, PySem.W.mg_of X G a3, b3⟩
  have F4 := fun_mk (st := s_joined_at) l4 c4 k4
  have b4 := F4.binds (ps := ["spans", "key"]) fun _ _ _ _ _ _ us hl => match us, hl with | [_, _], _ => rfl
  have A_joined_at : DefAt K mg "joined_at" s_joined_at ["spans", "key"] := ⟨_, _, F4, PySem.W.mg_of X G a4, b4⟩
  have F5 := fun_mk (st := s_drawn) l5 c5 k5
  have b5 := F5.binds (ps := ["_law_script"]) fun _ _ _ _ _ _ us hl => match us, hl with | [_], _ => rfl
  have A_drawn : DefAt K mg "_law_drawn" s_drawn ["_law_script"] := ⟨_, _, F5, PySem.W.mg_of X G a5, b5⟩
  have F6 := fun_mk (st := s_pick) l6 c6 k6
  have b6 := F6.binds (ps := ["_law_draw", "_law_many"]) fun _ _ _ _ _ _ us hl => match us, hl with | [_, _], _ => rfl
  have A_pick : DefAt K mg "_law_pick" s_pick ["_law_draw", "_law_many"] := ⟨_, _, F6, PySem.W.mg_of X G a6, b6⟩
  have F7 := fun_mk (st := s_key) l7 c7 k7
  have b7 := F7.binds (ps := ["_law_draw"]) fun _ _ _ _ _ _ us hl => match us, hl with | [_], _ => rfl
  have A_key : DefAt K mg "_law_key" s_key ["_law_draw"] := ⟨_, _, F7, PySem.W.mg_of X G a7, b7⟩
  have F8 := fun_mk (st := s_keys) l8 c8 k8
  have b8 := F8.binds (ps := ["_law_draw"]) fun _ _ _ _ _ _ us hl => match us, hl with | [_], _ => rfl
  have A_keys : DefAt K mg "_law_keys" s_keys ["_law_draw"] := ⟨_, _, F8, PySem.W.mg_of X G a8, b8⟩
  have F9 := fun_mk (st := s_spans) l9 c9 k9
  have b9 := F9.binds (ps := ["_law_draw", "_law_keys_here", "_law_often"]) fun _ _ _ _ _ _ us hl => match us, hl with | [_, _, _], _ => rfl
  have A_spans : DefAt K mg "_law_spans" s_spans ["_law_draw", "_law_keys_here", "_law_often"] := ⟨_, _, F9, PySem.W.mg_of X G a9, b9⟩
  have F10 := fun_mk (st := s_has) l10 c10 k10
  have b10 := F10.binds (ps := ["_law_span", "_law_key_here"]) fun _ _ _ _ _ _ us hl => match us, hl with | [_, _], _ => rfl
  have A_has : DefAt K mg "_law_has" s_has ["_law_span", "_law_key_here"] := ⟨_, _, F10, PySem.W.mg_of X G a10, b10⟩
  have F11 := fun_mk (st := s_owns) l11 c11 k11
  have b11 := F11.binds (ps := ["_law_spans_here", "_law_key_here"]) fun _ _ _ _ _ _ us hl => match us, hl with | [_, _], _ => rfl
  have A_owns : DefAt K mg "_law_owns" s_owns ["_law_spans_here", "_law_key_here"] := ⟨_, _, F11, PySem.W.mg_of X G a11, b11⟩
  have F12 := fun_mk (st := s_same) l12 c12 k12
  have b12 := F12.binds (ps := ["_law_found", "_law_due"]) fun _ _ _ _ _ _ us hl => match us, hl with | [_, _], _ => rfl
  have A_same : DefAt K mg "_law_same" s_same ["_law_found", "_law_due"] := ⟨_, _, F12, PySem.W.mg_of X G a12, b12⟩
  have F13 := fun_mk (st := s_do_bound) l13 c13 k13
  have b13 := F13.binds (ps := ["_law_made", "_law_word", "_law_key_here"]) fun _ _ _ _ _ _ us hl => match us, hl with | [_, _, _], _ => rfl
  have A_do_bound : DefAt K mg "_law_do_bound" s_do_bound ["_law_made", "_law_word", "_law_key_here"] := ⟨_, _, F13, PySem.W.mg_of X G a13, b13⟩
  have F14 := fun_mk (st := s_keys_owned) l14 c14 k14
  have b14 := F14.binds (ps := ["_law_ledger", "_law_spans_here", "_law_keys_here"]) fun _ _ _ _ _ _ us hl => match us, hl with | [_, _, _], _ => rfl
  have A_keys_owned : DefAt K mg "_law_keys_owned" s_keys_owned ["_law_ledger", "_law_spans_here", "_law_keys_here"] := ⟨_, _, F14, PySem.W.mg_of X G a14, b14⟩
  have F15 := fun_mk (st := s_law) l15 c15 k15
  exact ⟨PySem.W.fnOf "law" "law" (defArgs s_law) (defBody s_law) (defScope s_law) .none kV15 dc15 pm15 an15 cd15 ct15, fun s v => .of_eq rfl, fun base _ _ => ok_law F15 B T (⟨L_Shelf, nF_Shelf_pages⟩ : ShCls K C_Shelf) (⟨L_Ledger, nF_Ledger_spans, nF_Ledger_shelf, nF_Ledger_latest, nF_Ledger_all_opened, nF_Ledger_all_chosen, nF_Ledger_all_ended, nF_Ledger_now_ready, nF_Ledger_now_refused, nF_Ledger_holders, nF_Ledger_gifts, nF_Ledger_arrivals⟩ : LdCls K C_Ledger) M_Shelf M_Ledger A_Shelf___init__ A_Ledger___init__ A_Ledger_apply A_Ledger_do_cut A_Ledger_do_join A_Ledger_owned A_Ledger_do_open A_Ledger_do_choose A_Ledger_do_ready A_Ledger_do_over A_Ledger_do_mark A_Ledger_do_give A_Ledger_do_take A_has_key A_span_with A_can_cut A_cut_at A_joined_at A_drawn A_pick A_key A_keys A_spans A_has A_owns A_same A_do_bound A_keys_owned⟩
end FB
open PySem PySem.W PyProof.Rows
set_option maxRecDepth 100000 in
set_option maxHeartbeats 0 in
theorem PySem.Challenge.cw_farbooks_k17_cut_and_joined_holds : PySem.Challenge.rw_farbooks_k17_cut_and_joined.Holds := by
  w_on; o_law; k_head; (case hw => w_witness2)
  k_fill
  refine L2.walk_of (l := PySem.Challenge.rw_farbooks_k17_cut_and_joined) (n := 63) (k := 9) (x := "_law_script") (CX := fun _ => L2.CX0) (sp := fun w => FB.spLaw _) rfl (by decide) rfl ⟨rfl, by decide, by decide⟩ (fun w h Y => PySem.W.kIn_of Y) ?F (fun _ _ a ns hl _ hS => ⟨a, ns, rfl, hS, hl, fun _ => rfl⟩) (fun _ _ _ _ _ h => h)
  case F =>
    intro w mg fa h KX G hmg
    refine' FB.all_mk KX G hmg ?aC_Shelf ?pg_Shelf ?hd_Shelf ?po_Shelf ?sa_Shelf ?mk_Shelf ?kc_Shelf ?nF_Shelf_pages ?aC_Ledger ?pg_Ledger ?hd_Ledger ?po_Ledger ?sa_Ledger ?mk_Ledger ?kc_Ledger ?nF_Ledger_spans ?nF_Ledger_shelf ?nF_Ledger_latest ?nF_Ledger_all_opened ?nF_Ledger_all_chosen ?nF_Ledger_all_ended ?nF_Ledger_now_ready ?nF_Ledger_now_refused ?nF_Ledger_holders ?nF_Ledger_gifts ?nF_Ledger_arrivals ?am0 ?im0 ?lm0 ?cm0 ?km0 ?am1 ?im1 ?lm1 ?cm1 ?km1 ?am2 ?im2 ?lm2 ?cm2 ?km2 ?am3 ?im3 ?lm3 ?cm3 ?km3 ?am4 ?im4 ?lm4 ?cm4 ?km4 ?am5 ?im5 ?lm5 ?cm5 ?km5 ?am6 ?im6 ?lm6 ?cm6 ?km6 ?am7 ?im7 ?lm7 ?cm7 ?km7 ?am8 ?im8 ?lm8 ?cm8 ?km8 ?am9 ?im9 ?lm9 ?cm9 ?km9 ?am10 ?im10 ?lm10 ?cm10 ?km10 ?am11 ?im11 ?lm11 ?cm11 ?km11 ?am12 ?im12 ?lm12 ?cm12 ?km12 ?a0 ?l0 ?c0 ?k0 ?a1 ?l1 ?c1 ?k1 ?a2 ?l2 ?c2 ?k2 ?a3 ?l3 ?c3 ?k3 ?a4 ?l4 ?c4 ?k4 ?a5 ?l5 ?c5 ?k5 ?a6 ?l6 ?c6 ?k6 ?a7 ?l7 ?c7 ?k7 ?a8 ?l8 ?c8 ?k8 ?a9 ?l9 ?c9 ?k9 ?a10 ?l10 ?c10 ?k10 ?a11 ?l11 ?c11 ?k11 ?a12 ?l12 ?c12 ?k12 ?a13 ?l13 ?c13 ?k13 ?a14 ?l14 ?c14 ?k14 ?a15 ?l15 ?c15 ?k15 ?z0 ?z1 ?z2 ?z3 ?z4 ?z5 ?z6 ?z7 ?z8 ?z9 ?z10 ?z11 ?z12 ?y0
    (case aC_Shelf => k_is); (case pg_Shelf => k_is); (case hd_Shelf => k_is); (case po_Shelf => k_is); (case sa_Shelf => k_is); (case mk_Shelf => k_is)
    (case kc_Shelf => k_is); (case nF_Shelf_pages => k_is); (case aC_Ledger => k_is); (case pg_Ledger => k_is); (case hd_Ledger => k_is); (case po_Ledger => k_is)
    (case sa_Ledger => k_is); (case mk_Ledger => k_is); (case kc_Ledger => k_is); (case nF_Ledger_spans => k_is); (case nF_Ledger_shelf => k_is); (case nF_Ledger_latest => k_is)
    (case nF_Ledger_all_opened => k_is); (case nF_Ledger_all_chosen => k_is); (case nF_Ledger_all_ended => k_is); (case nF_Ledger_now_ready => k_is); (case nF_Ledger_now_refused => k_is); (case nF_Ledger_holders => k_is)
    (case nF_Ledger_gifts => k_is); (case nF_Ledger_arrivals => k_is); (case am0 => k_is); (case im0 => k_is); (case lm0 => k_is); (case cm0 => k_is)
    (case km0 => k_is); (case am1 => k_is); (case im1 => k_is); (case lm1 => k_is); (case cm1 => k_is); (case km1 => k_is)
    (case am2 => k_is); (case im2 => k_is); (case lm2 => k_is); (case cm2 => k_is); (case km2 => k_is); (case am3 => k_is)
    (case im3 => k_is); (case lm3 => k_is); (case cm3 => k_is); (case km3 => k_is); (case am4 => k_is); (case im4 => k_is)
    (case lm4 => k_is); (case cm4 => k_is); (case km4 => k_is); (case am5 => k_is); (case im5 => k_is); (case lm5 => k_is)
    (case cm5 => k_is); (case km5 => k_is); (case am6 => k_is); (case im6 => k_is); (case lm6 => k_is); (case cm6 => k_is)
    (case km6 => k_is); (case am7 => k_is); (case im7 => k_is); (case lm7 => k_is); (case cm7 => k_is); (case km7 => k_is)
    (case am8 => k_is); (case im8 => k_is); (case lm8 => k_is); (case cm8 => k_is); (case km8 => k_is); (case am9 => k_is)
    (case im9 => k_is); (case lm9 => k_is); (case cm9 => k_is); (case km9 => k_is); (case am10 => k_is); (case im10 => k_is)
    (case lm10 => k_is); (case cm10 => k_is); (case km10 => k_is); (case am11 => k_is); (case im11 => k_is); (case lm11 => k_is)
    (case cm11 => k_is); (case km11 => k_is); (case am12 => k_is); (case im12 => k_is); (case lm12 => k_is); (case cm12 => k_is)
    (case km12 => k_is); (case a0 => k_is); (case l0 => k_is); (case c0 => k_is); (case k0 => k_is); (case a1 => k_is)
    (case l1 => k_is); (case c1 => k_is); (case k1 => k_is); (case a2 => k_is); (case l2 => k_is); (case c2 => k_is)
    (case k2 => k_is); (case a3 => k_is); (case l3 => k_is); (case c3 => k_is); (case k3 => k_is); (case a4 => k_is)
    (case l4 => k_is); (case c4 => k_is); (case k4 => k_is); (case a5 => k_is); (case l5 => k_is); (case c5 => k_is)
    (case k5 => k_is); (case a6 => k_is); (case l6 => k_is); (case c6 => k_is); (case k6 => k_is); (case a7 => k_is)
    (case l7 => k_is); (case c7 => k_is); (case k7 => k_is); (case a8 => k_is); (case l8 => k_is); (case c8 => k_is)
    (case k8 => k_is); (case a9 => k_is); (case l9 => k_is); (case c9 => k_is); (case k9 => k_is); (case a10 => k_is)
    (case l10 => k_is); (case c10 => k_is); (case k10 => k_is); (case a11 => k_is); (case l11 => k_is); (case c11 => k_is)
    (case k11 => k_is); (case a12 => k_is); (case l12 => k_is); (case c12 => k_is); (case k12 => k_is); (case a13 => k_is)
    (case l13 => k_is); (case c13 => k_is); (case k13 => k_is); (case a14 => k_is); (case l14 => k_is); (case c14 => k_is)
    (case k14 => k_is); (case a15 => k_is); (case l15 => k_is); (case c15 => k_is); (case k15 => k_is); (case z0 => k_is)
    (case z1 => k_is); (case z2 => k_is); (case z3 => k_is); (case z4 => k_is); (case z5 => k_is); (case z6 => k_is)
    (case z7 => k_is); (case z8 => k_is); (case z9 => k_is); (case z10 => k_is); (case z11 => k_is); (case z12 => k_is)
    (case y0 => k_is)
