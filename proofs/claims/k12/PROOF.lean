import PyProof.Rows.All
import Wide.All
import OpenK.AllK
import Wide.FinOn
import HandS.ForMost
import HandS.IsInst
import HandS.Zip
import HandS.SetKeys
import HandS.Walk
import HandS.Wide
import KE.KDictWalk
import HandS.SortRule
import KE.KSortTupAny
import PyProof.DictMoreH
import HandS.Rev
import HandS.Style
import PyProof.ListNew
import PySem.Challenge.RW_farbooks_k12_whole_in_any_order
set_option Elab.async false
set_option linter.all false
set_option maxRecDepth 100000
set_option maxHeartbeats 4000000
namespace FB
open PySem PySem.Spec PyProof.Rows L2

/-! ### a def that is called by its name -/
def DefOk (P : Program) (w : World) (K : PySem.W.Frag) (mg : Str → Option Value) (base : Heap) (k : Nat) (x : Str) (ps : List Str) (sp : Sp) : Prop :=
  ∃ f fd, FnOk P w K mg base CX0 k f fd ps sp ∧ mg x = some (.ref f) ∧ PySem.W.keepIn K (.ref f) = true ∧ L2.Binds K fd ps []
theorem pe_def {X : Cx} {k : Nat} {x : Str} {ps : List Str} {sp : Sp} {e : Expr} {es : List Expr} {t : TA} {p pos : Pos} (D : DefOk X.prog X.w X.K X.mg X.base k x ps sp) (hr : Room k X.A) (hg : Gl X x) (ha : PA X (e :: es) t)
    (hd : (x == ("__debug__" : Str)) = false := by decide) (hs : starEach (e :: es) X.env = (false, eval e X.env) :: starEach es X.env := by rfl) (hpl : (backTo pos (starEach es X.env)).any (·.1) = false := by rfl) :
    PE X (.Call (.Name x p) (e :: es) [] pos) (tCall sp [] E0 t) := by
  obtain ⟨f, fd, F, hm, hk, hb⟩ := D
  exact pe_call F hr hg hm hk hb .nil pass0 ha hd hs hpl
theorem pe_def0 {X : Cx} {k : Nat} {x : Str} {ps : List Str} {sp : Sp} {p pos : Pos} (D : DefOk X.prog X.w X.K X.mg X.base k x ps sp) (hr : Room k X.A) (hg : Gl X x)
    (hd : (x == ("__debug__" : Str)) = false := by decide) : PE X (.Call (.Name x p) [] [] pos) (tCall sp [] E0 tNil) := by
  obtain ⟨f, fd, F, hm, hk, hb⟩ := D
  exact pe_call0 F hr hg hm hk hb .nil pass0 hd
/-- where a def of the text stands -/
def DefAt (K : PySem.W.Frag) (mg : Str → Option Value) (x : Str) (st : Stmt) (ps : List Str) : Prop :=
  ∃ f fd, Fun K x x st f fd ∧ mg x = some (.ref f) ∧ L2.Binds K fd ps []
theorem DefAt.ok {P : Program} {w : World} {K : PySem.W.Frag} {mg : Str → Option Value} {base : Heap} {k : Nat} {x : Str} {st : Stmt} {ps : List Str} {sp : Sp} (A : DefAt K mg x st ps)
    (h : ∀ f fd, Fun K x x st f fd → FnOk P w K mg base CX0 k f fd ps sp) : DefOk P w K mg base k x ps sp := by
  obtain ⟨f, fd, F, hm, hb⟩ := A
  exact ⟨f, fd, h f fd F, hm, F.kp, hb⟩

/-! ### heaps -/
/-- all but what stands at d stays -/
def Keep (d : Addr) (H H' : Hp) : Prop := ∀ b o, H b = some o → b ≠ d → H' b = some o
theorem Keep.refl (d : Addr) (H : Hp) : Keep d H H := fun _ _ h _ => h
theorem Keep.trans {d : Addr} {H H1 H2 : Hp} (a : Keep d H H1) (b : Keep d H1 H2) : Keep d H H2 := fun c o h n => b c o (a c o h n) n
theorem keep_same {d : Addr} {H H' : Hp} (e : Same H H') : Keep d H H' := fun b o h _ => e b o h
theorem same_new {H : Hp} {p : Addr} {o : HO} (h : H p = none) : Same H (upd H p o) := fun b x e => by
  rw [upd_ne (ne_of_none e h)]
  exact e
theorem keep_upd {d : Addr} {H : Hp} {o : HO} : Keep d H (upd H d o) := fun b x e n => by
  rw [upd_ne n]
  exact e
theorem upd_self {H : Hp} {d : Addr} {o : HO} (h : H d = some o) : upd H d o = H := by
  funext b
  unfold upd
  split
  · rename_i e
    rw [e, h]
  · rfl
/-- what is not there before the change was not there -/
theorem keep_free {d : Addr} {H H' : Hp} (k : Keep d H H') (hd : ∃ o, H' d = some o) {l : Addr} (h : H' l = none) : H l = none := by
  cases q : H l with
  | none => rfl
  | some o =>
    by_cases e : l = d
    · subst e
      obtain ⟨o', ho⟩ := hd
      rw [ho] at h
      cases h
    · rw [k l o q e] at h
      cases h

/-! ### dicts -/
theorem dget_of {H : Hp} {a : Addr} {kvs : List (Key × V)} {k : Key} {v : V} (e : H a = some (.dK kvs)) (h : valV kvs k = some v) : DGet H a (kV k) (some v) := by
  have q := DGet.k (k := k) e
  rw [h] at q
  exact q
theorem dput_of {H : Hp} {a : Addr} {kvs kvs' : List (Key × V)} {k : Key} {v : V} (e : H a = some (.dK kvs)) (hl : kvs.length < sizeLine) (h : putK kvs k v = kvs') : DPut H a (kV k) v (upd H a (.dK kvs')) := by
  have q := DPut.k (k := k) (v := v) e hl
  rw [h] at q
  exact q

/-! ### the draws -/
abbrev tk (x : Str) : Key := Sum.inr x
def drawKvs (c : Addr) (a l n : Int) (g : Bool) : List (Key × V) :=
  [(tk "cells", .ref c), (tk "at", .int a), (tk "left", .int l), (tk "number", .int n), (tk "digits", .bl g)]
theorem s_ca : ¬ ("cells" : Str) = "at" := by decide +kernel
theorem k_ca : ¬ tk "cells" = tk "at" := fun z => s_ca (Sum.inr.inj z)
theorem s_cl : ¬ ("cells" : Str) = "left" := by decide +kernel
theorem k_cl : ¬ tk "cells" = tk "left" := fun z => s_cl (Sum.inr.inj z)
theorem s_cn : ¬ ("cells" : Str) = "number" := by decide +kernel
theorem k_cn : ¬ tk "cells" = tk "number" := fun z => s_cn (Sum.inr.inj z)
theorem s_cd : ¬ ("cells" : Str) = "digits" := by decide +kernel
theorem k_cd : ¬ tk "cells" = tk "digits" := fun z => s_cd (Sum.inr.inj z)
theorem s_ac : ¬ ("at" : Str) = "cells" := by decide +kernel
theorem k_ac : ¬ tk "at" = tk "cells" := fun z => s_ac (Sum.inr.inj z)
theorem s_al : ¬ ("at" : Str) = "left" := by decide +kernel
theorem k_al : ¬ tk "at" = tk "left" := fun z => s_al (Sum.inr.inj z)
theorem s_an : ¬ ("at" : Str) = "number" := by decide +kernel
theorem k_an : ¬ tk "at" = tk "number" := fun z => s_an (Sum.inr.inj z)
theorem s_ad : ¬ ("at" : Str) = "digits" := by decide +kernel
theorem k_ad : ¬ tk "at" = tk "digits" := fun z => s_ad (Sum.inr.inj z)
theorem s_lc : ¬ ("left" : Str) = "cells" := by decide +kernel
theorem k_lc : ¬ tk "left" = tk "cells" := fun z => s_lc (Sum.inr.inj z)
theorem s_la : ¬ ("left" : Str) = "at" := by decide +kernel
theorem k_la : ¬ tk "left" = tk "at" := fun z => s_la (Sum.inr.inj z)
theorem s_ln : ¬ ("left" : Str) = "number" := by decide +kernel
theorem k_ln : ¬ tk "left" = tk "number" := fun z => s_ln (Sum.inr.inj z)
theorem s_ld : ¬ ("left" : Str) = "digits" := by decide +kernel
theorem k_ld : ¬ tk "left" = tk "digits" := fun z => s_ld (Sum.inr.inj z)
theorem s_nc : ¬ ("number" : Str) = "cells" := by decide +kernel
theorem k_nc : ¬ tk "number" = tk "cells" := fun z => s_nc (Sum.inr.inj z)
theorem s_na : ¬ ("number" : Str) = "at" := by decide +kernel
theorem k_na : ¬ tk "number" = tk "at" := fun z => s_na (Sum.inr.inj z)
theorem s_nl : ¬ ("number" : Str) = "left" := by decide +kernel
theorem k_nl : ¬ tk "number" = tk "left" := fun z => s_nl (Sum.inr.inj z)
theorem s_nd : ¬ ("number" : Str) = "digits" := by decide +kernel
theorem k_nd : ¬ tk "number" = tk "digits" := fun z => s_nd (Sum.inr.inj z)
theorem s_dc : ¬ ("digits" : Str) = "cells" := by decide +kernel
theorem k_dc : ¬ tk "digits" = tk "cells" := fun z => s_dc (Sum.inr.inj z)
theorem s_da : ¬ ("digits" : Str) = "at" := by decide +kernel
theorem k_da : ¬ tk "digits" = tk "at" := fun z => s_da (Sum.inr.inj z)
theorem s_dl : ¬ ("digits" : Str) = "left" := by decide +kernel
theorem k_dl : ¬ tk "digits" = tk "left" := fun z => s_dl (Sum.inr.inj z)
theorem s_dn : ¬ ("digits" : Str) = "number" := by decide +kernel
theorem k_dn : ¬ tk "digits" = tk "number" := fun z => s_dn (Sum.inr.inj z)
section
variable {H : Hp} {d c : Addr} {a l n v : Int} {g : Bool}
theorem dg_cells : DGet (upd H d (.dK (drawKvs c a l n g))) d (.str "cells") (some (.ref c)) := dget_of (k := tk "cells") upd_same (valV_pos rfl)
theorem dg_at : DGet (upd H d (.dK (drawKvs c a l n g))) d (.str "at") (some (.int a)) := dget_of (k := tk "at") upd_same ((valV_neg k_ca).trans (valV_pos rfl))
theorem dg_left : DGet (upd H d (.dK (drawKvs c a l n g))) d (.str "left") (some (.int l)) := dget_of (k := tk "left") upd_same ((valV_neg k_cl).trans ((valV_neg k_al).trans (valV_pos rfl)))
theorem dg_number : DGet (upd H d (.dK (drawKvs c a l n g))) d (.str "number") (some (.int n)) := dget_of (k := tk "number") upd_same ((valV_neg k_cn).trans ((valV_neg k_an).trans ((valV_neg k_ln).trans (valV_pos rfl))))
theorem dg_digits : DGet (upd H d (.dK (drawKvs c a l n g))) d (.str "digits") (some (.bl g)) := dget_of (k := tk "digits") upd_same ((valV_neg k_cd).trans ((valV_neg k_ad).trans ((valV_neg k_ld).trans ((valV_neg k_nd).trans (valV_pos rfl)))))
theorem put_at : putK (drawKvs c a l n g) (tk "at") (.int v) = drawKvs c v l n g := by
  unfold putK drawKvs
  rw [if_pos (by simp)]
  simp only [List.map_cons, List.map_nil, k_ca, k_la, k_na, k_da, if_false, if_true]
theorem put_left : putK (drawKvs c a l n g) (tk "left") (.int v) = drawKvs c a v n g := by
  unfold putK drawKvs
  rw [if_pos (by simp)]
  simp only [List.map_cons, List.map_nil, k_cl, k_al, k_nl, k_dl, if_false, if_true]
theorem put_number : putK (drawKvs c a l n g) (tk "number") (.int v) = drawKvs c a l v g := by
  unfold putK drawKvs
  rw [if_pos (by simp)]
  simp only [List.map_cons, List.map_nil, k_cn, k_an, k_ln, k_dn, if_false, if_true]
theorem five : (drawKvs c a l n g).length < sizeLine := by
  show 5 < sizeLine
  decide
theorem dp_at : DPut (upd H d (.dK (drawKvs c a l n g))) d (.str "at") (.int v) (upd H d (.dK (drawKvs c v l n g))) := by
  have q := dput_of (k := tk "at") (v := .int v) (upd_same (H := H) (a := d) (o := .dK (drawKvs c a l n g))) five put_at
  rw [upd_upd] at q
  exact q
theorem dp_left : DPut (upd H d (.dK (drawKvs c a l n g))) d (.str "left") (.int v) (upd H d (.dK (drawKvs c a v n g))) := by
  have q := dput_of (k := tk "left") (v := .int v) (upd_same (H := H) (a := d) (o := .dK (drawKvs c a l n g))) five put_left
  rw [upd_upd] at q
  exact q
theorem dp_number : DPut (upd H d (.dK (drawKvs c a l n g))) d (.str "number") (.int v) (upd H d (.dK (drawKvs c a l v g))) := by
  have q := dput_of (k := tk "number") (v := .int v) (upd_same (H := H) (a := d) (o := .dK (drawKvs c a l n g))) five put_number
  rw [upd_upd] at q
  exact q
end
/-- a draw's dict stands at d, its cells at c, at most n draws were mixed -/
def DrawAt (H : Hp) (d c : Addr) (cs : List Int) (n : Nat) : Prop := ∃ (a l m : Int) (g : Bool), H d = some (.dK (drawKvs c a l m g)) ∧ H c = some (.lst (cs.map V.int)) ∧ 0 < cs.length ∧ cs.length ≤ 64 ∧ 0 ≤ a ∧ a ≤ n
section
variable {H H' : Hp} {d c p : Addr} {cs : List Int} {n m : Nat} {o : HO}
theorem DrawAt.mono (h : DrawAt H d c cs n) (e : n ≤ m) : DrawAt H d c cs m := by
  obtain ⟨a, l, k, g, h1, h2, h3, h4, h5, h6⟩ := h
  exact ⟨a, l, k, g, h1, h2, h3, h4, h5, by omega⟩
theorem DrawAt.same (h : DrawAt H d c cs n) (e : Same H H') : DrawAt H' d c cs n := by
  obtain ⟨a, l, k, g, h1, h2, h3⟩ := h
  exact ⟨a, l, k, g, e _ _ h1, e _ _ h2, h3⟩
theorem DrawAt.is (h : DrawAt H d c cs n) : ∃ kvs, H d = some (.dK kvs) := by
  obtain ⟨a, l, k, g, h1, _⟩ := h
  exact ⟨_, h1⟩
theorem DrawAt.cells (h : DrawAt H d c cs n) : H c = some (.lst (cs.map V.int)) := by
  obtain ⟨a, l, k, g, h1, h2, _⟩ := h
  exact h2
theorem DrawAt.ne (h : DrawAt H d c cs n) (hp : H p = none) : p ≠ d := by
  obtain ⟨kvs, e⟩ := h.is
  exact (ne_of_none e hp).symm
theorem DrawAt.neC (h : DrawAt H d c cs n) (hp : H p = none) : p ≠ c := (ne_of_none h.cells hp).symm
/-- another object is written -/
theorem DrawAt.upd (h : DrawAt H d c cs n) (h1 : p ≠ d) (h2 : p ≠ c) : DrawAt (L2.upd H p o) d c cs n := by
  obtain ⟨a, l, k, g, e1, e2, h3⟩ := h
  exact ⟨a, l, k, g, by rw [upd_ne h1.symm]; exact e1, by rw [upd_ne h2.symm]; exact e2, h3⟩
theorem keep_mut (k : Keep d H H') (h : H p = none) : Keep d H (L2.upd H' p o) := fun b x e nb => by
  rw [upd_ne (ne_of_none e h)]
  exact k b x e nb
end
theorem at_mod {cs : List Int} (h : 0 < cs.length) (k : Int) : ∃ z, atI (cs.map V.int) (k % ((cs.map V.int).length : Int)) = some (.int z) := by
  have h0 : (0 : Int) < ((cs.map V.int).length : Int) := by
    rw [List.length_map]
    omega
  have h1 := Int.emod_nonneg k (by omega : ((cs.map V.int).length : Int) ≠ 0)
  have h2 := Int.emod_lt_of_pos k h0
  obtain ⟨j, hj⟩ : ∃ j : Nat, k % ((cs.map V.int).length : Int) = (j : Int) := ⟨_, (Int.toNat_of_nonneg h1).symm⟩
  rw [hj] at h2 ⊢
  have hl : j < (cs.map V.int).length := by omega
  have hl2 : j < cs.length := by
    rw [List.length_map] at hl
    exact hl
  exact ⟨cs[j], atI_nat (by rw [List.getElem?_map, List.getElem?_eq_getElem hl2]; rfl)⟩
/-- a draw: a number below m comes, the draw's dict has changed, nothing else -/
def spPick : Sp := fun vs H Q _ => ∃ (d c : Addr) (cs : List Int) (n : Nat) (m : Int), vs = [.ref d, .int m] ∧ DrawAt H d c cs n ∧ 0 < m ∧ m < 1073741824 ∧ n < 1000000000 ∧
  ∀ (v : Int) (H' : Hp), 0 ≤ v → v < m → DrawAt H' d c cs (n + 1) → Keep d H H' → Q (.int v) H'
end FB

namespace FB
open PySem PySem.Spec PyProof.Rows L2
/-! ### data -/
theorem dpall_int {K : PySem.W.Frag} {H : Hp} : ∀ ns : List Int, DpAll K H (ns.map V.int) (ns.map PyData.int)
  | [] => .nil
  | n :: ns => .cons (.int n) (dpall_int ns)
theorem canlay_int : ∀ ns : List Int, PyData.canLayAll0 (ns.map PyData.int) = true
  | [] => rfl
  | n :: ns => by
    show (PyData.canLay0 (.int n) && PyData.canLayAll0 (ns.map PyData.int)) = true
    rw [canlay_int ns]
    rfl
theorem depth_int : ∀ ns : List Int, PyData.depthAll (ns.map PyData.int) ≤ 1
  | [] => by decide
  | n :: ns => by
    have h := depth_int ns
    simp only [List.map_cons, PyData.depthAll, PyData.depth]
    omega
theorem shaped_ints (ns : List Int) : SeqAt.shaped (.list (ns.map PyData.int)) = true := by
  unfold SeqAt.shaped
  have h1 : PyData.canLay0 (.list (ns.map PyData.int)) = true := canlay_int ns
  have h2 := depth_int ns
  rw [h1, decide_eq_true (show (PyData.list (ns.map PyData.int)).depth ≤ 64 by simp only [PyData.depth]; omega)]
  rfl
theorem merge_draw (c : Addr) (a l n : Int) (g : Bool) : mergeK [] (drawKvs c a l n g) = drawKvs c a l n g := by
  unfold mergeK drawKvs
  simp only [List.foldl_cons, List.foldl_nil]
  rw [putK_new (kvs := []) _ rfl]
  rw [putK_new (k := tk "at") _ (by simp only [List.nil_append]; exact (valV_neg k_ca).trans rfl)]
  rw [putK_new (k := tk "left") _ (by simp only [List.nil_append, List.cons_append]; exact (valV_neg k_cl).trans ((valV_neg k_al).trans rfl))]
  rw [putK_new (k := tk "number") _ (by simp only [List.nil_append, List.cons_append]; exact (valV_neg k_cn).trans ((valV_neg k_an).trans ((valV_neg k_ln).trans rfl)))]
  rw [putK_new (k := tk "digits") _ (by simp only [List.nil_append, List.cons_append]; exact (valV_neg k_cd).trans ((valV_neg k_ad).trans ((valV_neg k_ld).trans ((valV_neg k_nd).trans rfl))))]
  rfl
def spDrawn (K : PySem.W.Frag) : Sp := fun vs H Q _ => ∃ (a : Addr) (ns : List Int), vs = [.ref a] ∧ SqL K H a (ns.map V.int) ∧ ns.length ≤ 63 ∧
  ∀ (d c : Addr) (cs : List Int) (H' : Hp), Same H H' → H d = none → DrawAt H' d c cs 0 → Q (.ref d) H'

/-! ### texts -/
def ltS (a b : Str) : Bool := decide (a.cps.toList < b.cps.toList)
/-- whether the span (l, h) has the key k -/
def hasB (l h k : Str) : Bool := !ltS k l && (decide (V.str h = V.str "") || ltS k h)
def IsKey (z : Str) : Prop := 0 < z.length ∧ z.length ≤ 8 ∧ ∀ c ∈ z.cps.toList, 97 ≤ c ∧ c ≤ 122
def spKey : Sp := fun vs H Q _ => ∃ (d c : Addr) (cs : List Int) (n : Nat), vs = [.ref d] ∧ DrawAt H d c cs n ∧ n < 900000000 ∧ ∀ (z : Str) (H' : Hp), IsKey z → DrawAt H' d c cs (n + 11) → Keep d H H' → Q (.str z) H'
def spHas (K : PySem.W.Frag) : Sp := fun vs H Q _ => ∃ (p : Addr) (l h k : Str), vs = [.ref p, .str k] ∧ SqT K H p [.str l, .str h] ∧ Q (.bl (hasB l h k)) H
/-! ### spans -/
abbrev Sp3 := Addr × Str × Str
structure SpansAt (H : Hp) (a : Addr) (zs : List Sp3) : Prop where
  ls : H a = some (.lst (zs.map fun z => V.ref z.1))
  tp : ∀ z ∈ zs, H z.1 = some (.tup [.str z.2.1, .str z.2.2])
theorem SpansAt.keep {H H' : Hp} {a d : Addr} {zs : List Sp3} (h : SpansAt H a zs) (k : Keep d H H') (hd : ∃ kvs, H d = some (.dK kvs)) : SpansAt H' a zs := by
  obtain ⟨kvs, hd⟩ := hd
  exact ⟨k _ _ h.ls (ne_of h.ls hd (by intro z; cases z)), fun z hz => k _ _ (h.tp z hz) (ne_of (h.tp z hz) hd (by intro z; cases z))⟩
theorem SpansAt.same {H H' : Hp} {a : Addr} {zs : List Sp3} (h : SpansAt H a zs) (k : Same H H') : SpansAt H' a zs :=
  ⟨k _ _ h.ls, fun z hz => k _ _ (h.tp z hz)⟩
/-- the pairs of neighbours -/
def nexts : List Str → List (Str × Str)
  | x :: y :: r => (x, y) :: nexts (y :: r)
  | _ => []
def SpanList (zs : List Sp3) : Prop := ∃ ks : List Str, (∀ k ∈ ks, IsKey k) ∧ ks.Pairwise (fun a b => ltS a b = true) ∧ (zs.map (·.2)).Sublist (nexts (("" : Str) :: (ks ++ [("" : Str)]))) ∧ (∀ z ∈ zs, z.2 ≠ (("" : Str), ("a" : Str))) ∧ zs.length ≤ 30
def spSpans : Sp := fun vs H Q _ => ∃ (d c : Addr) (cs : List Int) (n : Nat) (m : Int), vs = [.ref d, .int m] ∧ DrawAt H d c cs n ∧ n < 900000000 - 1000 ∧ 0 < m ∧ m ≤ 20 ∧
  ∀ (l : Addr) (zs : List Sp3) (H' : Hp), SpanList zs → SpansAt H' l zs → DrawAt H' d c cs (n + 500) → Keep d H H' → H l = none → Q (.ref l) H'
def spSpanWith : Sp := fun vs H Q _ => ∃ (a : Addr) (zs : List Sp3) (k : Str), vs = [.ref a, .str k] ∧ SpansAt H a zs ∧
  Q (match zs.find? (fun z => hasB z.2.1 z.2.2 k) with | some z => .ref z.1 | none => .non) H
def spAsked : Sp := fun vs H Q _ => ∃ (d c : Addr) (cs : List Int) (n : Nat) (a : Addr) (zs : List Sp3), vs = [.ref d, .ref a] ∧ DrawAt H d c cs n ∧ n < 900000000 - 1000 ∧ SpansAt H a zs ∧ zs.length ≤ 30 ∧
  ∀ (l : Addr) (ks : List Str) (H' : Hp), (∃ ds : List Str, (∀ k ∈ ds, IsKey k) ∧ ks = ds ++ (zs.map fun z => [z.2.1, z.2.2].filter fun x => !decide (V.str x = V.str "")).flatten) → ks.length ≤ 100 → H' l = some (.lst (ks.map V.str)) → DrawAt H' d c cs (n + 200) → Keep d H H' → H l = none → Q (.ref l) H'
end FB

namespace FB
open PySem PySem.Spec PyProof.Rows L2
/-! ### the order of texts -/
theorem ltS_irrefl (a : Str) : ltS a a = false := decide_eq_false (List.lt_irrefl _)
theorem ltS_trans {a b c : Str} (h : ltS a b = true) (h' : ltS b c = true) : ltS a c = true := decide_eq_true (List.lt_trans (of_decide_eq_true h) (of_decide_eq_true h'))
theorem ltS_asymm {a b : Str} (h : ltS a b = true) : ltS b a = false := by
  cases e : ltS b a with
  | false => rfl
  | true => exact absurd (ltS_trans h e) (by rw [ltS_irrefl]; decide)
theorem ltS_tri {a b : Str} (h : ltS b a = false) (h' : a ≠ b) : ltS a b = true := by
  have h1 : ¬ b.cps.toList < a.cps.toList := of_decide_eq_false h
  apply decide_eq_true
  apply Decidable.byContradiction
  intro h2
  apply h'
  have e : a.cps.toList = b.cps.toList := List.le_antisymm (List.not_lt.mp h1) (List.not_lt.mp h2)
  cases a; cases b
  simp only [Str.mk.injEq]
  exact Array.toList_inj.mp e
theorem strict_of_rising : ∀ (p : Str) (l : List Str), risingS p l = true → (p :: l).Nodup → (p :: l).Pairwise (fun a b => ltS a b = true)
  | p, [], _, _ => by simp
  | p, x :: r, h, nd => by
    have h' : (!ltCps x.cps.toList p.cps.toList && risingS x r) = true := h
    rw [Bool.and_eq_true] at h'
    obtain ⟨h1, h2⟩ := h'
    have nd' := List.nodup_cons.mp nd
    have ih := strict_of_rising x r h2 nd'.2
    have hne : p ≠ x := fun e => nd'.1 (by rw [e]; simp)
    have hlt : ltS p x = true := by
      apply ltS_tri _ hne
      rw [ltCps_eq] at h1
      unfold ltS
      cases e : decide (x.cps.toList < p.cps.toList) with
      | false => rfl
      | true => rw [e] at h1; cases h1
    refine List.pairwise_cons.mpr ⟨fun y hy => ?_, ih⟩
    rcases List.mem_cons.mp hy with rfl | hy
    · exact hlt
    · exact ltS_trans hlt ((List.pairwise_cons.mp ih).1 y hy)
theorem strict_of_sorted (l : List Str) (h : sortedS l = true) (nd : l.Nodup) : l.Pairwise (fun a b => ltS a b = true) := by
  cases l with
  | nil => simp
  | cons p r => exact strict_of_rising p r h nd
theorem inV_str (z : Str) : ∀ ks : List Str, inV (.str z) (ks.map V.str) = decide (z ∈ ks)
  | [] => by simp [inV]
  | k :: r => by
    have ih := inV_str z r
    unfold inV at ih ⊢
    rw [List.map_cons, List.any_cons, ih]
    show ((k == z) || decide (z ∈ r)) = decide (z ∈ k :: r)
    by_cases e : k = z
    · subst e
      simp
    · have e2 : ¬ z = k := fun h => e h.symm
      simp [e, e2]
theorem flat_strs : ∀ ks : List Str, (ks.map V.str).all flatV = true
  | [] => rfl
  | k :: r => by
    rw [List.map_cons, List.all_cons, flat_strs r]
    rfl
theorem nexts_len : ∀ xs : List Str, (nexts xs).length = xs.length - 1
  | [] => rfl
  | [_] => rfl
  | x :: y :: r => by
    show (nexts (y :: r)).length + 1 = (y :: r).length + 1 - 1
    rw [nexts_len (y :: r)]
    simp
theorem nexts_get : ∀ (xs : List Str) (i : Nat) (x y : Str), xs[i]? = some x → xs[i + 1]? = some y → (nexts xs)[i]? = some (x, y)
  | [], _, _, _, h, _ => by simp at h
  | [_], 0, _, _, _, h => by simp at h
  | [_], i + 1, _, _, h, _ => by simp at h
  | a :: b :: r, 0, x, y, h, h2 => by
    have e1 : a = x := Option.some.inj h
    have e2 : b = y := Option.some.inj h2
    rw [← e1, ← e2]
    rfl
  | a :: b :: r, i + 1, x, y, h, h2 => nexts_get (b :: r) i x y h h2
theorem cut1 (xs : List V) : cutV xs (some 1) none = xs.drop 1 := by
  unfold cutV
  rw [show HT.sIx xs.length 0 (some 1) = min 1 xs.length from HT.sIx_nat xs.length 0 1, HT.sIx_none]
  cases xs with
  | nil => rfl
  | cons x r =>
    rw [show min 1 (x :: r).length = 1 by
      rw [List.length_cons]
      omega]
    show (List.take ((x :: r).length - 1) r) = r
    rw [List.length_cons, Nat.add_sub_cancel]
    exact List.take_length
/-- zip of two lists of any lengths: n turns -/
theorem for_zipG {K : PySem.W.Frag} {a b : Addr} {xs ys : List V} {g : TG} {tb : TS} {D : Ends} {σ : L2.St} {H : Hp} (n : Nat) (hx : n ≤ xs.length) (hy : n ≤ ys.length) (he : xs.length ≤ n ∨ ys.length ≤ n) (Pv : Nat → L2.St → Hp → Prop) (h0 : Pv 0 σ H) (hq : ∀ i σ H, Pv i σ H → SqL K H a xs ∧ SqL K H b ys)
    (hs : ∀ (i : Nat) (x y : V) (T : Addr) (σ : L2.St) (H : Hp), xs[i]? = some x → ys[i]? = some y → Pv i σ H → H T = none → g (.ref T) σ (upd H T (.tup [x, y])) fun σ2 H2 => tb { D with nx := Pv (i + 1), ct := Pv (i + 1), bk := D.nx } σ2 H2) (hd : ∀ σ H, Pv n σ H → D.nx σ H) :
    ∃ W : Nat → Nat → L2.St → Hp → Prop, (∃ m, W 0 m σ H) ∧ ∀ i m σ H, W i m σ H →
      ((Itz K a b).stop i H ∧ D.nx σ H) ∨ ((Itz K a b).go i H ∧ ∃ N : L2.St → Hp → Prop, (∀ σ' H', N σ' H' → ∃ m', m' < m ∧ W (i + 1) m' σ' H') ∧ ∀ v H', (Itz K a b).yld i H v H' → g v σ H' fun σ2 H2 => tb { D with nx := N, ct := N, bk := D.nx } σ2 H2) := by
  refine ⟨fun i m σ H => m = n - i ∧ i ≤ n ∧ Pv i σ H, ⟨n, rfl, Nat.zero_le _, h0⟩, ?_⟩
  rintro i m σ H ⟨rfl, hi, p⟩
  obtain ⟨qx, qy⟩ := hq i σ H p
  by_cases hlt : i < n
  · have h1 : xs[i]? = some (xs[i]'(by omega)) := List.getElem?_eq_getElem _
    have h2 : ys[i]? = some (ys[i]'(by omega)) := List.getElem?_eq_getElem _
    refine .inr ⟨⟨xs, ys, _, _, qx, qy, h1, h2⟩, Pv (i + 1), fun σ' H' p' => ⟨n - (i + 1), by omega, rfl, hlt, p'⟩, fun v H' y => ?_⟩
    obtain ⟨T, x', y', rfl, hT, rfl, f1, f2⟩ := y
    exact hs i x' y' T σ H (f1 xs qx) (f2 ys qy) p hT
  · have e : i = n := by omega
    subst e
    exact .inl ⟨⟨xs, ys, qx, qy, he⟩, hd σ H p⟩
/-! ### texts that are keys or empty -/
def KeyOr (z : Str) : Prop := z = "" ∨ IsKey z
theorem KeyOr.ok {z : Str} (h : KeyOr z) : PyData.strOk z = true := by
  rcases h with rfl | ⟨_, _, h⟩
  · decide +kernel
  · unfold PyData.strOk
    rw [Array.all_eq_true']
    intro c hc
    have := h c (Array.mem_toList_iff.mpr hc)
    exact decide_eq_true (by omega)
theorem shaped2 {x y : Str} (hx : KeyOr x) (hy : KeyOr y) : SeqAt.shaped (.tuple [.str x, .str y]) = true := by
  simp [SeqAt.shaped, PyData.canLay0, PyData.canLayAll0, PyData.depth, PyData.depthAll, hx.ok, hy.ok]
theorem key_a : KeyOr "a" := .inr (by unfold IsKey; decide +kernel)
theorem nexts_mem : ∀ (xs : List Str) (p : Str × Str), p ∈ nexts xs → p.1 ∈ xs ∧ p.2 ∈ xs
  | [], _, h => by simp [nexts] at h
  | [_], _, h => by simp [nexts] at h
  | a :: b :: r, p, h => by
    rcases List.mem_cons.mp h with rfl | h
    · simp
    · obtain ⟨h1, h2⟩ := nexts_mem (b :: r) p h
      exact ⟨List.mem_cons_of_mem _ h1, List.mem_cons_of_mem _ h2⟩
theorem full_keys {ys : List Str} (h : ∀ k ∈ ys, IsKey k) : ∀ z ∈ (("" : Str) :: (ys ++ [("" : Str)])), KeyOr z := fun z hz => by
  have : z = "" ∨ z ∈ ys ∨ z = "" := by simpa using hz
  rcases this with q | q | q
  · exact .inl q
  · exact .inr (h z q)
  · exact .inl q
theorem SpanList.keys {zs : List Sp3} (h : SpanList zs) : ∀ z ∈ zs, KeyOr z.2.1 ∧ KeyOr z.2.2 := fun z hz => by
  obtain ⟨ks, h1, _, h3, _⟩ := h
  have hm : z.2 ∈ nexts (("" : Str) :: (ks ++ [("" : Str)])) := h3.subset (List.mem_map.mpr ⟨z, hz, rfl⟩)
  obtain ⟨a, b⟩ := nexts_mem _ _ hm
  exact ⟨full_keys h1 _ a, full_keys h1 _ b⟩
end FB

namespace FB
open PySem PySem.Spec PyProof.Rows L2
/-! ### max of two and of three texts -/
section
variable {prog : Program} {w : World} {A : Around} {E : Value → Shared → Prop} {s : Shared}
theorem cmp_strs {P : Nat → Value → Prop} (val : Nat → Str) (hval : ∀ i v, P i v → ∃ t, v = .str (val i) t) : CmpOf prog w A .Gt P (fun i j => ltS (val j) (val i)) := fun i j vi vj s Q E hi hj h => by
  obtain ⟨t, rfl⟩ := hval i vi hi
  obtain ⟨u, rfl⟩ := hval j vj hj
  exact PySem.P.gt_str (t := t) (u := u) h
theorem max_two_strs {a b : Str} {t u : Tok} {Q : Value → Shared → Prop} (hh : A.handled = none)
    (h : ∀ h' tk, (∀ c o, s.heap.get? c = some o → h'.get? c = some o) → Q (if ltS a b = true then .str b u else .str a t) { s with heap := h', toks := tk }) :
    wpAny (model prog w) A (call (.builtin "max") [.str a t, .str b u]) Q E s := by
  have hT : (s.heap.push { cls := .type "tuple", data := .seq #[.str a t, .str b u] }).IsTuple s.heap.objs.size #[.str a t, .str b u] := ⟨_, Heap.get?_push_size _ rfl, rfl, 0, rfl⟩
  refine call_max_two (wpAny_pyIter_tuple hT ?_)
  have hsz : (s.heap.push { cls := .type "tuple", data := .seq #[.str a t, .str b u] }).objs.size = s.heap.objs.size + 1 := Heap.size_push ..
  refine ⟨_, [_, s.heap.objs.size], [_], _, _, _, _, rfl, Walks.tuple (A := A.in1) hh _ s.heap.objs.size (by rw [hsz]; exact Nat.ne_of_lt (Nat.lt_succ_self _)) #[.str a t, .str b u],
    ⟨⟨_, Heap.get?_push_size _ rfl, rfl, rfl⟩, hT.push _⟩, fun c hc => ?_, by simp, cmp_strs (fun i => if i = 0 then a else b) (fun i v hv => ?_), fun v h' tk hP hk => ?_⟩
  · show c < ((s.heap.push _).push _).objs.size
    rw [Heap.size_push, hsz]
    rcases List.mem_cons.mp hc with rfl | hc
    · rw [hsz]; exact Nat.lt_succ_self _
    · rcases List.mem_cons.mp hc with rfl | hc
      · exact Nat.lt_succ_of_lt (Nat.lt_succ_self _)
      · cases hc
  · match i, hv with
    | 0, hv => exact ⟨t, by simpa using hv.symm⟩
    | 1, hv => exact ⟨u, by simpa using hv.symm⟩
    | n + 2, hv => simp at hv
  · have hold : ∀ d o, s.heap.get? d = some o → h'.get? d = some o := fun d o e => by
      refine hk d o (fun hm => ?_) (Heap.get?_push_of_some _ (Heap.get?_push_of_some _ e))
      rcases List.mem_cons.mp hm with e1 | hm
      · have := Heap.lt_size e; rw [e1, hsz] at this; exact Nat.lt_irrefl _ (Nat.lt_of_succ_lt this)
      · cases hm
    have := h h' tk hold
    have hv : v = if ltS a b = true then Value.str b u else Value.str a t := by
      have hP' : (#[Value.str a t, .str b u])[argBest (fun i j => ltS (if j = 0 then a else b) (if i = 0 then a else b)) 1]? = some v := hP
      by_cases hba : ltS a b = true
      · have e : argBest (fun i j => ltS (if j = 0 then a else b) (if i = 0 then a else b)) 1 = 1 := by simp [argBest, hba]
        rw [e] at hP'
        simpa [hba] using hP'.symm
      · have e : argBest (fun i j => ltS (if j = 0 then a else b) (if i = 0 then a else b)) 1 = 0 := by simp [argBest, hba]
        rw [e] at hP'
        simpa [hba] using hP'.symm
    rw [hv]
    exact this
theorem max_three_strs {a b c : Str} {t u x : Tok} {Q : Value → Shared → Prop} (hh : A.handled = none)
    (h : ∀ h' tk, (∀ d o, s.heap.get? d = some o → h'.get? d = some o) → Q (if ltS a b = true then (if ltS b c = true then .str c x else .str b u) else (if ltS a c = true then .str c x else .str a t)) { s with heap := h', toks := tk }) :
    wpAny (model prog w) A (call (.builtin "max") [.str a t, .str b u, .str c x]) Q E s := by
  have hT : (s.heap.push { cls := .type "tuple", data := .seq #[.str a t, .str b u, .str c x] }).IsTuple s.heap.objs.size #[.str a t, .str b u, .str c x] := ⟨_, Heap.get?_push_size _ rfl, rfl, 0, rfl⟩
  refine call_max_three (wpAny_pyIter_tuple hT ?_)
  have hsz : (s.heap.push { cls := .type "tuple", data := .seq #[.str a t, .str b u, .str c x] }).objs.size = s.heap.objs.size + 1 := Heap.size_push ..
  refine ⟨_, [_, s.heap.objs.size], [_], _, _, _, _, rfl, Walks.tuple (A := A.in1) hh _ s.heap.objs.size (by rw [hsz]; exact Nat.ne_of_lt (Nat.lt_succ_self _)) #[.str a t, .str b u, .str c x],
    ⟨⟨_, Heap.get?_push_size _ rfl, rfl, rfl⟩, hT.push _⟩, fun d hd => ?_, by simp, cmp_strs (fun i => if i = 0 then a else if i = 1 then b else c) (fun i v hv => ?_), fun v h' tk hP hk => ?_⟩
  · show d < ((s.heap.push _).push _).objs.size
    rw [Heap.size_push, hsz]
    rcases List.mem_cons.mp hd with rfl | hd
    · rw [hsz]; exact Nat.lt_succ_self _
    · rcases List.mem_cons.mp hd with rfl | hd
      · exact Nat.lt_succ_of_lt (Nat.lt_succ_self _)
      · cases hd
  · match i, hv with
    | 0, hv => exact ⟨t, by simpa using hv.symm⟩
    | 1, hv => exact ⟨u, by simpa using hv.symm⟩
    | 2, hv => exact ⟨x, by simpa using hv.symm⟩
    | n + 3, hv => simp at hv
  · have hold : ∀ d o, s.heap.get? d = some o → h'.get? d = some o := fun d o e => by
      refine hk d o (fun hm => ?_) (Heap.get?_push_of_some _ (Heap.get?_push_of_some _ e))
      rcases List.mem_cons.mp hm with e1 | hm
      · have := Heap.lt_size e; rw [e1, hsz] at this; exact Nat.lt_irrefl _ (Nat.lt_of_succ_lt this)
      · cases hm
    have := h h' tk hold
    have hv : v = if ltS a b = true then (if ltS b c = true then Value.str c x else .str b u) else (if ltS a c = true then .str c x else .str a t) := by
      have hP' : (#[Value.str a t, .str b u, .str c x])[argBest (fun i j => ltS (if j = 0 then a else if j = 1 then b else c) (if i = 0 then a else if i = 1 then b else c)) 2]? = some v := hP
      by_cases hba : ltS a b = true
      · by_cases hc : ltS b c = true
        · have e : argBest (fun i j => ltS (if j = 0 then a else if j = 1 then b else c) (if i = 0 then a else if i = 1 then b else c)) 2 = 2 := by simp [argBest, hba, hc]
          rw [e] at hP'
          simpa [hba, hc] using hP'.symm
        · have e : argBest (fun i j => ltS (if j = 0 then a else if j = 1 then b else c) (if i = 0 then a else if i = 1 then b else c)) 2 = 1 := by simp [argBest, hba, hc]
          rw [e] at hP'
          simpa [hba, hc] using hP'.symm
      · by_cases hc : ltS a c = true
        · have e : argBest (fun i j => ltS (if j = 0 then a else if j = 1 then b else c) (if i = 0 then a else if i = 1 then b else c)) 2 = 2 := by simp [argBest, hba, hc]
          rw [e] at hP'
          simpa [hba, hc] using hP'.symm
        · have e : argBest (fun i j => ltS (if j = 0 then a else if j = 1 then b else c) (if i = 0 then a else if i = 1 then b else c)) 2 = 0 := by simp [argBest, hba, hc]
          rw [e] at hP'
          simpa [hba, hc] using hP'.symm
    rw [hv]
    exact this
end
def maxS (a b : Str) : Str := if ltS a b = true then b else a
section
variable {X : Cx}
theorem call_max2S (hc : X.calm = true) : CallR X (.builtin "max") (fun xs H Q => ∃ i j, xs = [.str i, .str j] ∧ Q (.str (maxS i j)) H) := by
  intro pins s σ H xs us Q I r h
  obtain ⟨i, j, rfl, q⟩ := h
  obtain ⟨u, w', rfl, ⟨t, rfl⟩, ⟨t', rfl⟩⟩ := vals2 r
  refine max_two_strs (I.ok.hd hc) fun h' tk k => ⟨_, H, I.kept k, ?_, q⟩
  unfold maxS
  by_cases hj : ltS i j = true
  · rw [if_pos hj, if_pos hj]; exact ⟨_, rfl⟩
  · rw [if_neg hj, if_neg hj]; exact ⟨_, rfl⟩
theorem call_max3S (hc : X.calm = true) : CallR X (.builtin "max") (fun xs H Q => ∃ i j k, xs = [.str i, .str j, .str k] ∧ Q (.str (maxS (maxS i j) k)) H) := by
  intro pins s σ H xs us Q I r h
  obtain ⟨i, j, k, rfl, q⟩ := h
  cases r with
  | cons r1 r2 =>
    obtain ⟨u, w', rfl, ⟨t', rfl⟩, ⟨t'', rfl⟩⟩ := vals2 r2
    obtain ⟨t, rfl⟩ := r1
    refine max_three_strs (I.ok.hd hc) fun h' tk k' => ⟨_, H, I.kept k', ?_, q⟩
    unfold maxS
    by_cases hj : ltS i j = true
    · rw [if_pos hj, if_pos hj]
      by_cases hk : ltS j k = true
      · rw [if_pos hk, if_pos hk]; exact ⟨_, rfl⟩
      · rw [if_neg hk, if_neg hk]; exact ⟨_, rfl⟩
    · rw [if_neg hj, if_neg hj]
      by_cases hk : ltS i k = true
      · rw [if_pos hk, if_pos hk]; exact ⟨_, rfl⟩
      · rw [if_neg hk, if_neg hk]; exact ⟨_, rfl⟩
/-! ### rules whose written part is named -/
variable {K : PySem.W.Frag}
theorem ix_listK (h : X.K = K) : IxR X (rIxL K) := h ▸ ix_list
theorem ix_tupK (h : X.K = K) : IxR X (rIxT K) := h ▸ ix_tup
theorem sl_listK (h : X.K = K) : SlR X (rSlL K) := h ▸ sl_list
theorem op_in_seqK (h : X.K = K) : OpR X (compareOp .In) (rIn K false) := h ▸ op_in_seq
theorem op_notIn_seqK (h : X.K = K) : OpR X (compareOp .NotIn) (rIn K true) := h ▸ op_notIn_seq
theorem op_eqDK (h : X.K = K) (hu : X.A.units + 64 < cLine) : OpR X (compareOp .Eq) (rEqD K) := h ▸ op_eqD hu
theorem op_neDK (h : X.K = K) (hu : X.A.units + 64 < cLine) : OpR X (compareOp .NotEq) (rNeD K) := h ▸ op_neD hu
theorem call_isiK' (h : X.K = K) : CallR X (.builtin "isinstance") (rIsi K) := h ▸ call_isi
theorem call_len_seqK (h : X.K = K) : CallR X (.builtin "len") (fun xs H Q => ∃ p ys, xs = [.ref p] ∧ (SqL K H p ys ∨ SqT K H p ys) ∧ Q (.int ys.length) H) := h ▸ call_len_seq
end
end FB

namespace FB
open PySem PySem.Spec PyProof.Rows L2
theorem nil_or_snoc' {α : Type} (A : List α) : A = [] ∨ ∃ B p, A = B ++ [p] := by
  rcases List.eq_nil_or_concat A with h | ⟨B, p, h⟩
  · exact .inl h
  · exact .inr ⟨B, p, by rw [h, List.concat_eq_append]⟩
theorem snoc_ind {α : Type} {P : List α → Prop} (h0 : P []) (hs : ∀ r q, P r → P (r ++ [q])) (l : List α) : P l := by
  rw [← List.reverse_reverse l]
  induction l.reverse with
  | nil => exact h0
  | cons q r ih =>
    rw [List.reverse_cons]
    exact hs _ _ ih
/-! ### a class's methods, its making -/
section
variable (P : Program) (w : World) (K : PySem.W.Frag) (mg : Str → Option Value) (base : Heap)
def MethAt (C : Addr) (m qual : Str) (st : Stmt) (ps : List Str) : Prop := ∃ f fd, Fun K m qual st f fd ∧ Meth K C m f ∧ L2.Binds K fd ps []
def MethOk (k : Nat) (C : Addr) (m : Str) (ps : List Str) (sp : Sp) : Prop := ∃ f fd, FnOk P w K mg base CX0 k f fd ps sp ∧ Meth K C m f ∧ L2.Binds K fd ps []
def MakeAt (C : Addr) (qual : Str) (st : Stmt) (ps : List Str) : Prop := ∃ f fd, Fun K "__init__" qual st f fd ∧ Mk K C f ∧ L2.Binds K fd ps []
def MakeOk (k : Nat) (C : Addr) (ps : List Str) (sp : Sp) : Prop := ∃ f fd, FnOk P w K mg base CX0 k f fd ps sp ∧ Mk K C f ∧ L2.Binds K fd ps []
end
theorem MethAt.ok {P : Program} {w : World} {K : PySem.W.Frag} {mg : Str → Option Value} {base : Heap} {k : Nat} {C : Addr} {m qual : Str} {st : Stmt} {ps : List Str} {sp : Sp} (A : MethAt K C m qual st ps)
    (h : ∀ f fd, Fun K m qual st f fd → FnOk P w K mg base CX0 k f fd ps sp) : MethOk P w K mg base k C m ps sp := by
  obtain ⟨f, fd, F, hm, hb⟩ := A
  exact ⟨f, fd, h f fd F, hm, hb⟩
theorem MakeAt.ok {P : Program} {w : World} {K : PySem.W.Frag} {mg : Str → Option Value} {base : Heap} {k : Nat} {C : Addr} {qual : Str} {st : Stmt} {ps : List Str} {sp : Sp} (A : MakeAt K C qual st ps)
    (h : ∀ f fd, Fun K "__init__" qual st f fd → FnOk P w K mg base CX0 k f fd ps sp) : MakeOk P w K mg base k C ps sp := by
  obtain ⟨f, fd, F, hm, hb⟩ := A
  exact ⟨f, fd, h f fd F, hm, hb⟩
section
variable {X : Cx} {k : Nat} {C : Addr} {m x : Str} {ps : List Str} {sp : Sp} {o e : Expr} {es : List Expr} {ta : TE} {t : TA} {p pos apos : Pos}
theorem pe_mk0 (D : MakeOk X.prog X.w X.K X.mg X.base k C ps sp) (hm : X.mg x = some (.ref C)) (hr : Room (k + 1) X.A) (hg : Gl X x) (hd : (x == ("__debug__" : Str)) = false := by decide) : PE X (.Call (.Name x p) [] [] pos) (tMake C sp [] E0 tNil) := by
  obtain ⟨f, fd, F, M, hb⟩ := D
  exact pe_make0 M F hr hg hm hb .nil pass0 hd
theorem pe_mth {pl : Sem Bool} (c : Cls X.K C) (D : MethOk X.prog X.w X.K X.mg X.base k C m ps sp) (hr : Room k X.A) (he : PE X o ta) (ha : PA X (e :: es) t) (h1 : starEach (e :: es) X.env = (false, eval e X.env) :: starEach es X.env := by rfl) (h2 : (backTo pos (starEach es X.env)).any (·.1) = false := by rfl)
    (h3 : eval (.Call (.Attribute o m apos) (e :: es) [] pos) X.env = (do { let ov ← eval o X.env; standAt apos.atName; let (f, first) ← holding [ov] (getMethod ov m pl); callWith pos f first (backTo pos (starEach (e :: es) X.env)) (backToKw pos (keywordEach [] X.env)) }) := by rfl) :
    PE X (.Call (.Attribute o m apos) (e :: es) [] pos) (tMeth C m sp [] E0 ta t) := by
  obtain ⟨f, fd, F, M, hb⟩ := D
  exact pe_meth (pl := pl) he c M F hr hb .nil pass0 ha h1 h2 h3
theorem pe_mth0 {pl : Sem Bool} (c : Cls X.K C) (D : MethOk X.prog X.w X.K X.mg X.base k C m ps sp) (hr : Room k X.A) (he : PE X o ta)
    (h3 : eval (.Call (.Attribute o m apos) [] [] pos) X.env = (do { let ov ← eval o X.env; standAt apos.atName; let (f, first) ← holding [ov] (getMethod ov m pl); callWith pos f first (backTo pos (starEach [] X.env)) (backToKw pos (keywordEach [] X.env)) }) := by rfl) :
    PE X (.Call (.Attribute o m apos) [] [] pos) (tMeth C m sp [] E0 ta tNil) := by
  obtain ⟨f, fd, F, M, hb⟩ := D
  exact pe_meth0 (pl := pl) he c M F hr hb .nil pass0 h3
end
/-! ### a text eight times -/
def rep8 (c : Nat) : Str := ⟨#[c, c, c, c, c, c, c, c]⟩
theorem op_rep8 {X : Cx} : OpR X (binaryOp .Mult) (fun x y H Q => ∃ c, x = .str ⟨#[c]⟩ ∧ y = .int 8 ∧ Q (.str (rep8 c)) H) := by
  intro pins s σ H x y v u Q I rx ry h
  obtain ⟨c, rfl, rfl, q⟩ := h
  obtain ⟨t, rfl⟩ := rx
  obtain ⟨t', rfl⟩ := ry
  refine PySem.P.mul_str (by decide) (fun _ _ => by show ¬ ((1 : Nat) : Int) > (2 ^ 63 - 1) / 8; decide) (fun _ _ => by show Builtin.Str.tooLong (1 * 8) = false; decide +kernel) ?_
  exact ⟨by show 8 ≤ sizeLine; decide, ⟨.str (rep8 c), H, I.tok _, ⟨_, rfl⟩, q⟩⟩
/-! ### pages and puts -/
abbrev Put := Str × Int × Int
def pstep (pg : List (Int × Int)) (t v : Int) : List (Int × Int) := if t ∈ pg.map (·.1) then pg else pg ++ [(t, v)]
def pgOf (ps : List Put) (k : Str) : List (Int × Int) := ps.foldl (fun pg q => if q.1 = k then pstep pg q.2.1 q.2.2 else pg) []
theorem pgOf_snoc (ps : List Put) (q : Put) (k : Str) : pgOf (ps ++ [q]) k = if q.1 = k then pstep (pgOf ps k) q.2.1 q.2.2 else pgOf ps k := by
  unfold pgOf
  rw [List.foldl_append]
  rfl
theorem pstep_nodup {pg : List (Int × Int)} {t v : Int} (h : (pg.map (·.1)).Nodup) : ((pstep pg t v).map (·.1)).Nodup := by
  unfold pstep
  split
  · exact h
  · rename_i hn
    rw [List.map_append, List.nodup_append]
    refine ⟨h, by simp, fun a ha b hb e => hn ?_⟩
    have : b = t := by simpa using hb
    rw [← this, ← e]
    exact ha
theorem pstep_len (pg : List (Int × Int)) (t v : Int) : (pstep pg t v).length ≤ pg.length + 1 := by
  unfold pstep
  split
  · omega
  · rw [List.length_append]
    exact Nat.le_refl _
theorem pgOf_nodup (k : Str) (ps : List Put) : ((pgOf ps k).map (·.1)).Nodup := by
  refine snoc_ind (P := fun ps => ((pgOf ps k).map (·.1)).Nodup) List.nodup_nil (fun r q ih => ?_) ps
  rw [pgOf_snoc]
  split
  · exact pstep_nodup ih
  · exact ih
theorem pgOf_len (k : Str) (ps : List Put) : (pgOf ps k).length ≤ ps.length := by
  refine snoc_ind (P := fun ps => (pgOf ps k).length ≤ ps.length) (Nat.le_refl _) (fun r q ih => ?_) ps
  · rw [pgOf_snoc, List.length_append]
    split
    · have := pstep_len (pgOf r k) q.2.1 q.2.2
      show _ ≤ r.length + 1
      omega
    · show _ ≤ r.length + 1
      omega
/-- what a page has at a moment -/
def AtR (pg : List (Int × Int)) (m r : Int) : Prop := (∀ q ∈ pg, m < q.1) ∧ r = 0 ∨ ∃ t, (t, r) ∈ pg ∧ t ≤ m ∧ ∀ q ∈ pg, q.1 ≤ m → q.1 ≤ t
theorem mem_same {pg : List (Int × Int)} (h : (pg.map (·.1)).Nodup) {t a b : Int} (ha : (t, a) ∈ pg) (hb : (t, b) ∈ pg) : a = b := by
  induction pg with
  | nil => cases ha
  | cons q r ih =>
    rw [List.map_cons, List.nodup_cons] at h
    rcases List.mem_cons.mp ha with e1 | e1
    · rcases List.mem_cons.mp hb with e2 | e2
      · rw [← e1] at e2
        exact (Prod.mk.inj e2).2.symm
      · exact absurd (List.mem_map.mpr ⟨_, e2, by rw [← e1]⟩) h.1
    · rcases List.mem_cons.mp hb with e2 | e2
      · exact absurd (List.mem_map.mpr ⟨_, e1, by rw [← e2]⟩) h.1
      · exact ih h.2 e1 e2
theorem AtR.one {pg : List (Int × Int)} (h : (pg.map (·.1)).Nodup) {m a b : Int} (ha : AtR pg m a) (hb : AtR pg m b) : a = b := by
  rcases ha with ⟨h1, rfl⟩ | ⟨t, h1, h2, h3⟩
  · rcases hb with ⟨_, rfl⟩ | ⟨t, k1, k2, _⟩
    · rfl
    · have := h1 _ k1
      omega
  · rcases hb with ⟨k1, rfl⟩ | ⟨u, k1, k2, k3⟩
    · have := k1 _ h1
      omega
    · have e1 := h3 _ k1 k2
      have e2 := k3 _ h1 h2
      have e : t = u := by
        simp only at e1 e2
        omega
      subst e
      exact mem_same h h1 k1
/-! ### what is due -/
def dstep (k : Str) (m : Int) (best : Int × Int) (q : Put) : Int × Int := if q.1 = k ∧ best.1 < q.2.1 ∧ q.2.1 ≤ m then (q.2.1, q.2.2) else best
def dueF (ps : List Put) (k : Str) (m : Int) : Int × Int := ps.foldl (dstep k m) (-1, 0)
theorem dueF_snoc (ps : List Put) (q : Put) (k : Str) (m : Int) : dueF (ps ++ [q]) k m = dstep k m (dueF ps k m) q := by
  unfold dueF
  rw [List.foldl_append]
  rfl
theorem due_inv (k : Str) (m : Int) (ps : List Put) (hp : ∀ q ∈ ps, 0 ≤ q.2.1) :
    (dueF ps k m = (-1, 0) ∧ ∀ q ∈ pgOf ps k, m < q.1) ∨ (dueF ps k m ∈ pgOf ps k ∧ 0 ≤ (dueF ps k m).1 ∧ (dueF ps k m).1 ≤ m ∧ ∀ q ∈ pgOf ps k, q.1 ≤ m → q.1 ≤ (dueF ps k m).1) := by
  revert hp
  refine snoc_ind (P := fun ps => (∀ q ∈ ps, 0 ≤ q.2.1) → ((dueF ps k m = (-1, 0) ∧ ∀ q ∈ pgOf ps k, m < q.1) ∨ (dueF ps k m ∈ pgOf ps k ∧ 0 ≤ (dueF ps k m).1 ∧ (dueF ps k m).1 ≤ m ∧ ∀ q ∈ pgOf ps k, q.1 ≤ m → q.1 ≤ (dueF ps k m).1))) ?_ (fun r q ih hp => ?_) ps
  · intro _
    exact .inl ⟨rfl, fun q hq => by simp [pgOf] at hq⟩
  · have ih := ih fun y hy => hp y (by simp [hy])
    have hq0 := hp q (by simp)
    rw [dueF_snoc, pgOf_snoc]
    by_cases hk : q.1 = k
    · rw [if_pos hk]
      by_cases hin : q.2.1 ∈ (pgOf r k).map (·.1)
      · -- the moment is there
        have ep : pstep (pgOf r k) q.2.1 q.2.2 = pgOf r k := if_pos hin
        rw [ep]
        obtain ⟨y, hy, ey⟩ := List.mem_map.mp hin
        have hno : ¬ (q.1 = k ∧ (dueF r k m).1 < q.2.1 ∧ q.2.1 ≤ m) := fun h => by
          rcases ih with ⟨_, h2⟩ | ⟨_, _, _, h3⟩
          · have := h2 y hy
            omega
          · have := h3 y hy (by omega)
            omega
        rw [show dstep k m (dueF r k m) q = dueF r k m from if_neg hno]
        exact ih
      · have ep : pstep (pgOf r k) q.2.1 q.2.2 = pgOf r k ++ [(q.2.1, q.2.2)] := if_neg hin
        rw [ep]
        by_cases hc : q.1 = k ∧ (dueF r k m).1 < q.2.1 ∧ q.2.1 ≤ m
        · rw [show dstep k m (dueF r k m) q = (q.2.1, q.2.2) from if_pos hc]
          refine .inr ⟨by simp, hq0, hc.2.2, fun y hy hle => ?_⟩
          rcases List.mem_append.mp hy with h | h
          · rcases ih with ⟨_, h2⟩ | ⟨_, _, _, h3⟩
            · have := h2 y h
              omega
            · have := h3 y h hle
              have := hc.2.1
              simp only at *
              omega
          · rw [show y = (q.2.1, q.2.2) by simpa using h]
            exact Int.le_refl _
        · rw [show dstep k m (dueF r k m) q = dueF r k m from if_neg hc]
          rcases ih with ⟨h1, h2⟩ | ⟨h1, h2, h3, h4⟩
          · refine .inl ⟨h1, fun y hy => ?_⟩
            rcases List.mem_append.mp hy with h | h
            · exact h2 y h
            · rw [show y = (q.2.1, q.2.2) by simpa using h]
              rw [h1] at hc
              show m < q.2.1
              apply Decidable.byContradiction
              intro hn
              exact hc ⟨hk, by show (-1 : Int) < _; omega, by omega⟩
          · refine .inr ⟨List.mem_append_left _ h1, h2, h3, fun y hy hle => ?_⟩
            rcases List.mem_append.mp hy with h | h
            · exact h4 y h hle
            · rw [show y = (q.2.1, q.2.2) by simpa using h] at hle ⊢
              show q.2.1 ≤ _
              apply Decidable.byContradiction
              intro hn
              exact hc ⟨hk, by omega, hle⟩
    · rw [if_neg hk, show dstep k m (dueF r k m) q = dueF r k m from if_neg fun h => hk h.1]
      exact ih
theorem due_at (k : Str) (m : Int) {ps : List Put} (hp : ∀ q ∈ ps, 0 ≤ q.2.1) : AtR (pgOf ps k) m (dueF ps k m).2 := by
  rcases due_inv k m ps hp with ⟨h1, h2⟩ | ⟨h1, _, h3, h4⟩
  · rw [h1]
    exact .inl ⟨h2, rfl⟩
  · exact .inr ⟨_, h1, h3, h4⟩
end FB

namespace FB
open PySem PySem.Spec PyProof.Rows L2
/-! ### a shelf in the heap -/
abbrev Pg := Str × Addr × List (Int × Int)
def pgKvs (pg : List (Int × Int)) : List (Key × V) := pg.map fun q => ((Sum.inl q.1 : Key), V.int q.2)
def shKvs (S : List Pg) : List (Key × V) := S.map fun e => (tk e.1, V.ref e.2.1)
def shFlds (d : Addr) : List (Str × V) := putF "pages" (.ref d) []
theorem shFlds_look (d : Addr) : (shFlds d).lookup ("pages" : Str) = some (.ref d) := by
  unfold shFlds
  rw [lookup_putF, if_pos rfl]
theorem shFlds_no (d : Addr) {m : Str} (h : ¬ m = "pages") : (shFlds d).lookup m = none := by
  unfold shFlds
  rw [lookup_putF, if_neg h]
  rfl
def foot (d : Addr) (S : List Pg) : List Addr := d :: S.map (·.2.1)
structure ShelfRaw (C : Addr) (H : Hp) (p d : Addr) (S : List Pg) : Prop where
  ob : ∃ dx, H p = some (.ins C dx (shFlds d))
  pg : H d = some (.dK (shKvs S))
  en : ∀ e ∈ S, H e.2.1 = some (.dK (pgKvs e.2.2))
  nk : (S.map (·.1)).Nodup
  na : (S.map (·.2.1)).Nodup
def pgS (S : List Pg) (k : Str) : List (Int × Int) := match S.find? (fun e => decide (e.1 = k)) with
  | some e => e.2.2
  | none => []
/-- a shelf stands at p, in the objects F, behind the puts ps -/
def ShelfAt (C : Addr) (H : Hp) (p : Addr) (F : List Addr) (ps : List Put) : Prop := ∃ d S, ShelfRaw C H p d S ∧ F = foot d S ∧ (∀ k, pgS S k = pgOf ps k) ∧ S.length ≤ ps.length
theorem ShelfAt.dicts {C : Addr} {H : Hp} {p : Addr} {F : List Addr} {ps : List Put} (h : ShelfAt C H p F ps) : ∀ b ∈ F, ∃ kvs, H b = some (.dK kvs) := by
  obtain ⟨d, S, R, rfl, _⟩ := h
  intro b hb
  rcases List.mem_cons.mp hb with rfl | hb
  · exact ⟨_, R.pg⟩
  · obtain ⟨e, he, rfl⟩ := List.mem_map.mp hb
    exact ⟨_, R.en e he⟩
theorem ShelfAt.not {C : Addr} {H : Hp} {p l : Addr} {F : List Addr} {ps : List Put} {o : HO} (h : ShelfAt C H p F ps) (hl : H l = some o) (ho : ∀ kvs, o ≠ .dK kvs) : l ∉ F := fun hm => by
  obtain ⟨kvs, e⟩ := h.dicts l hm
  rw [hl] at e
  exact ho kvs (Option.some.inj e)
theorem ShelfAt.same {C : Addr} {H H' : Hp} {p : Addr} {F : List Addr} {ps : List Put} (h : ShelfAt C H p F ps) (s : Same H H') : ShelfAt C H' p F ps := by
  obtain ⟨d, S, ⟨⟨dx, h1⟩, h2, h3, h4, h5⟩, h6⟩ := h
  exact ⟨d, S, ⟨⟨dx, s _ _ h1⟩, s _ _ h2, fun e he => s _ _ (h3 e he), h4, h5⟩, h6⟩
theorem ShelfAt.is {C : Addr} {H : Hp} {p : Addr} {F : List Addr} {ps : List Put} (h : ShelfAt C H p F ps) : ∃ dx d, H p = some (.ins C dx (shFlds d)) := by
  obtain ⟨d, S, ⟨⟨dx, h1⟩, _⟩, _⟩ := h
  exact ⟨dx, d, h1⟩
theorem val_sh (k : Str) : ∀ S : List Pg, valV (shKvs S) (tk k) = (S.find? (fun e => decide (e.1 = k))).map fun e => V.ref e.2.1
  | [] => rfl
  | e :: r => by
    by_cases h : e.1 = k
    · rw [List.find?_cons_of_pos (by simpa using h)]
      exact valV_pos (p := (tk e.1, V.ref e.2.1)) (congrArg Sum.inr h)
    · rw [List.find?_cons_of_neg (by simpa using h), ← val_sh k r]
      exact valV_neg (p := (tk e.1, V.ref e.2.1)) fun z => h (Sum.inr.inj z)
theorem val_pg_some {t r : Int} : ∀ {pg : List (Int × Int)}, (pg.map (·.1)).Nodup → (t, r) ∈ pg → valV (pgKvs pg) (Sum.inl t) = some (.int r)
  | [], _, h => by cases h
  | q :: pg, nd, h => by
    rw [List.map_cons, List.nodup_cons] at nd
    rcases List.mem_cons.mp h with e | e
    · rw [← e]
      exact valV_pos (p := ((Sum.inl t : Key), V.int r)) rfl
    · have hne : ¬ q.1 = t := fun z => nd.1 (List.mem_map.mpr ⟨_, e, z.symm⟩)
      refine (valV_neg (p := ((Sum.inl q.1 : Key), V.int q.2)) fun z => hne (Sum.inl.inj z)).trans ?_
      exact val_pg_some nd.2 e
theorem val_pg_none {t : Int} : ∀ {pg : List (Int × Int)}, t ∉ pg.map (·.1) → valV (pgKvs pg) (Sum.inl t) = none
  | [], _ => rfl
  | q :: pg, h => by
    rw [List.map_cons, List.mem_cons, not_or] at h
    refine (valV_neg (p := ((Sum.inl q.1 : Key), V.int q.2)) fun z => h.1 (Sum.inl.inj z).symm).trans ?_
    exact val_pg_none h.2
theorem find_key {S : List Pg} {k : Str} {e : Pg} (h : S.find? (fun e => decide (e.1 = k)) = some e) : e ∈ S ∧ e.1 = k := ⟨List.mem_of_find?_eq_some h, by simpa using List.find?_some h⟩
/-- the page at an address is replaced -/
def setPg (S : List Pg) (a : Addr) (pg : List (Int × Int)) : List Pg := S.map fun e => if e.2.1 = a then (e.1, a, pg) else e
theorem setPg_keys (S : List Pg) (a : Addr) (pg : List (Int × Int)) : (setPg S a pg).map (·.1) = S.map (·.1) := by
  unfold setPg
  rw [List.map_map]
  refine List.map_congr_left fun e _ => ?_
  show (if e.2.1 = a then (e.1, a, pg) else e).1 = e.1
  split <;> rfl
theorem setPg_addrs (S : List Pg) (a : Addr) (pg : List (Int × Int)) : (setPg S a pg).map (·.2.1) = S.map (·.2.1) := by
  unfold setPg
  rw [List.map_map]
  refine List.map_congr_left fun e _ => ?_
  show (if e.2.1 = a then (e.1, a, pg) else e).2.1 = e.2.1
  split
  · rename_i h
    exact h.symm
  · rfl
theorem setPg_kvs (S : List Pg) (a : Addr) (pg : List (Int × Int)) : shKvs (setPg S a pg) = shKvs S := by
  unfold shKvs setPg
  rw [List.map_map]
  refine List.map_congr_left fun e _ => ?_
  show (tk (if e.2.1 = a then (e.1, a, pg) else e).1, V.ref (if e.2.1 = a then (e.1, a, pg) else e).2.1) = (tk e.1, V.ref e.2.1)
  split
  · rename_i h
    rw [h]
  · rfl
theorem pgS_set : ∀ {S : List Pg} {e : Pg} {pg : List (Int × Int)}, e ∈ S → (S.map (·.1)).Nodup → (S.map (·.2.1)).Nodup → ∀ k, pgS (setPg S e.2.1 pg) k = if k = e.1 then pg else pgS S k
  | [], _, _, h, _, _, _ => by cases h
  | x :: r, e, pg, h, nk, na, k => by
    rw [List.map_cons, List.nodup_cons] at nk na
    unfold pgS setPg
    rw [List.map_cons]
    by_cases hx : x.2.1 = e.2.1
    · have hxe : x = e := by
        rcases List.mem_cons.mp h with q | q
        · exact q.symm
        · exact absurd (List.mem_map.mpr ⟨e, q, hx.symm⟩) na.1
      subst hxe
      rw [if_pos rfl]
      by_cases hk : x.1 = k
      · rw [List.find?_cons_of_pos (by simpa using hk), if_pos hk.symm]
      · rw [List.find?_cons_of_neg (by simpa using hk), if_neg fun z => hk z.symm, List.find?_cons_of_neg (by simpa using hk)]
        have er : r.map (fun e => if e.2.1 = x.2.1 then (e.1, x.2.1, pg) else e) = r := by
          have : ∀ y ∈ r, (fun e : Pg => if e.2.1 = x.2.1 then (e.1, x.2.1, pg) else e) y = y := fun y hy => if_neg fun z => na.1 (List.mem_map.mpr ⟨y, hy, z⟩)
          rw [List.map_congr_left this, List.map_id']
        rw [er]
    · rw [if_neg hx]
      have he : e ∈ r := by
        rcases List.mem_cons.mp h with q | q
        · exact absurd (by rw [q]) hx
        · exact q
      have ih := pgS_set (pg := pg) he nk.2 na.2 k
      unfold pgS setPg at ih
      by_cases hk : x.1 = k
      · rw [List.find?_cons_of_pos (by simpa using hk), List.find?_cons_of_pos (by simpa using hk)]
        have : ¬ k = e.1 := fun z => nk.1 (List.mem_map.mpr ⟨e, he, by rw [← z, hk]⟩)
        rw [if_neg this]
      · rw [List.find?_cons_of_neg (by simpa using hk), List.find?_cons_of_neg (by simpa using hk)]
        exact ih
theorem pgS_snoc {S : List Pg} {k : Str} {a : Addr} {pg : List (Int × Int)} (h : S.find? (fun e => decide (e.1 = k)) = none) (j : Str) : pgS (S ++ [(k, a, pg)]) j = if j = k then pg else pgS S j := by
  unfold pgS
  rw [List.find?_append]
  by_cases e : j = k
  · subst e
    rw [h, if_pos rfl]
    simp
  · rw [if_neg e]
    cases q : S.find? (fun e => decide (e.1 = j)) with
    | some y => rfl
    | none =>
      have : ¬ k = j := fun z => e z.symm
      simp [this]
/-! ### the promises of the methods -/
def spShInit (C : Addr) : Sp := fun vs H Q _ => ∃ (p dx : Addr), vs = [.ref p] ∧ H p = some (.ins C dx []) ∧ ∀ (d : Addr) (H' : Hp), H d = none → ShelfAt C H' p [d] [] → (∀ b o, H b = some o → b ≠ p → H' b = some o) → Q .non H'
def spShPut (C : Addr) : Sp := fun vs H Q _ => ∃ (p : Addr) (F : List Addr) (ps : List Put) (k : Str) (t v : Int), vs = [.ref p, .str k, .int t, .int v] ∧ ShelfAt C H p F ps ∧ ps.length ≤ 900 ∧
  ∀ (F' : List Addr) (H' : Hp), ShelfAt C H' p F' (ps ++ [(k, t, v)]) → (∀ b ∈ F', b ∈ F ∨ H b = none) → (∀ b o, H b = some o → b ∉ F → H' b = some o) → Q .non H'
def spShAt (C : Addr) : Sp := fun vs H Q _ => ∃ (p : Addr) (F : List Addr) (ps : List Put) (k : Str) (m : Int), vs = [.ref p, .str k, .int m] ∧ ShelfAt C H p F ps ∧ ps.length ≤ 900 ∧
  ∀ (r : Int) (H' : Hp), AtR (pgOf ps k) m r → Same H H' → Q (.int r) H'
structure ShCls (K : PySem.W.Frag) (C : Addr) : Prop where
  cl : Cls K C
  nP : NoAttr K C "pages"
end FB

namespace FB
open PySem PySem.Spec PyProof.Rows L2
/-! ### max of a dict whose keys are ints -/
theorem best_le (val : Nat → Int) : ∀ n, argBest (fun i j => decide (val i > val j)) n ≤ n
  | 0 => Nat.le_refl _
  | n + 1 => by
    have ih := best_le val n
    show (if decide (val (n + 1) > val (argBest (fun i j => decide (val i > val j)) n)) = true then n + 1 else argBest (fun i j => decide (val i > val j)) n) ≤ n + 1
    split <;> omega
theorem best_max (val : Nat → Int) : ∀ n j, j ≤ n → val j ≤ val (argBest (fun i j => decide (val i > val j)) n)
  | 0, j, h => by
    have : j = 0 := by omega
    rw [this]
    exact Int.le_refl _
  | n + 1, j, h => by
    have ih := best_max val n
    show val j ≤ val (if decide (val (n + 1) > val (argBest (fun i j => decide (val i > val j)) n)) = true then n + 1 else argBest (fun i j => decide (val i > val j)) n)
    by_cases hc : val (n + 1) > val (argBest (fun i j => decide (val i > val j)) n)
    · rw [if_pos (decide_eq_true hc)]
      by_cases hj : j = n + 1
      · rw [hj]
        exact Int.le_refl _
      · have := ih j (by omega)
        omega
    · rw [if_neg (by rw [decide_eq_false hc]; decide)]
      by_cases hj : j = n + 1
      · rw [hj]
        omega
      · exact ih j (by omega)
theorem paired_get {α β : Type} {R : α → β → Prop} : ∀ {xs : List α} {ys : List β} {i : Nat} {x : α}, Paired R xs ys → xs[i]? = some x → ∃ y, ys[i]? = some y ∧ R x y
  | _, _, _, _, .nil, h => by simp at h
  | _, _, 0, _, .cons r _, h => ⟨_, rfl, by
    have e := Option.some.inj h
    rw [← e]
    exact r⟩
  | _, _, i + 1, x, .cons _ t, h => by
    obtain ⟨y, h1, h2⟩ := paired_get (i := i) (x := x) t (by simpa using h)
    exact ⟨y, by simpa using h1, h2⟩
theorem cr_maxPg {X : Cx} (hc : X.calm = true) : CallR X (.builtin "max") (fun vs H Q => ∃ (a : Addr) (pg : List (Int × Int)), vs = [.ref a] ∧ H a = some (.dK (pgKvs pg)) ∧ pg ≠ [] ∧ ∀ m, m ∈ pg.map (·.1) → (∀ y ∈ pg.map (·.1), y ≤ m) → Q (.int m) H) := by
  intro pins s σ H vs us Q I r h
  obtain ⟨a, pg, rfl, ha, hne, q⟩ := h
  rw [Vals.ref1 r]
  obtain ⟨_, hsys, ws, rel, dd⟩ := dk_of I.hok ha
  obtain ⟨es, ep, hR, hsz, hes⟩ := dd.raw
  have hwl : ws.length = pg.length := by
    have h1 : (pgKvs pg).length = ws.length := Paired.length rel
    unfold pgKvs at h1
    rw [List.length_map] at h1
    exact h1.symm
  have hkey : ∀ i (hi : i < es.size), ∃ t, es[i].key = .int (pg[i]'(by omega)).1 t := fun i hi => by
    have hip : i < pg.length := by omega
    have hiw : i < ws.length := by omega
    have e1 := hes i hi ws[i].1 ws[i].2 (List.getElem?_eq_getElem hiw)
    have e2 : (pgKvs pg)[i]? = some ((Sum.inl pg[i].1 : Key), V.int pg[i].2) := by
      unfold pgKvs
      rw [List.getElem?_map, List.getElem?_eq_getElem hip]
      rfl
    obtain ⟨y, hy, ry⟩ := paired_get rel e2
    rw [List.getElem?_eq_getElem hiw] at hy
    cases hy
    have e3 := e1.1
    rw [← ry.1] at e3
    rcases keyIs_shape (show keyIs (Sum.inl pg[i].1) es[i].key = true from e3) with ⟨j, t, e4, e5⟩ | ⟨x, t, e4, _⟩
    · cases e4
      exact ⟨t, e5⟩
    · cases e4
  have hlt : a < s.heap.objs.size := (I.hok a _ ha).lt
  refine call_max_walk (wpAny_pyIter_dict_raw hsys hR ?_)
  refine ⟨_, [_, a], [_], _, _, _, _, rfl, Walks.rawKeys (A := X.A.in1) (I.ok.hd hc) _ a (Nat.ne_of_lt hlt) es ep, ⟨⟨_, Heap.get?_push_size _ rfl, rfl, rfl⟩, hR.at fun o e => Heap.get?_push_of_some _ e⟩, fun b hb => ?_, by rw [hsz, hwl]; exact List.length_pos_iff.mpr hne,
    CmpOf.ints_gt (fun i => (pg.getD i (0, 0)).1) (fun i v hv => ?_), fun v h' tk hP hk => ?_⟩
  · rw [Heap.size_push]
    rcases List.mem_cons.mp hb with rfl | hb
    · exact Nat.lt_succ_self _
    · rw [show b = a by simpa using hb]
      exact Nat.lt_succ_of_lt hlt
  · obtain ⟨hi, rfl⟩ := hv
    obtain ⟨t, ht⟩ := hkey i hi
    refine ⟨t, ?_⟩
    rw [ht]
    show Value.int (pg[i]'(by omega)).1 t = Value.int (pg.getD i (0, 0)).1 t
    rw [List.getD_eq_getElem?_getD, List.getElem?_eq_getElem (show i < pg.length by omega)]
    rfl
  · obtain ⟨hi, rfl⟩ := hP
    obtain ⟨t, ht⟩ := hkey _ hi
    have hb := best_le (fun i => (pg.getD i (0, 0)).1) (es.size - 1)
    have hold : ∀ b o, s.heap.get? b = some o → h'.get? b = some o := fun b o e => hk b o (fun hm => by
      have h1 := Heap.lt_size e
      rw [show b = s.heap.objs.size by simpa using hm] at h1
      exact Nat.lt_irrefl _ h1) (Heap.get?_push_of_some _ e)
    refine ⟨.int _, H, I.kept hold, ⟨t, ht⟩, q _ (List.mem_map.mpr ⟨_, List.getElem_mem _, rfl⟩) fun y hy => ?_⟩
    obtain ⟨z, hz, rfl⟩ := List.mem_map.mp hy
    obtain ⟨j, hj, rfl⟩ := List.getElem_of_mem hz
    have hm := best_max (fun i => (pg.getD i (0, 0)).1) (es.size - 1) j (by omega)
    have g : ∀ n (hn : n < pg.length), (pg.getD n (0, 0)).1 = pg[n].1 := fun n hn => by
      rw [List.getD_eq_getElem?_getD, List.getElem?_eq_getElem hn]
      rfl
    have hm' : (pg.getD j (0, 0)).1 ≤ (pg.getD (argBest (fun i j => decide ((pg.getD i (0, 0)).1 > (pg.getD j (0, 0)).1)) (es.size - 1)) (0, 0)).1 := hm
    rw [g j hj, g _ (by omega)] at hm'
    exact hm'
end FB

namespace FB
open PySem PySem.Spec PyProof.Rows L2
/-! ### the order of tuples of ints and texts -/
def klt : Key → Key → Bool
  | .inl a, .inl b => decide (a < b)
  | .inr x, .inr y => ltS x y
  | .inl _, .inr _ => true
  | .inr _, .inl _ => false
theorem klt_irrefl : ∀ a, klt a a = false
  | .inl a => decide_eq_false (Int.lt_irrefl a)
  | .inr x => ltS_irrefl x
theorem klt_trans : ∀ {a b c : Key}, klt a b = true → klt b c = true → klt a c = true
  | .inl a, .inl b, .inl c, h, h' => decide_eq_true (Int.lt_trans (of_decide_eq_true h) (of_decide_eq_true h'))
  | .inr a, .inr b, .inr c, h, h' => ltS_trans h h'
  | .inl _, .inl _, .inr _, _, _ => rfl
  | .inl _, .inr _, .inr _, _, _ => rfl
  | .inl _, .inr _, .inl _, _, h' => by cases h'
  | .inr _, .inl _, _, h, _ => by cases h
  | .inr _, .inr _, .inl _, _, h' => by cases h'
theorem klt_tri : ∀ {a b : Key}, klt b a = false → a ≠ b → klt a b = true
  | .inl a, .inl b, h, n => by
    have h1 : ¬ b < a := of_decide_eq_false h
    have h2 : a ≠ b := fun e => n (by rw [e])
    exact decide_eq_true (by omega)
  | .inr a, .inr b, h, n => ltS_tri h fun e => n (by rw [e])
  | .inl _, .inr _, _, _ => rfl
  | .inr _, .inl _, h, _ => by cases h
def llt : List Key → List Key → Bool
  | [], [] => false
  | [], _ :: _ => true
  | _ :: _, [] => false
  | a :: r, b :: q => if a = b then llt r q else klt a b
theorem llt_irrefl : ∀ a, llt a a = false
  | [] => rfl
  | a :: r => by
    rw [llt, if_pos rfl]
    exact llt_irrefl r
theorem llt_trans : ∀ {a b c : List Key}, llt a b = true → llt b c = true → llt a c = true
  | [], [], _, h, _ => by cases h
  | [], _ :: _, [], _, h' => by cases h'
  | [], _ :: _, _ :: _, _, _ => rfl
  | _ :: _, [], _, h, _ => by cases h
  | _ :: _, _ :: _, [], _, h' => by cases h'
  | a :: r, b :: q, c :: p, h, h' => by
    rw [llt] at h h' ⊢
    by_cases e1 : a = b
    · rw [if_pos e1] at h
      by_cases e2 : b = c
      · rw [if_pos e2] at h'
        rw [if_pos (e1.trans e2)]
        exact llt_trans h h'
      · rw [if_neg e2] at h'
        rw [e1, if_neg e2]
        exact h'
    · rw [if_neg e1] at h
      by_cases e2 : b = c
      · rw [← e2, if_neg e1]
        exact h
      · rw [if_neg e2] at h'
        have ht := klt_trans h h'
        have hne : a ≠ c := fun e => by
          rw [e, klt_irrefl] at ht
          cases ht
        rw [if_neg hne]
        exact ht
theorem llt_tri : ∀ {a b : List Key}, llt b a = false → a ≠ b → llt a b = true
  | [], [], _, n => absurd rfl n
  | [], _ :: _, _, _ => rfl
  | _ :: _, [], h, _ => by cases h
  | a :: r, b :: q, h, n => by
    rw [llt] at h ⊢
    by_cases e : a = b
    · rw [if_pos e.symm] at h
      rw [if_pos e]
      exact llt_tri h fun z => n (by rw [e, z])
    · rw [if_neg fun z => e z.symm] at h
      rw [if_neg e]
      exact klt_tri h e
theorem llt_asymm {a b : List Key} (h : llt a b = true) : llt b a = false := by
  cases e : llt b a with
  | false => rfl
  | true => exact absurd (llt_trans h e) (by rw [llt_irrefl]; decide)
theorem llt_swo {α : Type} (k : α → List Key) : SrtO.Swo fun x y => llt (k x) (k y) := by
  refine ⟨fun x y h => llt_asymm h, fun x y z h1 h2 => ?_⟩
  cases e : llt (k z) (k x) with
  | false => rfl
  | true =>
    exfalso
    by_cases e1 : k x = k y
    · rw [e1] at e
      have : llt (k z) (k y) = false := h2
      rw [e] at this
      cases this
    · have h3 : llt (k x) (k y) = true := llt_tri h1 e1
      have h4 := llt_trans e h3
      have : llt (k z) (k y) = false := h2
      rw [h4] at this
      cases this
/-! ### sorted of such tuples -/
def isI : Key → Bool
  | .inl _ => true
  | .inr _ => false
def shp (l : List Key) : List Bool := l.map isI
/-- the values of a tuple's items -/
inductive KVals : List Key → List Value → Prop
  | nil : KVals [] []
  | int (i : Int) (t : Tok) {l : List Key} {us : List Value} : KVals l us → KVals (.inl i :: l) (.int i t :: us)
  | str (x : Str) (t : Tok) {l : List Key} {us : List Value} : KVals l us → KVals (.inr x :: l) (.str x t :: us)
theorem kvals_of : ∀ {l : List Key} {us : List Value}, Vals (l.map kV) us → KVals l us
  | [], _, .nil => .nil
  | .inl i :: l, _, .cons h r => by
    obtain ⟨t, rfl⟩ := h
    exact .int i t (kvals_of r)
  | .inr x :: l, _, .cons h r => by
    obtain ⟨t, rfl⟩ := h
    exact .str x t (kvals_of r)
theorem KVals.len : ∀ {l : List Key} {us : List Value}, KVals l us → us.length = l.length
  | _, _, .nil => rfl
  | _, _, .int _ _ r => by rw [List.length_cons, List.length_cons, r.len]
  | _, _, .str _ _ r => by rw [List.length_cons, List.length_cons, r.len]
def IsTup (h : Heap) (v : Value) (l : List Key) : Prop := ∃ a o us n, v = .ref a ∧ h.get? a = some o ∧ o.cls = .type "tuple" ∧ o.data = .seq (List.toArray us) n ∧ KVals l us
theorem IsTup.keeps {h h' : Heap} {v : Value} {l : List Key} (p : IsTup h v l) (k : ∀ b o, h.get? b = some o → o.cls = .type "tuple" → h'.get? b = some o) : IsTup h' v l := by
  obtain ⟨a, o, us, n, e, ho, hc, hd, r⟩ := p
  exact ⟨a, o, us, n, e, k _ _ ho hc, hc, hd, r⟩
section
variable {prog : Program} {w : World} {A : Around} {E : Value → Shared → Prop} {s : Shared}
theorem lex_at {Q : Bool → Shared → Prop} {b : Bool} : ∀ {l m : List Key} {us vs : List Value} (i : Nat), KVals l us → KVals m vs → shp l = shp m → Q (llt l m) s → PySem.W.KatLex prog w A b (decide (us.length < vs.length)) Q (us.zip vs) i s
  | [], [], _, _, i, .nil, .nil, _, q => PySem.W.kat_nil (by
    rw [show decide (([] : List Value).length < ([] : List Value).length) = false from rfl]
    exact q)
  | .inl x :: l, .inl y :: m, _, _, i, .int _ t r, .int _ u r', e, q => by
    have e' : shp l = shp m := (List.cons.inj e).2
    refine PySem.W.kat_cons (SeqAt.EqAt.int_int x t y u prog w _ _ ?_)
    refine PySem.W.kat_go (fun e1 => ?_) (fun e1 => ?_)
    · have ex : x = y := by simpa using e1
      refine PySem.W.kat_yes ?_
      have := lex_at (Q := Q) (b := b) (i + 1) r r' e' (by rw [llt, if_pos (by rw [ex])] at q; exact q)
      simpa [List.zip] using this
    · have ex : ¬ x = y := by simpa using e1
      refine PySem.W.kat_no (oneLt_any_int ?_)
      rw [llt, if_neg (fun z => ex (Sum.inl.inj z))] at q
      exact q
  | .inr x :: l, .inr y :: m, _, _, i, .str _ t r, .str _ u r', e, q => by
    have e' : shp l = shp m := (List.cons.inj e).2
    refine PySem.W.kat_cons (SeqAt.EqAt.str_str x t y u prog w _ _ ?_)
    refine PySem.W.kat_go (fun e1 => ?_) (fun e1 => ?_)
    · have ex : x = y := by simpa using e1
      refine PySem.W.kat_yes ?_
      have := lex_at (Q := Q) (b := b) (i + 1) r r' e' (by rw [llt, if_pos (by rw [ex])] at q; exact q)
      simpa [List.zip] using this
    · have ex : ¬ x = y := by simpa using e1
      refine PySem.W.kat_no (oneLt_any_str ?_)
      rw [llt, if_neg (fun z => ex (Sum.inr.inj z))] at q
      exact q
  | .inl _ :: _, .inr _ :: _, _, _, _, _, _, e, _ => by cases e
  | .inr _ :: _, .inl _ :: _, _, _, _, _, _, e, _ => by cases e
  | [], _ :: _, _, _, _, _, _, e, _ => by cases e
  | _ :: _, [], _, _, _, _, _, e, _ => by cases e
theorem tup_cmp {vs : List Value} {k : Value → List Key} {sh : List Bool} {b : Bool} (hp : ∀ v ∈ vs, IsTup s.heap v (k v) ∧ shp (k v) = sh) : SrtO.Cmp prog w A s (tuples' b) (fun p => p.1 ∈ vs) (SrtO.lt2 fun v u => llt (k v) (k u)) := by
  intro p q hm hm'
  obtain ⟨h1, s1⟩ := hp _ hm
  obtain ⟨h2, s2⟩ := hp _ hm'
  show wpAny (model prog w) A (keyLt' (tuples' b) p.1 q.1) (fun r s' => s' = s ∧ r = llt (k p.1) (k q.1)) (fun _ _ => False) s
  obtain ⟨a, o, us, n, e, ho, hc, hd, r⟩ := h1
  obtain ⟨a', o', us', n', e', ho', hc', hd', r'⟩ := h2
  generalize k p.1 = kp at r s1 ⊢
  generalize k q.1 = kq at r' s2 ⊢
  rw [e, e']
  refine PySem.W.kat_lt ho hd ho' hd' ?_
  have := lex_at (prog := prog) (w := w) (A := A) (s := s) (Q := fun r s' => s' = s ∧ r = llt kp kq) (b := b) 0 r r' (s1.trans s2.symm) ⟨rfl, rfl⟩
  simpa using this
theorem firsts_tup {h : Heap} {k : Value → List Key} {c : Bool} {sh : List Bool} : ∀ {vs : List Value}, (∀ v ∈ vs, IsTup h v (k v) ∧ shp (k v) = c :: sh) → ∃ fs : List Value, PySem.W.KatTups h vs fs ∧ fs.length = vs.length ∧ ∀ f ∈ fs, if c = true then ∃ x t, f = Value.int x t else ∃ x t, f = Value.str x t
  | [], _ => ⟨[], PySem.W.KatTups.nil, rfl, fun _ hm => by simp at hm⟩
  | v :: vs, hp => by
    obtain ⟨fs, h1, h2, h3⟩ := firsts_tup (vs := vs) fun v' hm => hp v' (List.mem_cons_of_mem _ hm)
    obtain ⟨⟨a, o, us, n, e, ho, hc, hd, r⟩, es⟩ := hp v (List.mem_cons_self ..)
    generalize k v = l at r es
    subst e
    cases r with
    | nil => cases es
    | int i t r =>
      have ec : true = c := (List.cons.inj es).1
      refine ⟨.int i t :: fs, PySem.W.KatTups.cons ho hc hd rfl h1, by rw [List.length_cons, List.length_cons, h2], fun f hm => ?_⟩
      rcases List.mem_cons.mp hm with rfl | hm
      · rw [← ec, if_pos rfl]
        exact ⟨i, t, rfl⟩
      · exact h3 f hm
    | str x t r =>
      have ec : false = c := (List.cons.inj es).1
      refine ⟨.str x t :: fs, PySem.W.KatTups.cons ho hc hd rfl h1, by rw [List.length_cons, List.length_cons, h2], fun f hm => ?_⟩
      rcases List.mem_cons.mp hm with rfl | hm
      · rw [← ec, if_neg (by decide)]
        exact ⟨x, t, rfl⟩
      · exact h3 f hm
theorem tups_sortable {a : Addr} {vs : List Value} {k : Value → List Key} {c : Bool} {sh : List Bool} (h0 : 0 < vs.length) (hp : ∀ v ∈ vs, IsTup s.heap v (k v) ∧ shp (k v) = c :: sh) (ha : ∀ o, s.heap.get? a = some o → o.cls ≠ .type "tuple") : SrtO.SortableO prog w A s a vs fun v u => llt (k v) (k u) := by
  intro h' keep
  have hp' : ∀ v ∈ vs, IsTup h' v (k v) ∧ shp (k v) = c :: sh := fun v hm => ⟨(hp v hm).1.keeps fun b o e c => keep b o (fun z => by subst z; exact ha o e c) e, (hp v hm).2⟩
  obtain ⟨fs, h1, h2, h3⟩ := firsts_tup hp'
  refine ⟨tuples' true, fun Q E hq => ?_, tup_cmp hp'⟩
  cases c with
  | true =>
    refine PySem.W.kat_kind (T := .type "int") h1 (by omega) (fun f hm => ?_) (by rfl) ?_
    · have := h3 f hm
      rw [if_pos rfl] at this
      obtain ⟨x, t, rfl⟩ := this
      exact PySem.W.Looks.now
    · have e : (Value.type "int" != Value.type "tuple") = true := by first | decide +kernel | rfl | decide
      rw [e]
      exact hq
  | false =>
    refine PySem.W.kat_kind (T := .type "str") h1 (by omega) (fun f hm => ?_) (by rfl) ?_
    · have := h3 f hm
      rw [if_neg (by decide)] at this
      obtain ⟨x, t, rfl⟩ := this
      exact PySem.W.Looks.now
    · have e : (Value.type "str" != Value.type "tuple") = true := by first | decide +kernel | rfl | decide
      rw [e]
      exact hq
theorem sorted_tups {l : Addr} {vs : List Value} {k : Value → List Key} {c : Bool} {sh : List Bool} {Q : Value → Shared → Prop} (hl : s.heap.IsList l vs.toArray) (hz : vs.length ≤ sizeLine) (hp : ∀ v ∈ vs, IsTup s.heap v (k v) ∧ shp (k v) = c :: sh)
    (h : ∀ (h' : Heap) (d : Addr) (out : List Value), SrtO.Srtd (fun v u => llt (k v) (k u)) out → SrtO.Stb (fun v u => llt (k v) (k u)) out vs → (∀ b o, s.heap.get? b = some o → h'.get? b = some o) → s.heap.objs.size ≤ d → (∃ n, h'.get? d = some (seqObj "list" out.toArray n)) → Q (.ref d) { s with heap := h' }) :
    wpAny (model prog w) A (call (.builtin "sorted") [.ref l]) Q E s := by
  refine SrtO.sorted_ord (llt_swo k) hl hz (fun h2 h₁ a ha kk => ?_) fun out hs hb => ?_
  · refine tups_sortable (s := { s with heap := h₁ }) (by omega) (fun v hm => ⟨(hp v hm).1.keeps fun b o e _ => (kk b o e).2, (hp v hm).2⟩) fun o e => ?_
    have e' : some o = some (seqObj "list" vs.toArray 0) := e.symm.trans ha
    cases e'
    intro c
    exact absurd (Value.type.inj c) (by decide)
  · exact h _ _ out hs hb (fun b o e => sortedAll_old e) (Nat.le_succ _) (sortedAll_at s.heap vs out.toArray)
end
/-- sorted(xs), xs a list of tuples of ints and texts that are alike: a new list, sorted -/
def rSortedTup (K : PySem.W.Frag) : List V → Hp → VK → Prop := fun vs H Q => ∃ (a : Addr) (xs : List V) (k : V → List Key) (c : Bool) (sh : List Bool), vs = [V.ref a] ∧ SqL K H a xs ∧ (∀ x ∈ xs, ∃ t, x = V.ref t ∧ H t = some (.tup ((k x).map kV)) ∧ shp (k x) = c :: sh) ∧
  ∀ ys p, SrtO.Srtd (fun x y => llt (k x) (k y)) ys → ys.Perm xs → H p = none → Q (.ref p) (upd H p (.lst ys))
theorem cr_sortedTup {X : Cx} : CallR X (.builtin "sorted") (rSortedTup X.K) := by
  intro pins s σ H vs us Q I r h
  obtain ⟨a, xs, k, c, sh, rfl, hs, hx, q⟩ := h
  obtain ⟨its, rv, hl, hz⟩ := I.list hs
  obtain ⟨u, rfl, ru⟩ := vals1 r
  obtain rfl : u = Value.ref a := ru
  obtain ⟨e1, e2⟩ := refs_back rv fun x m => by
    obtain ⟨t, e, _⟩ := hx x m
    exact ⟨t, e⟩
  refine sorted_tups (k := fun u => k (backV u)) (c := c) (sh := sh) hl.isList (by rw [← rv.length]; exact hz) (fun v hv => ?_) fun h' d out h1 h2 kp hd hn => ?_
  · obtain ⟨t, rfl⟩ := e2 v hv
    have hm : V.ref t ∈ xs := by rw [e1]; exact List.mem_map.mpr ⟨_, hv, rfl⟩
    obtain ⟨t', e, ht, hsh⟩ := hx _ hm
    cases e
    obtain ⟨_, its2, r2, o, ho, hc, n, hd⟩ := I.hok _ _ ht
    exact ⟨⟨t, o, its2, n, rfl, ho, hc, hd, kvals_of r2⟩, hsh⟩
  · have h3 : ∀ u ∈ out, ∃ a, u = Value.ref a := fun u hu => e2 u (h2.perm.mem_iff.mp hu)
    obtain ⟨n, hn⟩ := hn
    have hb : (out.map backV).Perm xs := by
      rw [e1]
      exact h2.perm.map backV
    refine ⟨.ref d, upd H d (.lst (out.map backV)), I.laid (t' := s.toks) kp hd ⟨?_, out, n, vals_back h3, hn⟩, rfl, q _ d (SrtO.srtd_map (lt := fun x y => llt (k x) (k y)) h1) hb (I.hok.fresh hd)⟩
    rw [hb.length_eq]
    exact hz
end FB

namespace FB
open PySem PySem.Spec PyProof.Rows L2
/-! ### setdefault of a dict whose keys are tuples -/
def tDSetdT (td ty tx : TE) : TE := fun σ H Q => td σ H fun x H1 => ∃ a, x = .ref a ∧ IsD H1 a ∧ ty σ H1 fun y H2 => tx σ H2 fun z H3 => ∃ (kvs : List (List Key × V)) (k : List Key) (b : Addr), H3 a = some (.dT kvs) ∧ y = .ref b ∧ H3 b = some (.tup (k.map kV)) ∧ kvs.length < sizeLine ∧
  (∀ v, valV kvs k = some v → Q v H3) ∧ (valV kvs k = none → Q z (upd H3 a (.dT (putK kvs k z))))
section
variable {X : Cx} {o e f : Expr} {td ty tx : TE} {apos cpos : Pos}
theorem pe_dsetdT (hu : X.A.units + 1 < cLine) (ho : PE X o td) (he : PE X e ty) (hf : PE X f tx) (m : M2 X o "setdefault" apos e f cpos) : PE X (.Call (.Attribute o "setdefault" apos) [e, f] [] cpos) (tDSetdT td ty tx) := by
  refine ⟨fun pins s σ H Q I h => ?_⟩
  refine wpAny_Call_method m.base m.few m.line PySem.F.plainAttrs_dict PySem.F.slot_dict_setdefault PySem.F.type_dict_setdefault (thn (ho.run pins s σ H _ I h) fun u s1 q0 => ?_)
  obtain ⟨x, H1, I1, rx, a, rfl, d, q1⟩ := q0
  obtain rfl : u = Value.ref a := rx
  obtain ⟨t1, t2, hsm⟩ := isD_at I1 d
  refine ⟨t1, t2, ?_⟩
  rw [m.trees]
  refine Calls.callWith_builtin rfl (Calls.evalArgs_plain (Calls.spliced_cons (thn (he.run pins s1 σ H1 _ I1 q1) fun iv s2 p2 => ?_)))
  obtain ⟨y, H2, I2, ry, q2⟩ := p2
  refine Calls.spliced_cons (thn (hf.run pins s2 σ H2 _ I2 q2) fun fv s3 p3 => ?_)
  obtain ⟨z, H3, I3, rz, kvs, k, b, ea, rfl, eb, hl, q3, q4⟩ := p3
  obtain rfl : iv = Value.ref b := ry
  refine Calls.spliced_nil ?_
  obtain ⟨zz, hd, xs, rel, dd⟩ := dt_of I3.hok ea
  have hz : xs.length ≤ sizeLine := by
    rw [← Paired.length rel]
    exact zz
  have hv := rel.val k
  refine call_setdefault_heap (hsz := hz) (tupleKind_room_in1 hu) (key_of I3.hok eb) hd dd (fun p hp => ?_) fun hn h' dd' hs => ?_
  · rw [hp] at hv
    cases q0 : valV kvs k with
    | none =>
      rw [q0] at hv
      exact (show False from hv).elim
    | some v0 =>
      rw [q0] at hv
      exact ⟨v0, H3, I3.tok _, hv, q3 v0 q0⟩
  · rw [hn] at hv
    cases q0 : valV kvs k with
    | some v0 =>
      rw [q0] at hv
      exact (show False from hv).elim
    | none =>
      have hl2 : (putK kvs k z).length ≤ sizeLine := by
        have := length_putK kvs k z
        omega
      obtain ⟨ob, es, ep, hq, h2, h3, h4, _, h5⟩ := dd'
      refine ⟨z, upd H3 a (.dT (putK kvs k z)), d_write I3 (by rw [ea]; exact True.intro) hs ⟨ob, hq⟩ ⟨hl2, hd, _, (rel.put k eb rz).keeps fun c ys ec => ?_, ob, es, ep, hq, h2, h3, h4, h5⟩, rz, q4 q0⟩
      rw [upd_ne (ne_of ec ea (fun z => nomatch z))]
      exact ec
end
end FB

namespace FB
open PySem PySem.Spec PyProof.Rows L2
/-! ### list(reversed(xs)) -/
section
variable {prog : Program} {w : World} {A : Around} {E : Value → Shared → Prop} {s : Shared}
theorem list_of_rev {it l : Addr} {items : Array Value} {Q : Value → Shared → Prop} (hh : A.handled = none) (hit : s.heap.IsRevIter it l ((items.size : Int) - 1)) (hl : s.heap.IsList l items) (hne : l ≠ it) (hn : items.size ≤ sizeLine)
    (hQ : ∀ (h' : Heap) (tk : Nat) (acc : Array Value) (c : Nat), (∀ b o, b ≠ it → s.heap.get? b = some o → h'.get? b = some o) → h'.get? s.heap.objs.size = some { cls := .type "list", dict := none, data := .seq acc c, slots := #[] } → ItemsOf (fun i v => items[items.size - 1 - i]? = some v) acc items.size → Q (.ref s.heap.objs.size) { s with heap := h', toks := tk }) :
    wpAny (model prog w) A (call (.type "list") [.ref it]) Q E s := by
  obtain ⟨oi, hoi, hoc, hod⟩ := _root_.id hit
  obtain ⟨ol, hol, hlc⟩ := _root_.id hl
  have zi := Heap.lt_size hoi
  have zl := Heap.lt_size hol
  refine callType_codes (Q₁ := fun obj s₁ => obj = .ref s.heap.objs.size ∧ s₁ = { s with heap := s.heap.push { cls := .type "list", data := .seq #[] } }) F.called_list (F.typeCall_list_1 _) F.entry_list_init (code_list_new _ ⟨rfl, rfl⟩) fun obj s₁ e => ?_
  obtain ⟨e1, e2⟩ := e
  subst e1
  subst e2
  have g0 : (s.heap.push { cls := .type "list", data := .seq #[] }).get? s.heap.objs.size = some { cls := .type "list", data := .seq #[] } := Heap.get?_push_size _ rfl
  refine ⟨⟨_, g0, rfl⟩, F.args_list_init_2 _ _, ?_⟩
  have W := (Walks.listRev (prog := prog) (w := w) (A := A.in1.in1) hh it l hne items).toS
  have out : s.heap.objs.size ∉ [it, l] := by
    simp only [List.mem_cons, List.not_mem_nil, or_false, not_or]
    exact ⟨Nat.ne_of_gt zi, Nat.ne_of_gt zl⟩
  show wpAny _ A.in1.in1 (do let old ← Builtin.List.listItems (.ref s.heap.objs.size); Builtin.List.listUpdate (.ref s.heap.objs.size) (fun _ => #[]); letGo old.toList.reverse; Builtin.List.listExtendWith (.ref s.heap.objs.size) (.ref it) .none) _ _ _
  refine wpAny_bind ?_
  unfold Builtin.List.listItems
  refine wpAny_bind (wpAny_seqItems g0 rfl (wpAny_pure ?_))
  show wpAny _ _ (updateSeq s.heap.objs.size (fun _ => #[]) >>= fun _ => letGo (#[] : Array Value).toList.reverse >>= fun _ => Builtin.List.listExtendWith (.ref s.heap.objs.size) (.ref it) .none) _ _ _
  refine wpAny_bind (wpAny_updateSeq g0 rfl ?_)
  have g1 := Heap.get?_update_self (Obj.mapSeq (fun _ => (#[] : Array Value))) g0 rfl
  have old1 : ∀ b o, b ≠ s.heap.objs.size → (s.heap.push { cls := .type "list", data := .seq #[] }).get? b = some o → ((s.heap.push { cls := .type "list", data := .seq #[] }).update s.heap.objs.size (Obj.mapSeq (fun _ => (#[] : Array Value)))).get? b = some o := fun b o hb e => (Heap.get?_update_other _ _ (Ne.symm hb)).trans e
  have old0 : ∀ b o, s.heap.get? b = some o → ((s.heap.push { cls := .type "list", data := .seq #[] }).update s.heap.objs.size (Obj.mapSeq (fun _ => (#[] : Array Value)))).get? b = some o := fun b o e => old1 b o (Nat.ne_of_lt (Heap.lt_size e)) (Heap.get?_push_of_some _ e)
  refine wpAny_bind (wpAny_letGo ?_)
  generalize (s.heap.push { cls := .type "list", data := .seq #[] }).update s.heap.objs.size (Obj.mapSeq (fun _ => (#[] : Array Value))) = h2 at g1 old0
  have hit2 : h2.IsRevIter it l ((items.size : Int) - 1) := hit.at fun o e => old0 _ _ e
  have hl2 : h2.IsList l items := ⟨ol, old0 _ _ hol, hlc⟩
  have ty2 : ({ s with heap := h2 } : Shared).TypeIs (.ref it) "list_reverseiterator" := ⟨oi, old0 _ _ hoi, hoc⟩
  have ns : Builtin.List.listSameRef (.ref s.heap.objs.size) (.ref it) = false := by simp [Builtin.List.listSameRef, Nat.ne_of_gt zi]
  unfold Builtin.List.listExtendWith
  refine wpAny_bind (wpAny_typeOf ty2 ?_)
  rw [if_neg (by rw [ns]; decide)]
  refine wpAny_bind (wpAny_pyIter_revIter (s := { s with heap := h2 }) hit2 ?_)
  refine wpAny_bind (wpAny_holding ?_)
  unfold Builtin.List.listLengthHint
  refine wpAny_bind (wpAny_specialOf ty2 RT.nolen_lri ?_)
  show wpAny _ _ (specialOf (Value.ref it) (Str.ofString "__length_hint__") >>= _) _ _ _
  refine wpAny_bind (wpAny_specialOf ty2 RT.hint_lri ?_)
  generalize hw : ("list_reverseiterator.__length_hint__" : String) = word
  wp_delta
  have sp : splitId word = some ("list_reverseiterator", "__length_hint__") := by
    rw [← hw]
    decide +kernel
  rw [sp]
  subst hw
  refine wpAny_bind (wpAny_isInstance (b := true) ty2 (by rw [isSubtype_type]; kernel_rfl) (wpAny_pure ?_))
  rw [if_neg (by decide)]
  have e0 : (items.size : Int) - 1 - ((0 : Nat) : Int) = (items.size : Int) - 1 := by omega
  refine wpAny_pure ⟨plainId_quiet F.plain_extend_loop _, codeAny_extend_loopS W hn _ out _ items.size 0 _ _ _ rfl (Nat.zero_le _) ⟨Nat.zero_le _, by rw [e0]; exact hit2, hl2⟩ g1 (ItemsOf.nil _) fun s' acc' c' hm gS hacc => ?_⟩
  refine ⟨rfl, ?_⟩
  rw [Moved.eq_with hm]
  refine hQ s'.heap s'.toks acc' c' (fun b o hb e => hm.heap b o (fun hmem => ?_) (old0 b o e)) gS hacc
  rcases List.mem_cons.mp hmem with z | z
  · exact absurd (Heap.lt_size e) (by rw [z]; exact Nat.lt_irrefl _)
  · exact hb (List.mem_singleton.mp z)
end
def tListRev (K : PySem.W.Frag) (te : TE) : TE := fun σ H Q => te σ H fun v H1 => ∃ (a : Addr) (xs : List V), v = .ref a ∧ SqL K H1 a xs ∧ ∀ q, H1 q = none → Q (.ref q) (upd H1 q (.lst xs.reverse))
section
variable {X : Cx}
theorem pe_listRev {e : Expr} {te : TE} {p p2 pos pos2 : Pos} (hc : X.calm = true) (hg : Gl X "list") (hm : X.mg "list" = none) (hg2 : Gl X "reversed") (hm2 : X.mg "reversed" = none) (he : PE X e te)
    (hv : bootBuiltins "list" = some (.type "list") := by decide +kernel)
    (hs : starEach [e] X.env = (false, eval e X.env) :: starEach [] X.env := by rfl)
    (hs2 : starEach [.Call (.Name "reversed" p2) [e] [] pos2] X.env = (false, eval (.Call (.Name "reversed" p2) [e] [] pos2) X.env) :: starEach [] X.env := by rfl) :
    PE X (.Call (.Name "list" p) [.Call (.Name "reversed" p2) [e] [] pos2] [] pos) (tListRev X.K te) := by
  refine ⟨fun pins s σ H Q I h => ?_⟩
  refine Call_ (ld_blt I hg hm hv (callWith_type1 (args_cons (Call_ (ld_blt I hg2 hm2 boot_reversed (callWith_type1 (args_cons (thn (he.run pins s σ H _ I h) fun u s1 q0 => args_nil ?_) hs) hs rfl))) hs2) hs2 rfl))
  obtain ⟨v, H1, I1, r1, a, xs, rfl, hq, q⟩ := q0
  obtain rfl : u = Value.ref a := r1
  obtain ⟨its, rv, p', hz⟩ := I1.list hq
  have hl := p'.isList
  refine call_reversed_list hl (args_nil ?_)
  obtain ⟨ol, hol, _⟩ := _root_.id hl
  have hna : a ≠ s1.heap.objs.size := Nat.ne_of_lt (Heap.lt_size hol)
  have hn : its.toArray.size ≤ sizeLine := by
    rw [List.size_toArray, ← rv.length]
    exact hz
  have I2 : Inv X pins σ H1 { s1 with heap := s1.heap.push (revObj a ((its.toArray.size : Int) - 1)) } := I1.kept (t' := s1.toks) fun b o e => Heap.get?_push_of_some _ e
  obtain ⟨f0, f1, f2, f3, f4, f5⟩ := I1.fpOk (H' := H1) (b := s1.heap.objs.size) (Nat.le_refl _) (I1.hok.fresh (Nat.le_refl _))
  refine list_of_rev (s := { s1 with heap := s1.heap.push (revObj a ((its.toArray.size : Int) - 1)) }) (I1.ok.hd hc) ⟨_, Heap.get?_push_size _ rfl, rfl, rfl⟩ (hl.push _) hna hn fun h' tk acc c hk gS hi => ?_
  have hge : s1.heap.objs.size ≤ (s1.heap.push (revObj a ((its.toArray.size : Int) - 1))).objs.size := by
    rw [Heap.size_push]
    exact Nat.le_succ _
  refine ⟨.ref (s1.heap.push (revObj a ((its.toArray.size : Int) - 1))).objs.size, upd H1 (s1.heap.push (revObj a ((its.toArray.size : Int) - 1))).objs.size (.lst xs.reverse), I1.laid (t' := tk) (fun b o e => hk b o (Nat.ne_of_lt (Heap.lt_size e)) (Heap.get?_push_of_some _ e)) hge
    (show ObjOk X.prog X.w _ _ _ (.lst xs.reverse) from ⟨by rw [List.length_reverse]; exact hz, acc.toList, c, RT.vals_rev rv hi, by rw [Array.toArray_toList]; exact gS⟩), rfl, q _ (I1.hok.fresh hge)⟩
end
/-! ### xs[::2], xs[1::2] -/
def evens {α : Type} : List α → List α
  | [] => []
  | [a] => [a]
  | a :: _ :: r => a :: evens r
def odds {α : Type} (l : List α) : List α := evens l.tail
theorem evens_map {α β : Type} (f : α → β) : ∀ l : List α, evens (l.map f) = (evens l).map f
  | [] => rfl
  | [_] => rfl
  | a :: _ :: r => congrArg (f a :: ·) (evens_map f r)
theorem odds_map {α β : Type} (f : α → β) (l : List α) : odds (l.map f) = (odds l).map f := by
  unfold odds
  rw [← List.map_tail, evens_map]
theorem odds_evens {α : Type} : ∀ l : List α, (odds l ++ evens l).Perm l
  | [] => List.Perm.nil
  | [a] => List.Perm.refl _
  | [a, b] => List.Perm.swap a b []
  | a :: b :: c :: r => by
    have ih := odds_evens (c :: r)
    have e1 : odds (a :: b :: c :: r) = b :: odds (c :: r) := rfl
    have e2 : evens (a :: b :: c :: r) = a :: evens (c :: r) := rfl
    rw [e1, e2]
    have h1 : (b :: odds (c :: r) ++ a :: evens (c :: r)).Perm (a :: (b :: odds (c :: r) ++ evens (c :: r))) := List.perm_middle
    exact h1.trans ((List.Perm.cons b ih).cons a)
theorem evens_len {α : Type} : ∀ l : List α, (evens l).length ≤ l.length
  | [] => Nat.le_refl _
  | [_] => Nat.le_refl _
  | a :: b :: r => by
    have := evens_len r
    show (evens r).length + 1 ≤ r.length + 1 + 1
    omega
theorem evens_vals : ∀ {xs : List V} {us : List Value}, Vals xs us → Vals (evens xs) (evens us)
  | _, _, .nil => .nil
  | _, _, .cons h .nil => .cons h .nil
  | _, _, .cons h (.cons _ t) => .cons h (evens_vals t)
theorem odds_vals {xs : List V} {us : List Value} (h : Vals xs us) : Vals (odds xs) (odds us) := by
  cases h with
  | nil => exact .nil
  | cons h t => exact evens_vals t
theorem fm_congr {α β : Type} {f g : α → Option β} : ∀ {l : List α}, (∀ x ∈ l, f x = g x) → l.filterMap f = l.filterMap g
  | [], _ => rfl
  | x :: r, h => by
    rw [List.filterMap_cons, List.filterMap_cons, h x (by simp), fm_congr fun y hy => h y (by simp [hy])]
theorem pick_evens {α : Type} : ∀ l : List α, (List.range ((l.length + 1) / 2)).filterMap (fun k => l[2 * k]?) = evens l
  | [] => by
    rw [show (([] : List α).length + 1) / 2 = 0 from (by decide : (0 + 1) / 2 = 0)]
    rfl
  | [a] => by
    rw [show ([a].length + 1) / 2 = 1 from (by decide : (1 + 1) / 2 = 1)]
    rfl
  | a :: b :: r => by
    have ih := pick_evens r
    have e : ((a :: b :: r).length + 1) / 2 = (r.length + 1) / 2 + 1 := by
      rw [List.length_cons, List.length_cons]
      omega
    rw [e, List.range_succ_eq_map, List.filterMap_cons]
    show a :: List.filterMap _ _ = a :: evens r
    rw [List.filterMap_map, ← ih]
    rfl
theorem pick2_0 (items : Array Value) : slicePick items none none (some 2) = (evens items.toList).toArray := by
  unfold slicePick
  rw [← pick_evens, show sliceBounds none none (some 2) items.size = (0, (items.size : Int), 2) from rfl]
  unfold sliceRange
  congr 1
  rw [if_pos (show (2 : Int) > 0 by decide)]
  by_cases h : (0 : Int) < (items.size : Int)
  · simp only [h, if_true]
    have e : (((items.size : Int) - 0 + 2 - 1) / 2).toNat = (items.toList.length + 1) / 2 := by
      rw [Array.length_toList]
      omega
    rw [e, List.filterMap_map]
    refine fm_congr fun k _ => ?_
    show items[(0 + 2 * (k : Int)).toNat]? = items.toList[2 * k]?
    rw [Array.getElem?_toList]
    congr 1
    omega
  · simp only [h, if_false]
    have e0 : items.toList.length = 0 := by
      rw [Array.length_toList]
      omega
    rw [e0]
    rfl
theorem pick2_1 (items : Array Value) : slicePick items (some 1) none (some 2) = (odds items.toList).toArray := by
  unfold slicePick odds
  rw [← pick_evens]
  by_cases h : (1 : Int) < (items.size : Int)
  · have eb : sliceBounds (some 1) none (some 2) items.size = (1, (items.size : Int), 2) := by
      show (max 0 (min (1 : Int) (items.size : Int)), (items.size : Int), (2 : Int)) = _
      rw [show max 0 (min (1 : Int) (items.size : Int)) = 1 by omega]
    rw [eb]
    unfold sliceRange
    congr 1
    rw [if_pos (show (2 : Int) > 0 by decide)]
    simp only [h, if_true]
    have e : (((items.size : Int) - 1 + 2 - 1) / 2).toNat = (items.toList.tail.length + 1) / 2 := by
      rw [List.length_tail, Array.length_toList]
      omega
    rw [e, List.filterMap_map]
    refine fm_congr fun k _ => ?_
    show items[(1 + 2 * (k : Int)).toNat]? = items.toList.tail[2 * k]?
    rw [List.getElem?_tail, Array.getElem?_toList]
    congr 1
    omega
  · have e0 : items.toList.tail.length = 0 := by
      rw [List.length_tail, Array.length_toList]
      omega
    rw [e0]
    have eb : sliceBounds (some 1) none (some 2) items.size = ((items.size : Int), (items.size : Int), 2) := by
      show (max 0 (min (1 : Int) (items.size : Int)), (items.size : Int), (2 : Int)) = _
      rw [show max 0 (min (1 : Int) (items.size : Int)) = (items.size : Int) by omega]
    rw [eb]
    unfold sliceRange
    congr 1
    rw [if_pos (show (2 : Int) > 0 by decide)]
    simp only [show ¬ (items.size : Int) < (items.size : Int) by omega, if_false]
    rfl
/-- xs[::2] (first none), xs[1::2] (first some 1): a new list -/
def tStep2 (K : PySem.W.Frag) (te : TE) (tl : TO) : TE := fun σ H Q => te σ H fun x H1 => tl σ H1 fun o H2 => ∃ (a : Addr) (xs : List V), x = .ref a ∧ SqL K H2 a xs ∧ ((o = none ∧ ∀ p, H2 p = none → Q (.ref p) (upd H2 p (.lst (evens xs)))) ∨ (o = some 1 ∧ ∀ p, H2 p = none → Q (.ref p) (upd H2 p (.lst (odds xs)))))
section
variable {X : Cx}
theorem pe_step2 {e : Expr} {lo : Option Expr} {te : TE} {tl : TO} {k : Nat} {p1 p3 pos : Pos} (he : PE X e te) (hlo : PO X lo tl) : PE X (.Subscript e (.Slice lo none (some (.Constant (.int 2) k p1)) p3) pos) (tStep2 X.K te tl) := by
  refine ⟨fun pins s σ H Q I h => ?_⟩
  refine Subscript_ (thn (he.run pins s σ H _ I h) fun v s1 q0 => ?_)
  obtain ⟨x, H1, I1, r1, q1⟩ := q0
  refine wpAny_Slice (thn (hlo.run pins s1 σ H1 _ I1 q1) fun vl s2 q2 => ?_)
  obtain ⟨o, H2, I2, pl, a, xs, rfl, hx, q⟩ := q2
  cases r1
  refine thn (po_none.run pins s2 σ H2 (fun o H3 => o = none ∧ H3 = H2) I2 ⟨rfl, rfl⟩) fun vu s3 q3 => ?_
  obtain ⟨u, H3, I3, pu, rfl, rfl⟩ := q3
  have hst : PO X (some (.Constant (.int 2) k p1)) (tPart (tC (.int 2))) := po_some pe_int
  refine thn (hst.run pins s3 σ H3 (fun o H4 => o = some 2 ∧ H4 = H3) I3 ⟨2, rfl, rfl, rfl⟩) fun vs s4 q4 => ?_
  obtain ⟨o2, H4, I4, ps, rfl, rfl⟩ := q4
  have I5 : Inv X pins σ H4 { s4 with heap := s4.heap.push { cls := .type "slice", data := .fields #[vl, vu, vs] } } := I4.kept (t' := s4.toks) fun b ob q => Heap.get?_push_of_some _ q
  obtain ⟨its, r, ht, hz⟩ := I5.list hx
  have hlen := r.length
  show wpAny (model X.prog X.w) X.A (subscriptTail e (.Slice lo none (some (.Constant (.int 2) k p1)) p3) (.ref a) (.ref s4.heap.objs.size)) (EP X pins σ Q) X.xe { s4 with heap := s4.heap.push { cls := .type "slice", data := .fields #[vl, vu, vs] } }
  refine tail_any (ops := [.ref a, .ref s4.heap.objs.size]) ht.isList.typeIs (PySem.slot_list_getitem.lookup) ?_ (by with_unfolding_all rfl)
  refine wpAny_getItem_list_slice ht.isList (Heap.IsSliceOf.new _ vl vu vs) pl pu ps (by decide) ?_ (by rw [List.size_toArray]; omega)
  rcases q with ⟨rfl, q⟩ | ⟨rfl, q⟩
  · rw [pick2_0]
    refine ⟨.ref _, _, I5.laid (t' := s4.toks) (o := .lst (evens xs)) (fun b ob q => Heap.get?_push_of_some _ q) (Nat.le_refl _) ?_, rfl, q _ (I5.hok.fresh (Nat.le_refl _))⟩
    exact ⟨Nat.le_trans (evens_len xs) hz, _, 0, evens_vals r, Heap.get?_push_size _ rfl⟩
  · rw [pick2_1]
    refine ⟨.ref _, _, I5.laid (t' := s4.toks) (o := .lst (odds xs)) (fun b ob q => Heap.get?_push_of_some _ q) (Nat.le_refl _) ?_, rfl, q _ (I5.hok.fresh (Nat.le_refl _))⟩
    exact ⟨Nat.le_trans (Nat.le_trans (evens_len xs.tail) (by rw [List.length_tail]; omega)) hz, _, 0, odds_vals r, Heap.get?_push_size _ rfl⟩
end
end FB

namespace FB
open PySem PySem.Spec PyProof.Rows L2
/-! ### data that are equal, sort by sort -/
def Pl : Nat → PyData → Prop
  | 0, d => d = .none ∨ (∃ i, d = .int i) ∨ ∃ x, d = .str x
  | n + 1, d => (d = .none ∨ (∃ i, d = .int i) ∨ ∃ x, d = .str x) ∨ ∃ ds, (d = .list ds ∨ d = .tuple ds) ∧ ∀ e ∈ ds, Pl n e
def spSame (K : PySem.W.Frag) (n : Nat) : Sp := fun vs H Q _ => ∃ (x y : V) (d : PyData), vs = [x, y] ∧ Dp K H x d ∧ Dp K H y d ∧ Pl n d ∧ ∀ H', Same H H' → Q (.bl true) H'
theorem ty_list {K : PySem.W.Frag} {H : Hp} {a : Addr} {xs : List V} (h : SqL K H a xs) : TyX K H (.ref a) (.type "list") := by
  rcases h with (h | ⟨o, h⟩) | ⟨o, its, n, hk, hc, _⟩
  · exact .base (.lst h)
  · exact .base (.frz h)
  · exact .kList hk hc
theorem ty_tup {K : PySem.W.Frag} {H : Hp} {a : Addr} {xs : List V} (h : SqT K H a xs) : TyX K H (.ref a) (.type "tuple") := by
  rcases h with (h | ⟨o, h⟩) | ⟨o, its, n, hk, hc, _⟩
  · exact .base (.tup h)
  · exact .fTuple h
  · exact .kTuple hk hc
theorem same_tup {K : PySem.W.Frag} {H H' : Hp} {a : Addr} {xs : List V} (e : Same H H') (h : SqT K H a xs) : SqT K H' a xs := by
  rcases h with (h | ⟨o, h⟩) | h
  · exact .inl (.inl (e _ _ h))
  · exact .inl (.inr ⟨o, e _ _ h⟩)
  · exact .inr h
mutual
theorem dp_same {K : PySem.W.Frag} {H H' : Hp} (e : Same H H') : ∀ (d : PyData) (v : V), Dp K H v d → Dp K H' v d
  | .none, _, h => by cases h; exact .non
  | .bool b, _, h => by cases h; exact .bl b
  | .int i, _, h => by cases h; exact .int i
  | .str x, _, h => by cases h; exact .str x
  | .list ds, _, h => by
    cases h with
    | lst hs ha => exact .lst (e.seq hs) (dpall_same e ds _ ha)
  | .tuple ds, _, h => by
    cases h with
    | tup hs ha => exact .tup (same_tup e hs) (dpall_same e ds _ ha)
  | .dict _, _, h => by cases h
theorem dpall_same {K : PySem.W.Frag} {H H' : Hp} (e : Same H H') : ∀ (ds : List PyData) (vs : List V), DpAll K H vs ds → DpAll K H' vs ds
  | [], _, h => by cases h; exact .nil
  | d :: ds, _, h => by
    cases h with
    | cons h1 h2 => exact .cons (dp_same e d _ h1) (dpall_same e ds _ h2)
end
theorem dpall_get {K : PySem.W.Frag} {H : Hp} : ∀ {vs : List V} {ds : List PyData} {i : Nat} {v : V}, DpAll K H vs ds → vs[i]? = some v → ∃ d, ds[i]? = some d ∧ Dp K H v d
  | _, _, _, _, .nil, h => by simp at h
  | x :: _, _, 0, v, .cons h1 h2, h => by
    have e : x = v := by simpa using h
    subst e
    exact ⟨_, rfl, h1⟩
  | _, _, i + 1, v, .cons h1 h2, h => by
    obtain ⟨d, e1, e2⟩ := dpall_get (i := i) (v := v) h2 (by simpa using h)
    exact ⟨d, by simpa using e1, e2⟩
theorem dpall_len {K : PySem.W.Frag} {H : Hp} : ∀ {vs : List V} {ds : List PyData}, DpAll K H vs ds → vs.length = ds.length
  | _, _, .nil => rfl
  | _, _, .cons _ h => by rw [List.length_cons, List.length_cons, dpall_len h]
section
variable {K : PySem.W.Frag}
theorem kt (a b : String) (r : Bool) (h : kitB a b = some r) : PySem.W.kitOne K (.type a) (.type b) = some r := kit_ty h
theorem ki_nl : PySem.W.kitOne K (.type "NoneType") (.type "list") = some false := kit_ty (by decide +kernel)
theorem ki_nt : PySem.W.kitOne K (.type "NoneType") (.type "tuple") = some false := kit_ty (by decide +kernel)
theorem ki_il : PySem.W.kitOne K (.type "int") (.type "list") = some false := kit_ty (by decide +kernel)
theorem ki_it : PySem.W.kitOne K (.type "int") (.type "tuple") = some false := kit_ty (by decide +kernel)
theorem ki_is : PySem.W.kitOne K (.type "int") (.type "str") = some false := kit_ty (by decide +kernel)
theorem ki_ii : PySem.W.kitOne K (.type "int") (.type "int") = some true := kit_ty (by decide +kernel)
theorem ki_ib : PySem.W.kitOne K (.type "int") (.type "bool") = some false := kit_ty (by decide +kernel)
theorem ki_sl : PySem.W.kitOne K (.type "str") (.type "list") = some false := kit_ty (by decide +kernel)
theorem ki_st : PySem.W.kitOne K (.type "str") (.type "tuple") = some false := kit_ty (by decide +kernel)
theorem ki_ss : PySem.W.kitOne K (.type "str") (.type "str") = some true := kit_ty (by decide +kernel)
theorem ki_ll : PySem.W.kitOne K (.type "list") (.type "list") = some true := kit_ty (by decide +kernel)
theorem ki_lt : PySem.W.kitOne K (.type "list") (.type "tuple") = some false := kit_ty (by decide +kernel)
theorem ki_tl : PySem.W.kitOne K (.type "tuple") (.type "list") = some false := kit_ty (by decide +kernel)
theorem ki_tt : PySem.W.kitOne K (.type "tuple") (.type "tuple") = some true := kit_ty (by decide +kernel)
theorem ki_bb : PySem.W.kitOne K (.type "bool") (.type "bool") = some true := kit_ty (by decide +kernel)
end
end FB

namespace FB
open PySem PySem.Spec PyProof.Rows L2
def top (i : Nat) : Stmt := PySem.Challenge.pw_farbooks_k12_whole_in_any_order.main.body.getD i (.Pass ⟨0, 0, 0, 0⟩)
abbrev s_has_key : Stmt := top 2
theorem sc_has_key : FnScope ["span", "key", "low", "high"] ["span", "key"] (defScope s_has_key) := ⟨rfl, rfl, rfl, by decide +kernel, rfl, by decide +kernel, by decide +kernel⟩
abbrev s_cell : Stmt := top 6
theorem sc_cell : FnScope ["_law_script", "_law_k"] ["_law_script", "_law_k"] (defScope s_cell) := ⟨rfl, rfl, rfl, by decide +kernel, rfl, by decide +kernel, by decide +kernel⟩
abbrev s_mixed : Stmt := top 7
theorem sc_mixed : FnScope ["_law_cell_here", "_law_k", "_law_m"] ["_law_cell_here", "_law_k"] (defScope s_mixed) := ⟨rfl, rfl, rfl, by decide +kernel, rfl, by decide +kernel, by decide +kernel⟩
abbrev s_take : Stmt := top 8
theorem sc_take : FnScope ["_law_pot_here", "_law_many", "_law_got"] ["_law_pot_here", "_law_many"] (defScope s_take) := ⟨rfl, rfl, rfl, by decide +kernel, rfl, by decide +kernel, by decide +kernel⟩
abbrev s_pot : Stmt := top 9
theorem sc_pot : FnScope ["_law_cell_here"] ["_law_cell_here"] (defScope s_pot) := ⟨rfl, rfl, rfl, by decide +kernel, rfl, by decide +kernel, by decide +kernel⟩
abbrev s_keys : Stmt := top 10
theorem sc_keys : FnScope ["_law_script", "_law_pot_here", "_law_many", "_law_way", "_law_base", "_law_keys_here", "_law_k", "_law_at", "_law_key"] ["_law_script"] (defScope s_keys) := ⟨rfl, rfl, rfl, by decide +kernel, rfl, by decide +kernel, by decide +kernel⟩
abbrev s_word : Stmt := top 11
theorem sc_word : FnScope ["_law_pot_here", "_law_size", "_law_k"] ["_law_pot_here", "_law_size"] (defScope s_word) := ⟨rfl, rfl, rfl, by decide +kernel, rfl, by decide +kernel, by decide +kernel⟩
abbrev s_moment : Stmt := top 12
theorem sc_moment : FnScope ["_law_pot_here", "_law_way"] ["_law_pot_here"] (defScope s_moment) := ⟨rfl, rfl, rfl, by decide +kernel, rfl, by decide +kernel, by decide +kernel⟩
abbrev s_puts : Stmt := top 13
theorem sc_puts : FnScope ["_law_script", "_law_keys_here", "_law_puts_here", "_law_cell_here", "_law_pot_here", "_law_k", "_law_key", "_law_moment_here", "_law_value"] ["_law_script", "_law_keys_here"] (defScope s_puts) := ⟨rfl, rfl, rfl, by decide +kernel, rfl, by decide +kernel, by decide +kernel⟩
abbrev s_shelf : Stmt := top 14
theorem sc_shelf : FnScope ["_law_puts_here", "_law_shelf_here", "_law_key", "_law_moment_here", "_law_value"] ["_law_puts_here"] (defScope s_shelf) := ⟨rfl, rfl, rfl, by decide +kernel, rfl, by decide +kernel, by decide +kernel⟩
abbrev s_firsts : Stmt := top 15
theorem sc_firsts : FnScope ["_law_puts_here", "_law_met", "_law_firsts_here", "_law_put"] ["_law_puts_here"] (defScope s_firsts) := ⟨rfl, rfl, rfl, by decide +kernel, rfl, by decide +kernel, by decide +kernel⟩
abbrev s_parted : Stmt := top 16
theorem sc_parted : FnScope ["_law_puts_here", "_law_key", "_law_keys_here", "_law_lower", "_law_upper", "_law_whole", "_law_other", "_law_there", "_law_none", "_law_put"] ["_law_puts_here", "_law_key", "_law_keys_here"] (defScope s_parted) := ⟨rfl, rfl, rfl, by decide +kernel, rfl, by decide +kernel, by decide +kernel⟩
abbrev s_law : Stmt := top 17
theorem sc_law : FnScope ["_law_script", "_law_keys_here", "_law_puts_here", "_law_shelf_here", "_law_other", "_law_turned", "_law_key", "_law_moment_here", "_law_value"] ["_law_script"] (defScope s_law) := ⟨rfl, rfl, rfl, by decide +kernel, rfl, by decide +kernel, by decide +kernel⟩
abbrev s_Shelf___init__ : Stmt := inClass (top 4) 0
theorem sc_Shelf___init__ : FnScope ["self"] ["self"] (defScope s_Shelf___init__) := ⟨rfl, rfl, rfl, by decide +kernel, rfl, by decide +kernel, by decide +kernel⟩
abbrev s_Shelf_put : Stmt := inClass (top 4) 1
theorem sc_Shelf_put : FnScope ["self", "key", "moment", "value", "page"] ["self", "key", "moment", "value"] (defScope s_Shelf_put) := ⟨rfl, rfl, rfl, by decide +kernel, rfl, by decide +kernel, by decide +kernel⟩
abbrev s_Shelf_at : Stmt := inClass (top 4) 2
theorem sc_Shelf_at : FnScope ["self", "key", "moment", "page", "moments", "known"] ["self", "key", "moment"] (defScope s_Shelf_at) := ⟨rfl, rfl, rfl, by decide +kernel, rfl, by decide +kernel, by decide +kernel⟩
abbrev s_Shelf_newest : Stmt := inClass (top 4) 3
theorem sc_Shelf_newest : FnScope ["self", "key", "page", "moment"] ["self", "key"] (defScope s_Shelf_newest) := ⟨rfl, rfl, rfl, by decide +kernel, rfl, by decide +kernel, by decide +kernel⟩
abbrev s_Shelf_rows : Stmt := inClass (top 4) 4
theorem sc_Shelf_rows : FnScope ["self", "span", "found", "key", "page", "moment", "value"] ["self", "span"] (defScope s_Shelf_rows) := ⟨rfl, rfl, rfl, by decide +kernel, rfl, by decide +kernel, by decide +kernel⟩
structure Blt (mg : Str → Option Value) : Prop where
  int : mg "int" = none
  len : mg "len" = none
  list : mg "list" = none
  max : mg "max" = none
  range : mg "range" = none
  reversed : mg "reversed" = none
  sorted : mg "sorted" = none
end FB

namespace FB
open PySem PySem.Spec PyProof.Rows L2
section
variable {P : Program} {w : World} {K : PySem.W.Frag} {mg : Str → Option Value} {base : Heap}
theorem ok_sh_init {f C : Addr} {fd : FuncData} (F : Fun K "__init__" "Shelf.__init__" s_Shelf___init__ f fd) (T : ShCls K C) : FnOk P w K mg base CX0 1 f fd ["self"] (spShInit C) := by
  refine F.ok sc_Shelf___init__ (fun vs H Q E h => ?_) (fun cdv A outer s H vs Q E hr h => ?_)
  · obtain ⟨p, dx, rfl, _⟩ := h
    rfl
  · obtain ⟨p, dx, rfl, hp, k⟩ := h
    refine ⟨_, pss_one (ps_fld (pv 0) pe_dnewK rfl), ?_⟩
    intro d hd
    have npd : p ≠ d := ne_of_none hp hd
    refine ⟨_, rfl, p, C, dx, [], rfl, (by rw [upd_ne npd]; exact hp), T.cl, T.nP, (by show 0 < 1000; decide), ?_⟩
    refine k d _ hd ⟨d, [], ⟨⟨dx, upd_same⟩, ?_, fun e he => (by cases he), List.nodup_nil, List.nodup_nil⟩, rfl, fun k => rfl, Nat.le_refl _⟩ fun b o e hb => ?_
    · rw [upd_ne npd.symm, upd_same]
      rfl
    · rw [upd_ne hb, upd_ne (ne_of_none e hd)]
      exact e
theorem ok_sh_put {f C : Addr} {fd : FuncData} (F : Fun K "put" "Shelf.put" s_Shelf_put f fd) (T : ShCls K C) : FnOk P w K mg base CX0 1 f fd ["self", "key", "moment", "value"] (spShPut C) := by
  refine F.ok sc_Shelf_put (fun vs H Q E h => ?_) (fun cdv A outer s H vs Q E hr h => ?_)
  · obtain ⟨p, F, ps, k, t, v, rfl, _⟩ := h
    rfl
  · obtain ⟨p, Ft, ps, k, t, v, rfl, ⟨d, S, R, rfl, hpg, hSl⟩, hpl, q⟩ := h
    refine ⟨_, pss_cons (ps_set (i := 4) sc_Shelf_put.nd rfl (Or.inl rfl) (pe_dsetd (pe_fld (pv 0) rfl) (pv 1) pe_dnewK ⟨rfl, rfl, rfl, rfl⟩))
    (pss_one (ps_expr (pe_dsetd (pv 4) (pv 2) (pv 3) ⟨rfl, rfl, rfl, rfl⟩))), ?_⟩
    obtain ⟨⟨dx, ho⟩, hd, hen, nk, na⟩ := id R
    refine ⟨_, rfl, p, C, dx, _, _, rfl, ho, T.cl, T.nP, shFlds_look d, d, rfl, .inl ⟨_, .inl hd⟩, _, rfl, fun np nnp => ?_⟩
    have s1 := same_new (o := .dK []) nnp
    have hsz : (shKvs S).length < sizeLine := by
      unfold shKvs
      rw [List.length_map]
      exact small1000 (by omega)
    have npd : np ≠ d := (ne_of_none hd nnp).symm
    refine ⟨shKvs S, tk k, s1 _ _ hd, rfl, hsz, fun y hy => ?_, fun hn => ?_⟩
    · -- the key has a page
      rw [val_sh] at hy
      obtain ⟨e, he, rfl⟩ := Option.map_eq_some_iff.mp hy
      obtain ⟨hm, rfl⟩ := find_key he
      have hpgk : pgS S e.1 = e.2.2 := by
        unfold pgS
        rw [he]
      have hel : e.2.2.length ≤ 900 := by
        rw [← hpgk, hpg]
        exact Nat.le_trans (pgOf_len _ _) hpl
      have end_ : (e.2.2.map (·.1)).Nodup := by
        rw [← hpgk, hpg]
        exact pgOf_nodup _ _
      have hea := s1 _ _ (hen e hm)
      refine ⟨_, rfl, e.2.1, rfl, .inl ⟨_, .inl hea⟩, _, rfl, _, rfl, pgKvs e.2.2, Sum.inl t, hea, rfl, by unfold pgKvs; rw [List.length_map]; exact small1000 (by omega), fun y hy => ?_, fun hn => ?_⟩
      · -- the moment is there: nothing changes
        have hin : t ∈ e.2.2.map (·.1) := by
          apply Decidable.byContradiction
          intro h
          rw [val_pg_none h] at hy
          cases hy
        refine q (foot d S) _ ⟨d, S, ⟨⟨dx, s1 _ _ ho⟩, s1 _ _ hd, fun x hx => s1 _ _ (hen x hx), nk, na⟩, rfl, fun j => ?_, by rw [List.length_append]; omega⟩ (fun b hb => .inl hb) fun b o hb _ => s1 _ _ hb
        rw [pgOf_snoc]
        split
        · rename_i hj
          have hj : e.1 = j := hj
          subst hj
          rw [← hpg, hpgk]
          exact (if_pos hin).symm
        · exact hpg j
      · have hin : t ∉ e.2.2.map (·.1) := fun h => by
          obtain ⟨y, hy, ey⟩ := List.mem_map.mp h
          have := val_pg_some end_ (t := t) (r := y.2) (by rw [← ey]; exact hy)
          rw [this] at hn
          cases hn
        have ekv : putK (pgKvs e.2.2) (Sum.inl t : Key) (V.int v) = pgKvs (e.2.2 ++ [(t, v)]) := by
          rw [putK_new _ hn]
          unfold pgKvs
          rw [List.map_append]
          rfl
        rw [ekv]
        have ned : e.2.1 ≠ d := fun z => by
          have h1 := hen e hm
          rw [z, hd] at h1
          have h2 := HO.dK.inj (Option.some.inj h1)
          cases S with
          | nil => cases hm
          | cons x r =>
            cases hp2 : e.2.2 with
            | nil =>
              rw [hp2] at h2
              cases h2
            | cons y r2 =>
              rw [hp2] at h2
              have h3 := (List.cons.inj h2).1
              exact nomatch (Prod.mk.inj h3).1
        have keep : ∀ b o, H b = some o → b ≠ e.2.1 → upd (upd H np (.dK [])) e.2.1 (.dK (pgKvs (e.2.2 ++ [(t, v)]))) b = some o := fun b o hb hne => by
          rw [upd_ne hne]
          exact s1 _ _ hb
        have nop : p ≠ e.2.1 := ne_of ho (hen e hm) (by intro z; cases z)
        refine q (foot d S) _ ⟨d, setPg S e.2.1 (e.2.2 ++ [(t, v)]), ⟨⟨dx, keep _ _ ho nop⟩, ?_, ?_, by rw [setPg_keys]; exact nk, by rw [setPg_addrs]; exact na⟩, ?_, fun j => ?_, ?_⟩ (fun b hb => .inl hb) fun b o hb hnf => keep b o hb fun z => hnf (by rw [z]; exact List.mem_cons_of_mem _ (List.mem_map.mpr ⟨e, hm, rfl⟩))
        · rw [setPg_kvs]
          exact keep _ _ hd ned.symm
        · intro x hx
          obtain ⟨y, hy, rfl⟩ := List.mem_map.mp hx
          by_cases hy2 : y.2.1 = e.2.1
          · rw [if_pos hy2]
            exact upd_same
          · rw [if_neg hy2]
            exact keep _ _ (hen y hy) hy2
        · unfold foot
          rw [setPg_addrs]
        · rw [pgS_set hm nk na, pgOf_snoc]
          by_cases hj : j = e.1
          · subst hj
            rw [if_pos rfl, if_pos rfl, ← hpg, hpgk]
            exact (if_neg hin).symm
          · rw [if_neg hj, if_neg fun z => hj z.symm]
            exact hpg j
        · unfold setPg
          rw [List.length_map, List.length_append]
          omega
    · -- a new page
      rw [val_sh] at hn
      have hno : S.find? (fun e => decide (e.1 = k)) = none := by
        cases h : S.find? (fun e => decide (e.1 = k)) with
        | none => rfl
        | some e => rw [h] at hn; cases hn
      have hk0 : pgOf ps k = [] := by
        rw [← hpg]
        unfold pgS
        rw [hno]
      have ekv : putK (shKvs S) (tk k) (V.ref np) = shKvs (S ++ [(k, np, [])]) := by
        rw [putK_new _ (by rw [val_sh, hno]; rfl)]
        unfold shKvs
        rw [List.map_append]
        rfl
      have hnp : upd (upd H np (.dK [])) d (.dK (putK (shKvs S) (tk k) (V.ref np))) np = some (.dK (pgKvs [])) := by
        rw [upd_ne npd, upd_same]
        rfl
      refine ⟨_, rfl, np, rfl, .inl ⟨_, .inl hnp⟩, _, rfl, _, rfl, pgKvs [], Sum.inl t, hnp, rfl, by decide, fun y hy => (by cases hy), fun _ => ?_⟩
      have ekv2 : putK (pgKvs []) (Sum.inl t : Key) (V.int v) = pgKvs [(t, v)] := putK_new _ rfl
      rw [ekv2, ekv]
      have keep : ∀ b o, H b = some o → b ≠ d → upd (upd (upd H np (.dK [])) d (.dK (shKvs (S ++ [(k, np, [])])))) np (.dK (pgKvs [(t, v)])) b = some o := fun b o hb hne => by
        rw [upd_ne (ne_of_none hb nnp), upd_ne hne]
        exact s1 _ _ hb
      have nop : p ≠ d := ne_of ho hd (by intro z; cases z)
      have hnew : np ∉ S.map (·.2.1) := fun h => by
        obtain ⟨e, he, z⟩ := List.mem_map.mp h
        have := hen e he
        rw [z, nnp] at this
        cases this
      have hkn : k ∉ S.map (·.1) := fun h => by
        obtain ⟨e, he, z⟩ := List.mem_map.mp h
        have := List.find?_eq_none.mp hno e he
        exact this (by simpa using z)
      refine q (foot d (S ++ [(k, np, [(t, v)])])) _ ⟨d, S ++ [(k, np, [(t, v)])], ⟨⟨dx, keep _ _ ho nop⟩, ?_, ?_, ?_, ?_⟩, rfl, fun j => ?_, ?_⟩ ?_ fun b o hb hnf => keep b o hb fun z => hnf (by rw [z]; exact List.mem_cons_self)
      · rw [upd_ne npd.symm, upd_same]
        unfold shKvs
        rw [List.map_append, List.map_append]
        rfl
      · intro e he
        rcases List.mem_append.mp he with h | h
        · refine keep _ _ (hen e h) fun z => ?_
          have h1 := hen e h
          rw [z, hd] at h1
          have h2 := HO.dK.inj (Option.some.inj h1)
          cases S with
          | nil => cases h
          | cons x r =>
            cases hp2 : e.2.2 with
            | nil =>
              rw [hp2] at h2
              cases h2
            | cons y r2 =>
              rw [hp2] at h2
              have h3 := (List.cons.inj h2).1
              exact nomatch (Prod.mk.inj h3).1
        · rw [show e = (k, np, [(t, v)]) by simpa using h]
          exact upd_same
      · rw [List.map_append, List.nodup_append]
        exact ⟨nk, by simp, fun a ha b hb z => hkn (by rw [show b = k by simpa using hb] at z; rw [← z]; exact ha)⟩
      · rw [List.map_append, List.nodup_append]
        exact ⟨na, by simp, fun a ha b hb z => hnew (by rw [show b = np by simpa using hb] at z; rw [← z]; exact ha)⟩
      · rw [pgS_snoc hno, pgOf_snoc]
        by_cases hj : j = k
        · rw [if_pos hj, if_pos hj.symm, hj, hk0]
          rfl
        · rw [if_neg hj, if_neg fun z => hj z.symm]
          exact hpg j
      · rw [List.length_append, List.length_append]
        exact Nat.add_le_add_right hSl 1
      · intro b hb
        unfold foot at hb
        rw [List.map_append] at hb
        rcases List.mem_cons.mp hb with h | h
        · exact .inl (by rw [h]; exact List.mem_cons_self)
        · rcases List.mem_append.mp h with h | h
          · exact .inl (List.mem_cons_of_mem _ h)
          · rw [show b = np by simpa using h]
            exact .inr nnp
end
end FB

namespace FB
open PySem PySem.Spec PyProof.Rows L2
section
variable {P : Program} {w : World} {K : PySem.W.Frag} {mg : Str → Option Value} {base : Heap}
theorem ok_sh_at {f C : Addr} {fd : FuncData} (F : Fun K "at" "Shelf.at" s_Shelf_at f fd) (B : Blt mg) (T : ShCls K C) : FnOk P w K mg base CX0 1 f fd ["self", "key", "moment"] (spShAt C) := by
  refine F.ok sc_Shelf_at (fun vs H Q E h => ?_) (fun cdv A outer s H vs Q E hr h => ?_)
  · obtain ⟨p, F, ps, k, m, rfl, _⟩ := h
    rfl
  · obtain ⟨p, Ft, ps, k, m, rfl, ⟨d, S, R, rfl, hpg, hSl⟩, hpl, q⟩ := h
    have hu := hu_of hr
    refine ⟨_, pss_cons (ps_set (i := 3) sc_Shelf_at.nd rfl (Or.inl rfl) (pe_dget2 hu (pe_fld (pv 0) rfl) (pv 1) pe_dnewK ⟨rfl, rfl, rfl, rfl⟩))
    (pss_cons (ps_lock (ps_setLc (i := 4) (own := [("known", 5)]) (g := gName 5) rfl sc_Shelf_at.nd rfl rfl (sw_true rfl rfl rfl (by decide +kernel)) (pi_keys (pv 3)) (blkOk_by (own := [("known", 5)]) (N := ["self", "key", "moment", "page", "moments", "known"]) (sc := defScope s_Shelf_at) (by decide +kernel)) (fun _ _ _ _ _ => pg_name (i := 5) sc_Shelf_at.nd rfl (Or.inl rfl)) (fun _ _ _ _ _ => pts_one (pt_cmpR op_le (pv 5) (pv 2) (nomark _))) (fun _ _ _ _ _ => pv 5)))
    (pss_cons (ps_if (pt_not (pt_truth (pv 4) (by intro _; rfl)))
      (pss_one (ps_ret pe_int)) pss_nil)
    (pss_one (ps_ret (pe_dget hu (pv 3) (pe_callB (cr_max rfl) (by rfl) B.max (by decide +kernel) (pa_cons (pv 4) pa_nil)) (fun _ _ => rfl)))))), ?_⟩
    obtain ⟨⟨dx, ho⟩, hd, hen, nk, na⟩ := id R
    refine ⟨_, rfl, p, C, dx, _, _, rfl, ho, T.cl, T.nP, shFlds_look d, d, rfl, .inl ⟨_, .inl hd⟩, _, rfl, fun np nnp => ?_⟩
    have s1 := same_new (o := .dK []) nnp
    refine ⟨_, DGet.k (k := tk k) (s1 _ _ hd), ?_⟩
    -- the page
    have hpage : ∃ pa, (valV (shKvs S) (tk k)).getD (V.ref np) = V.ref pa ∧ upd H np (.dK []) pa = some (.dK (pgKvs (pgOf ps k))) := by
      rw [val_sh, ← hpg]
      unfold pgS
      cases he : S.find? (fun e => decide (e.1 = k)) with
      | none => exact ⟨np, rfl, upd_same⟩
      | some e => exact ⟨e.2.1, rfl, s1 _ _ (hen e (find_key he).1)⟩
    obtain ⟨pa, epa, hpa⟩ := hpage
    rw [epa]
    have hlen := Nat.le_trans (pgOf_len k ps) hpl
    have hnd := pgOf_nodup k ps
    generalize pgOf ps k = pg at hpa hlen hnd q
    generalize upd H np (.dK []) = H1 at s1 hpa
    -- moments
    refine ⟨pa, _, hpa, trivial, fun od => ?_⟩
    refine ⟨_, rfl, pa, od, rfl, .inl ⟨_, upd_same, fun D nD => ?_⟩⟩
    have nDp : D ≠ pa := fun z => by
      rw [z, upd_same] at nD
      cases nD
    have nD1 : H1 D = none := by
      rw [upd_ne nDp] at nD
      exact nD
    refine lc_it walk_keys (fun i H' => H' D = some (.lst ((((pg.take i).map (·.1)).filter fun t => decide (t ≤ m)).map V.int)) ∧ Same (upd H1 pa (.frz od (.dK (pgKvs pg)))) H') ?_ ?_ ?_ ?_
    · exact ⟨upd_same, same_new nD⟩
    · rintro i H' _ ⟨_, sm⟩
      exact sm _ _ upd_same
    · rintro i x H' H'' hi ⟨hD, sm⟩ ⟨rfl, kk, vv, hkv, rfl⟩
      unfold pgKvs at hkv
      rw [List.getElem?_map] at hkv
      obtain ⟨y, hy, ey⟩ := Option.map_eq_some_iff.mp hkv
      have ek : kk = Sum.inl y.1 := (Prod.mk.inj ey).1.symm
      subst ek
      have hil : i < pg.length := (List.getElem?_eq_some_iff.mp hy).1
      have et : pg.take (i + 1) = pg.take i ++ [y] := by
        rw [List.take_add_one, hy]
        rfl
      refine ⟨rfl, _, rfl, _, rfl, _, _, rfl, rfl, _, rfl, ite2 (fun e => ?_) (fun e => ?_)⟩
      · refine ⟨_, rfl, _, hD, small1000 (by rw [List.length_map]; exact Nat.le_trans (List.length_filter_le _ _) (by rw [List.length_map, List.length_take]; omega)), ?_, fun b o hb => ?_⟩
        · rw [upd_same, et, List.map_append, List.filter_append, List.map_append, List.map_singleton, List.filter_cons, if_pos e]
          rfl
        · rw [upd_ne (ne_of_none hb nD)]
          exact sm b o hb
      · refine ⟨?_, sm⟩
        rw [hD, et, List.map_append, List.filter_append, List.map_singleton, List.filter_cons, if_neg e, List.filter_nil, List.append_nil]
    · rintro H' ⟨hD, sm⟩
      have eL : (pgKvs pg).length = pg.length := by
        unfold pgKvs
        rw [List.length_map]
      rw [eL, List.take_length] at hD
      refine ⟨sm _ _ upd_same, ?_⟩
      -- unlocked
      have hD2 : upd H' pa (.dK (pgKvs pg)) D = some (.lst (((pg.map (·.1)).filter fun t => decide (t ≤ m)).map V.int)) := by
        rw [upd_ne nDp]
        exact hD
      have sm2 : Same H1 (upd H' pa (.dK (pgKvs pg))) := fun b o hb => by
        by_cases hbp : b = pa
        · subst hbp
          rw [upd_same]
          rw [hpa] at hb
          exact hb
        · rw [upd_ne hbp]
          exact sm b o (by rw [upd_ne hbp]; exact hb)
      have hpa2 := sm2 _ _ hpa
      generalize upd H' pa (.dK (pgKvs pg)) = H3 at hD2 sm2 hpa2
      refine ⟨_, rfl, _, .inl ⟨_, SqL.of hD2, rfl⟩, ?_⟩
      cases hms : (pg.map (·.1)).filter fun t => decide (t ≤ m) with
      | nil =>
        refine q 0 H3 (.inl ⟨fun y hy => ?_, rfl⟩) (s1.trans sm2)
        have := List.filter_eq_nil_iff.mp hms y.1 (List.mem_map.mpr ⟨y, hy, rfl⟩)
        simp at this
        omega
      | cons t0 tr =>
        rw [hms] at hD2
        refine ⟨_, rfl, _, rfl, D, t0 :: tr, rfl, SqL.of hD2, by simp, fun t ht hle => ?_⟩
        rw [← hms] at ht hle
        obtain ⟨h1, h2⟩ := List.mem_filter.mp ht
        obtain ⟨y, hy, rfl⟩ := List.mem_map.mp h1
        refine ⟨pa, .int y.2, rfl, dget_of (k := Sum.inl y.1) hpa2 (val_pg_some hnd hy), ?_⟩
        exact q y.2 H3 (.inr ⟨y.1, hy, of_decide_eq_true h2, fun x hx hxm => hle x.1 (List.mem_filter.mpr ⟨List.mem_map.mpr ⟨x, hx, rfl⟩, decide_eq_true hxm⟩)⟩) (s1.trans sm2)
end
end FB

namespace FB
open PySem PySem.Spec PyProof.Rows L2
/-- the newest of a page -/
def NewR (pg : List (Int × Int)) (t v : Int) : Prop := (pg = [] ∧ t = 0 ∧ v = 0) ∨ ((t, v) ∈ pg ∧ ∀ q ∈ pg, q.1 ≤ t)
def spShNewest (C : Addr) : Sp := fun vs H Q _ => ∃ (p : Addr) (F : List Addr) (ps : List Put) (k : Str), vs = [.ref p, .str k] ∧ ShelfAt C H p F ps ∧ ps.length ≤ 900 ∧
  ∀ (T : Addr) (t v : Int) (H' : Hp), NewR (pgOf ps k) t v → H' T = some (.tup [.int t, .int v]) → Same H H' → Q (.ref T) H'
section
variable {P : Program} {w : World} {K : PySem.W.Frag} {mg : Str → Option Value} {base : Heap}
theorem ok_sh_newest {f C : Addr} {fd : FuncData} (F : Fun K "newest" "Shelf.newest" s_Shelf_newest f fd) (B : Blt mg) (T : ShCls K C) : FnOk P w K mg base CX0 1 f fd ["self", "key"] (spShNewest C) := by
  refine F.ok sc_Shelf_newest (fun vs H Q E h => ?_) (fun cdv A outer s H vs Q E hr h => ?_)
  · obtain ⟨p, F, ps, k, rfl, _⟩ := h
    rfl
  · obtain ⟨p, Ft, ps, k, rfl, ⟨d, S, R, rfl, hpg, hSl⟩, hpl, q⟩ := h
    have hu := hu_of hr
    refine ⟨_, pss_cons (ps_set (i := 2) sc_Shelf_newest.nd rfl (Or.inl rfl) (pe_dget2 hu (pe_fld (pv 0) rfl) (pv 1) pe_dnewK ⟨rfl, rfl, rfl, rfl⟩))
    (pss_cons (ps_if (pt_not (pt_truth (pv 2) (by intro _; rfl)))
      (pss_one (ps_ret (pe_tup (pa_cons pe_int (pa_cons pe_int pa_nil))))) pss_nil)
    (pss_cons (ps_set (i := 3) sc_Shelf_newest.nd rfl (Or.inl rfl) (pe_callB (cr_maxPg rfl) (by rfl) B.max (by decide +kernel) (pa_cons (pv 2) pa_nil)))
    (pss_one (ps_ret (pe_tup (pa_cons (pv 3) (pa_cons (pe_dget hu (pv 2) (pv 3) (fun _ _ => rfl)) pa_nil))))))), ?_⟩
    obtain ⟨⟨dx, ho⟩, hd, hen, nk, na⟩ := id R
    refine ⟨_, rfl, p, C, dx, _, _, rfl, ho, T.cl, T.nP, shFlds_look d, d, rfl, .inl ⟨_, .inl hd⟩, _, rfl, fun np nnp => ?_⟩
    have s1 := same_new (o := .dK []) nnp
    refine ⟨_, DGet.k (k := tk k) (s1 _ _ hd), ?_⟩
    -- the page
    have hpage : ∃ pa, (valV (shKvs S) (tk k)).getD (V.ref np) = V.ref pa ∧ upd H np (.dK []) pa = some (.dK (pgKvs (pgOf ps k))) := by
      rw [val_sh, ← hpg]
      unfold pgS
      cases he : S.find? (fun e => decide (e.1 = k)) with
      | none => exact ⟨np, rfl, upd_same⟩
      | some e => exact ⟨e.2.1, rfl, s1 _ _ (hen e (find_key he).1)⟩
    obtain ⟨pa, epa, hpa⟩ := hpage
    rw [epa]
    have hnd := pgOf_nodup k ps
    generalize pgOf ps k = pg at hpa hnd q
    generalize upd H np (.dK []) = H1 at s1 hpa
    refine ⟨_, rfl, _, .inr (.inr ⟨_, hpa, rfl⟩), ?_⟩
    cases hc : pg with
    | nil =>
      subst hc
      refine ⟨by show 2 ≤ sizeLine; decide, fun T nT => ?_⟩
      exact q T 0 0 _ (.inl ⟨rfl, rfl, rfl⟩) upd_same (s1.trans (same_new nT))
    | cons y r =>
      subst hc
      refine ⟨_, rfl, pa, y :: r, rfl, hpa, by simp, fun m hm hle => ?_⟩
      obtain ⟨z, hz, rfl⟩ := List.mem_map.mp hm
      refine ⟨_, rfl, _, rfl, _, rfl, pa, .int z.2, rfl, dget_of (k := Sum.inl z.1) hpa (val_pg_some hnd hz), by show 2 ≤ sizeLine; decide, fun T nT => ?_⟩
      exact q T z.1 z.2 _ (.inr ⟨hz, fun x hx => hle x.1 (List.mem_map.mpr ⟨x, hx, rfl⟩)⟩) upd_same (s1.trans (same_new nT))
end
end FB

namespace FB
open PySem PySem.Spec PyProof.Rows L2
theorem same_mut' {H H' : Hp} {p : Addr} {o : HO} (k : Same H H') (h : H p = none) : Same H (L2.upd H' p o) := fun b x e => by
  rw [upd_ne (ne_of_none e h)]
  exact k b x e
/-! ### pots -/
def PotAt (H : Hp) (p : Addr) (n : Nat) : Prop := ∃ x j g c : Int, H p = some (.lst [.int x, .int j, .int g, .int c]) ∧ 0 ≤ j ∧ j ≤ n
theorem PotAt.mono {H : Hp} {p : Addr} {n m : Nat} (h : PotAt H p n) (e : n ≤ m) : PotAt H p m := by
  obtain ⟨x, j, g, c, h1, h2, h3⟩ := h
  exact ⟨x, j, g, c, h1, h2, by omega⟩
theorem PotAt.same {H H' : Hp} {p : Addr} {n : Nat} (h : PotAt H p n) (e : Same H H') : PotAt H' p n := by
  obtain ⟨x, j, g, c, h1, h2, h3⟩ := h
  exact ⟨x, j, g, c, e _ _ h1, h2, h3⟩
theorem PotAt.upd {H : Hp} {p q : Addr} {n : Nat} {o : HO} (h : PotAt H p n) (hq : p ≠ q) : PotAt (L2.upd H q o) p n := by
  obtain ⟨x, j, g, c, h1, h2, h3⟩ := h
  exact ⟨x, j, g, c, by rw [upd_ne hq]; exact h1, h2, h3⟩
theorem PotAt.ne {H : Hp} {p q : Addr} {n : Nat} (h : PotAt H p n) (hq : H q = none) : q ≠ p := by
  obtain ⟨x, j, g, c, h1, _⟩ := h
  exact (ne_of_none h1 hq).symm
def spCell (K : PySem.W.Frag) : Sp := fun vs H Q _ => ∃ (a : Addr) (ns : List Int) (j : Int), vs = [.ref a, .int j] ∧ SqL K H a (ns.map V.int) ∧ 0 ≤ j ∧ ∀ z, Q (.int z) H
def spMixed : Sp := fun vs H Q _ => ∃ c k : Int, vs = [.int c, .int k] ∧ 0 ≤ k ∧ k ≤ 1000000 ∧ ∀ z, Q (.int z) H
def spTake : Sp := fun vs H Q _ => ∃ (p : Addr) (n : Nat) (m : Int), vs = [.ref p, .int m] ∧ PotAt H p n ∧ 0 < m ∧ m < 1152921504606846976 ∧ n < 999999 ∧
  ∀ (v : Int) (H' : Hp), 0 ≤ v → v < m → PotAt H' p (n + 1) → Keep p H H' → Q (.int v) H'
def spPot : Sp := fun vs H Q _ => ∃ c : Int, vs = [.int c] ∧ ∀ (p : Addr) (H' : Hp), H p = none → Same H H' → PotAt H' p 0 → Q (.ref p) H'
def KeyS (z : Str) : Prop := z.length ≤ 20 ∧ ∀ c ∈ z.cps.toList, 97 ≤ c ∧ c ≤ 122
def spWord : Sp := fun vs H Q _ => ∃ (p : Addr) (n : Nat) (m : Int), vs = [.ref p, .int m] ∧ PotAt H p n ∧ 0 ≤ m ∧ m ≤ 9 ∧ n < 900000 ∧
  ∀ (z : Str) (H' : Hp), z.length = m.toNat → KeyS z → PotAt H' p (n + 10) → Keep p H H' → Q (.str z) H'
def spKeys (K : PySem.W.Frag) : Sp := fun vs H Q _ => ∃ (a : Addr) (ns : List Int), vs = [.ref a] ∧ SqL K H a (ns.map V.int) ∧
  ∀ (l : Addr) (ks : List Str) (H' : Hp), 0 < ks.length → ks.length ≤ 13 → (∀ k ∈ ks, KeyS k) → (ks.Nodup ∧ ∀ k ∈ ks, 0 < k.length) → H' l = some (.lst (ks.map V.str)) → Same H H' → H l = none → Q (.ref l) H'
def spMoment : Sp := fun vs H Q _ => ∃ (p : Addr) (n : Nat), vs = [.ref p] ∧ PotAt H p n ∧ n < 900000 ∧
  ∀ (v : Int) (H' : Hp), 0 ≤ v → v ≤ 1000000000000 → PotAt H' p (n + 2) → Keep p H H' → Q (.int v) H'
abbrev Pu := Addr × Put
structure PutsAt (H : Hp) (a : Addr) (zs : List Pu) : Prop where
  ls : H a = some (.lst (zs.map fun z => V.ref z.1))
  tp : ∀ z ∈ zs, H z.1 = some (.tup [.str z.2.1, .int z.2.2.1, .int z.2.2.2])
theorem PutsAt.same {H H' : Hp} {a : Addr} {zs : List Pu} (h : PutsAt H a zs) (s : Same H H') : PutsAt H' a zs := ⟨s _ _ h.ls, fun z hz => s _ _ (h.tp z hz)⟩
theorem PutsAt.keep {H H' : Hp} {a p : Addr} {n : Nat} {zs : List Pu} (h : PutsAt H a zs) (k : Keep p H H') (hne : a ≠ p) (hp : PotAt H p n) : PutsAt H' a zs := by
  obtain ⟨x, j, g, c, h1, _⟩ := hp
  exact ⟨k _ _ h.ls hne, fun z hz => k _ _ (h.tp z hz) (ne_of (h.tp z hz) h1 (by intro z; cases z))⟩
theorem PutsAt.addNew {H : Hp} {pl t : Addr} {ws : List Pu} {q : Put} (h : PutsAt H pl ws) (ht : H t = none) :
    PutsAt (upd (upd H t (.tup [.str q.1, .int q.2.1, .int q.2.2])) pl (.lst (ws.map (fun z => V.ref z.1) ++ [.ref t]))) pl (ws ++ [(t, q)]) := by
  have s := same_new (o := .tup [V.str q.1, V.int q.2.1, V.int q.2.2]) ht
  refine ⟨by rw [upd_same, List.map_append]; rfl, fun y hy => ?_⟩
  have hy' : upd H t (.tup [.str q.1, .int q.2.1, .int q.2.2]) y.1 = some (.tup [.str y.2.1, .int y.2.2.1, .int y.2.2.2]) := by
    rcases List.mem_append.mp hy with m | m
    · exact s _ _ (h.tp y m)
    · rw [show y = (t, q) by simpa using m]
      exact upd_same
  rw [upd_ne (ne_of hy' (s _ _ h.ls) (by intro z; cases z))]
  exact hy'
def spPuts (K : PySem.W.Frag) : Sp := fun vs H Q _ => ∃ (a l : Addr) (ns : List Int) (ks : List Str), vs = [.ref a, .ref l] ∧ SqL K H a (ns.map V.int) ∧ ns.length ≤ 63 ∧ H l = some (.lst (ks.map V.str)) ∧ 0 < ks.length ∧ ks.length ≤ 13 ∧
  ∀ (p : Addr) (zs : List Pu) (H' : Hp), PutsAt H' p zs → (∀ z ∈ zs, z.2.1 ∈ ks ∧ 0 ≤ z.2.2.1 ∧ z.2.2.1 ≤ 1000000000000) → zs.length ≤ 189 → Same H H' → H p = none → Q (.ref p) H'
def spDue : Sp := fun vs H Q _ => ∃ (a : Addr) (zs : List Pu) (k : Str) (m : Int), vs = [.ref a, .str k, .int m] ∧ PutsAt H a zs ∧
  ∀ (T : Addr) (H' : Hp), H' T = some (.tup [.int (dueF (zs.map (·.2)) k m).1, .int (dueF (zs.map (·.2)) k m).2]) → Same H H' → Q (.ref T) H'
def spWhole : Sp := fun vs H Q _ => ∃ a b : Int, vs = [.int a, .int b] ∧ Q (.bl (decide (V.int a = V.int b))) H
def spStrange : Sp := fun vs H Q _ => ∃ (l : Addr) (ks : List Str), vs = [.ref l] ∧ H l = some (.lst (ks.map V.str)) ∧ ks.length ≤ 13 ∧ ∀ (z : Str) (H' : Hp), z ∉ ks → KeyS z → Same H H' → Q (.str z) H'
theorem at_list' {α : Type} {xs : List α} {v : Int} (h0 : 0 ≤ v) (h1 : v < (xs.length : Int)) : ∃ x ∈ xs, atI xs v = some x := by
  obtain ⟨j, rfl⟩ : ∃ j : Nat, v = (j : Int) := ⟨v.toNat, (Int.toNat_of_nonneg h0).symm⟩
  have hj : j < xs.length := by omega
  exact ⟨xs[j], List.getElem_mem hj, atI_nat (List.getElem?_eq_getElem hj)⟩
def abc : Str := "abcdefghijklmnopqrstuvwxyz"
theorem abc_at : ∀ j : Nat, j < 26 → abc.cps.toList[j]? = some (97 + j) := by decide +kernel
theorem letter {v : Int} (h0 : 0 ≤ v) (h1 : v < 26) : ∃ c : Nat, atI abc.cps.toList v = some c ∧ 97 ≤ c ∧ c ≤ 122 := by
  obtain ⟨j, rfl⟩ : ∃ j : Nat, v = (j : Int) := ⟨v.toNat, (Int.toNat_of_nonneg h0).symm⟩
  exact ⟨97 + j, atI_nat (abc_at j (by omega)), by omega, by omega⟩
theorem abc_len : abc.length ≤ sizeLine := by decide +kernel
section
variable {P : Program} {w : World} {K : PySem.W.Frag} {mg : Str → Option Value} {base : Heap}
theorem ok_cell {f : Addr} {fd : FuncData} (F : Fun K "_law_cell" "_law_cell" s_cell f fd) (B : Blt mg) : FnOk P w K mg base CX0 1 f fd ["_law_script", "_law_k"] (spCell K) := by
  refine F.ok sc_cell (fun vs H Q E h => ?_) (fun cdv A outer s H vs Q E hr h => ?_)
  · obtain ⟨a, ns, j, rfl, _⟩ := h
    rfl
  · obtain ⟨a, ns, j, rfl, hS, hj, q⟩ := h
    refine ⟨_, pss_cons (ps_if (pt_cmpR op_lt (pv 1) (pe_callB call_len_seq (by rfl) B.len (by decide +kernel) (pa_cons (pv 0) pa_nil)) (nomark _))
      (pss_one (ps_ret (pe_ix ix_list (pv 0) (pv 1) (fun _ _ => rfl)))) pss_nil)
    (pss_one (ps_ret pe_int)), ?_⟩
    refine ⟨_, rfl, _, rfl, a, _, rfl, .inl hS, _, _, rfl, rfl, _, rfl, ite2 (fun e => ?_) (fun e => ?_)⟩
    · have hlt := of_decide_eq_true e
      obtain ⟨i, rfl⟩ : ∃ i : Nat, j = (i : Int) := ⟨j.toNat, (Int.toNat_of_nonneg hj).symm⟩
      have hi : i < ns.length := by
        rw [List.length_map] at hlt
        omega
      exact ⟨_, rfl, _, rfl, a, _, _, _, rfl, rfl, hS, atI_nat (v := .int ns[i]) (by rw [List.getElem?_map, List.getElem?_eq_getElem hi]; rfl), q _⟩
    · exact q 0
theorem ok_mixed {f : Addr} {fd : FuncData} (F : Fun K "_law_mixed" "_law_mixed" s_mixed f fd) : FnOk P w K mg base CX0 1 f fd ["_law_cell_here", "_law_k"] spMixed := by
  refine F.ok sc_mixed (fun vs H Q E h => ?_) (fun cdv A outer s H vs Q E hr h => ?_)
  · obtain ⟨c, k, rfl, _⟩ := h
    rfl
  · obtain ⟨c, k, rfl, hk0, hk1, q⟩ := h
    refine ⟨_, pss_cons (ps_set (i := 2) sc_mixed.nd rfl (Or.inl rfl) (pe_op op_mod (pe_op op_add (pe_op op_mul (pe_op op_mod (pv 0) pe_int) pe_int) (pe_op op_mul (pe_op op_add (pe_op op_add (pe_op op_mul (pv 1) (pv 1)) (pe_op op_mul pe_int (pv 1))) pe_int) pe_int)) pe_int))
    (pss_cons (ps_set (i := 2) sc_mixed.nd rfl (Or.inl rfl) (pe_op op_add (pe_op op_mod (pe_op op_mul (pv 2) (pv 2)) pe_int) (pv 1)))
    (pss_one (ps_ret (pe_op op_mod (pe_op op_mul (pv 2) (pe_op op_add (pe_op op_add (pe_op op_fdiv (pv 2) pe_int) (pe_op op_mul pe_int (pv 1))) pe_int)) pe_int)))), ?_⟩
    refine ⟨_, rfl, _, _, rfl, rfl, (by show (0 : Int) < 2147483647; decide), _, _, rfl, rfl, .inr ⟨by decide, by decide⟩, _, rfl, _, rfl, _, _, rfl, rfl, .inl ⟨by omega, by omega⟩, _, rfl, _, _, rfl, rfl, .inl ⟨by decide, by decide⟩, _, _, rfl, rfl, _, _, rfl, rfl, _, _, rfl, rfl, .inr ⟨by decide, by decide⟩, _, _, rfl, rfl, _, _, rfl, rfl, (by show (0 : Int) < 2147483647; decide), ?_⟩
    generalize c % 2147483647 * 48271 + (k * k + 3 * k + 7) * 69621 = y
    have y0 := Int.emod_nonneg y (by decide : (2147483647 : Int) ≠ 0)
    have y1 := Int.emod_lt_of_pos y (by decide : (0 : Int) < 2147483647)
    refine ⟨_, rfl, _, rfl, _, _, rfl, rfl, .inl ⟨by omega, by omega⟩, _, _, rfl, rfl, (by show (0 : Int) < 2147483629; decide), _, rfl, _, _, rfl, rfl, ?_⟩
    generalize y % 2147483647 * (y % 2147483647) = x
    have x0 := Int.emod_nonneg x (by decide : (2147483629 : Int) ≠ 0)
    have x1 := Int.emod_lt_of_pos x (by decide : (0 : Int) < 2147483629)
    exact ⟨_, rfl, _, rfl, _, _, rfl, rfl, ⟨by decide, by decide⟩, _, rfl, _, _, rfl, rfl, .inl ⟨by decide, by decide⟩, _, _, rfl, rfl, _, _, rfl, rfl, _, _, rfl, rfl, .inl ⟨by omega, by omega⟩, _, _, rfl, rfl, (by show (0 : Int) < 2147483587; decide), q _⟩
theorem ok_pot {f : Addr} {fd : FuncData} (F : Fun K "_law_pot" "_law_pot" s_pot f fd) : FnOk P w K mg base CX0 1 f fd ["_law_cell_here"] spPot := by
  refine F.ok sc_pot (fun vs H Q E h => ?_) (fun cdv A outer s H vs Q E hr h => ?_)
  · obtain ⟨c, rfl, _⟩ := h
    rfl
  · obtain ⟨c, rfl, q⟩ := h
    refine ⟨_, pss_one (ps_ret (pe_lst (pa_cons (pe_op op_fdiv (pv 0) pe_int) (pa_cons pe_int (pa_cons (pe_op op_mod (pv 0) pe_int) (pa_cons (pv 0) pa_nil)))))), ?_⟩
    exact ⟨_, rfl, _, _, rfl, rfl, ⟨by decide, by decide⟩, _, rfl, _, _, rfl, rfl, (by show (0 : Int) < 2; decide), _, rfl, by show 4 ≤ sizeLine; decide, fun p np => q p _ np (same_new np) ⟨_, _, _, _, upd_same, Int.le_refl _, Int.le_refl _⟩⟩
theorem ok_take {f : Addr} {fd : FuncData} (F : Fun K "_law_take" "_law_take" s_take f fd) (D_mixed : DefOk P w K mg base 1 "_law_mixed" ["_law_cell_here", "_law_k"] spMixed) : FnOk P w K mg base CX0 2 f fd ["_law_pot_here", "_law_many"] spTake := by
  refine F.ok sc_take (fun vs H Q E h => ?_) (fun cdv A outer s H vs Q E hr h => ?_)
  · obtain ⟨p, n, m, rfl, _⟩ := h
    rfl
  · obtain ⟨p, n, m, rfl, ⟨x, j, g, c, hp, hj0, hj1⟩, hm0, hm1, hn, q⟩ := h
    refine ⟨_, pss_cons (ps_asg (pe_op op_add (pe_ix ix_list (pv 0) pe_int (fun _ _ => rfl)) pe_int) (pg_sub (pv 0) pe_int set_list))
    (pss_cons (ps_if (PW.pt (pw_and (pt_cmpR op_eq (pe_ix ix_list (pv 0) pe_int (fun _ _ => rfl)) pe_int (nomark _)) (pw_and1 (pt_cmpR op_notIn_seq (pe_ix ix_list (pv 0) pe_int (fun _ _ => rfl)) (pe_tup (pa_cons pe_int (pa_cons (pe_un un_neg pe_int) pa_nil))) (by rfl)))))
      (pss_cons (ps_set (i := 2) sc_take.nd rfl (Or.inl rfl) (pe_op op_mod (pe_ix ix_list (pv 0) pe_int (fun _ _ => rfl)) (pv 1)))
      (pss_cons (ps_asg (pe_op op_fdivW (pe_ix ix_list (pv 0) pe_int (fun _ _ => rfl)) (pv 1)) (pg_sub (pv 0) pe_int set_list))
      (pss_one (ps_ret (pv 2))))) pss_nil)
    (pss_one (ps_ret (pe_op op_mod (pe_def D_mixed (hr.mono (by omega)) (by rfl) (pa_cons (pe_ix ix_list (pv 0) pe_int (fun _ _ => rfl)) (pa_cons (pe_ix ix_list (pv 0) pe_int (fun _ _ => rfl)) pa_nil))) (pv 1))))), ?_⟩
    obtain ⟨H0, rfl⟩ : ∃ H0, H = upd H0 p (.lst [.int x, .int j, .int g, .int c]) := ⟨H, (upd_self hp).symm⟩
    have hat : ∀ xs : List V, (upd H0 p (.lst xs)) p = some (.lst xs) := fun xs => upd_same
    have kp : ∀ o o', Keep p (upd H0 p o) (upd H0 p o') := fun o o' b y e nb => by
      rw [upd_ne nb] at e ⊢
      exact e
    have hdiv : ∀ y : Int, CDivW y m := fun y => wide_div (b := 60) hm0 (by omega) (by decide) (by decide)
    -- pot[1] = pot[1] + 1
    refine ⟨_, rfl, p, _, _, _, rfl, rfl, SqL.of (hat _), atI_nat (j := 1) rfl, _, _, rfl, rfl, _, rfl, p, _, _, 1, rfl, rfl, hat _, rfl, ?_⟩
    rw [upd_upd]
    have v0 : ∀ y : Int, 0 ≤ y % m := fun y => Int.emod_nonneg y (by omega)
    have v1 : ∀ y : Int, y % m < m := fun y => Int.emod_lt_of_pos y hm0
    have mix : ∀ H2, H2 p = some (.lst [.int x, .int (j + 1), .int g, .int c]) → Keep p (upd H0 p (.lst [.int x, .int j, .int g, .int c])) H2 → ∀ z : Int, Q (.int (z % m)) H2 := fun H2 h2 k2 z =>
      q _ H2 (v0 z) (v1 z) ⟨x, j + 1, g, c, h2, by omega, by omega⟩ k2
    refine ⟨_, rfl, p, _, _, _, rfl, rfl, SqL.of (hat _), atI_nat (j := 2) rfl, rfl, _, rfl, ite2 (fun e => ?_) (fun e => ?_)⟩
    · refine ⟨_, rfl, p, _, _, _, rfl, rfl, SqL.of (hat _), atI_nat (j := 0) rfl, _, rfl, by show 2 ≤ sizeLine; decide, fun T nT => ?_⟩
      have sT := same_new (o := .tup [V.int 0, V.int (-1)]) nT
      have hpT := sT _ _ (hat [V.int x, V.int (j + 1), V.int g, V.int c])
      have nTp : T ≠ p := fun z => by
        rw [z, hat] at nT
        cases nT
      refine ⟨T, _, rfl, .inr (SqT.of upd_same), rfl, rfl, _, rfl, ite2 (fun e2 => ?_) (fun e2 => ?_)⟩
      · refine ⟨_, rfl, p, _, _, _, rfl, rfl, SqL.of hpT, atI_nat (j := 0) rfl, _, rfl, _, _, rfl, rfl, hm0, ?_⟩
        refine ⟨_, rfl, p, _, _, _, rfl, rfl, SqL.of hpT, atI_nat (j := 0) rfl, _, rfl, _, _, rfl, rfl, hdiv _, _, rfl, p, _, _, 0, rfl, rfl, hpT, rfl, ?_⟩
        refine ⟨_, rfl, q _ _ (v0 x) (v1 x) ⟨x / m, j + 1, g, c, upd_same, by omega, by omega⟩ fun b y hb nb => ?_⟩
        rw [upd_ne nb]
        exact sT _ _ (kp _ _ b y hb nb)
      · exact ⟨_, rfl, p, _, _, _, rfl, rfl, SqL.of hpT, atI_nat (j := 3) rfl, _, rfl, p, _, _, _, rfl, rfl, SqL.of hpT, atI_nat (j := 1) rfl, _, _, rfl, by omega, by omega, fun z => ⟨_, rfl, _, _, rfl, rfl, hm0, mix _ hpT (fun b y hb nb => sT _ _ (kp _ _ b y hb nb)) z⟩⟩
    · exact ⟨_, rfl, p, _, _, _, rfl, rfl, SqL.of (hat _), atI_nat (j := 3) rfl, _, rfl, p, _, _, _, rfl, rfl, SqL.of (hat _), atI_nat (j := 1) rfl, _, _, rfl, by omega, by omega, fun z => ⟨_, rfl, _, _, rfl, rfl, hm0, mix _ (hat _) (kp _ _) z⟩⟩
theorem ok_moment {f : Addr} {fd : FuncData} (F : Fun K "_law_moment" "_law_moment" s_moment f fd) (D_take : DefOk P w K mg base 2 "_law_take" ["_law_pot_here", "_law_many"] spTake) : FnOk P w K mg base CX0 3 f fd ["_law_pot_here"] spMoment := by
  refine F.ok sc_moment (fun vs H Q E h => ?_) (fun cdv A outer s H vs Q E hr h => ?_)
  · obtain ⟨p, n, rfl, _⟩ := h
    rfl
  · obtain ⟨p, n, rfl, hp, hn, q⟩ := h
    refine ⟨_, pss_cons (ps_set (i := 1) sc_moment.nd rfl (Or.inl rfl) (pe_def D_take (hr.mono (by omega)) (by rfl) (pa_cons (pv 0) (pa_cons pe_int pa_nil))))
    (pss_cons (ps_if (pt_cmpR op_lt (pv 1) pe_int (nomark _))
      (pss_one (ps_ret (pe_def D_take (hr.mono (by omega)) (by rfl) (pa_cons (pv 0) (pa_cons (pe_ix ix_list (pe_lst (pa_cons pe_int (pa_cons pe_int (pa_cons pe_int pa_nil)))) (pv 1) (fun _ _ => rfl)) pa_nil))))) pss_nil)
    (pss_one (ps_ret (pe_def D_take (hr.mono (by omega)) (by rfl) (pa_cons (pv 0) (pa_cons (pe_op op_add (pe_op op_pow pe_int pe_int) pe_int) pa_nil)))))), ?_⟩
    refine ⟨_, rfl, p, n, 4, rfl, hp, by decide, by decide, by omega, fun v H1 v0 v1 P1 k1 => ?_⟩
    refine ⟨_, rfl, _, _, rfl, rfl, _, rfl, ite2 (fun e => ?_) (fun e => ?_)⟩
    · have hv := of_decide_eq_true e
      refine ⟨_, rfl, by show 3 ≤ sizeLine; decide, fun T nT => ?_⟩
      have sT := same_new (o := .lst [V.int 4, V.int 12, V.int 60]) nT
      obtain ⟨j, rfl⟩ : ∃ j : Nat, v = (j : Int) := ⟨v.toNat, (Int.toNat_of_nonneg v0).symm⟩
      have hj : ∃ y : Int, ([V.int 4, V.int 12, V.int 60] : List V)[j]? = some (.int y) ∧ 0 < y ∧ y ≤ 60 := by
        match j, hv with
        | 0, _ => exact ⟨4, rfl, by decide, by decide⟩
        | 1, _ => exact ⟨12, rfl, by decide, by decide⟩
        | 2, _ => exact ⟨60, rfl, by decide, by decide⟩
        | j + 3, h => omega
      obtain ⟨y, hy, y0, y1⟩ := hj
      exact ⟨_, rfl, T, _, _, _, rfl, rfl, SqL.of upd_same, atI_nat hy, p, n + 1, y, rfl, P1.same sT, y0, by omega, by omega, fun v2 H2 w0 w1 P2 k2 => q _ _ w0 (by omega) P2 (k1.trans ((keep_same sT).trans k2))⟩
    · exact ⟨_, rfl, _, _, rfl, rfl, ⟨by decide, by decide, by decide⟩, _, _, rfl, rfl, p, n + 1, _, rfl, P1, by decide, by decide, by omega, fun v2 H2 w0 w1 P2 k2 => q _ _ w0 (Int.lt_add_one_iff.mp (show v2 < 1000000000000 + 1 from w1)) P2 (k1.trans k2)⟩
end
end FB

namespace FB
open PySem PySem.Spec PyProof.Rows L2
def Letter (y : Str) : Prop := ∃ c : Nat, y = ⟨#[c]⟩ ∧ 97 ≤ c ∧ c ≤ 122
theorem join_letters : ∀ ys : List Str, (∀ y ∈ ys, Letter y) → (Str.join ⟨#[]⟩ ys).length = ys.length ∧ ∀ c ∈ (Str.join ⟨#[]⟩ ys).cps.toList, 97 ≤ c ∧ c ≤ 122
  | [], _ => ⟨rfl, fun c hc => by simp [Str.join, Str.empty] at hc⟩
  | y :: r, h => by
    obtain ⟨c, rfl, h1, h2⟩ := h y (by simp)
    obtain ⟨e1, e2⟩ := join_letters r fun y hy => h y (by simp [hy])
    have ej : Str.join ⟨#[]⟩ (⟨#[c]⟩ :: r) = (⟨#[c]⟩ : Str) ++ Str.join ⟨#[]⟩ r := join_nil_cons _ _
    rw [ej]
    have ec : ((⟨#[c]⟩ : Str) ++ Str.join ⟨#[]⟩ r).cps = #[c] ++ (Str.join ⟨#[]⟩ r).cps := rfl
    refine ⟨?_, fun x hx => ?_⟩
    · show ((⟨#[c]⟩ : Str) ++ Str.join ⟨#[]⟩ r).cps.size = _
      rw [ec]
      have : (Str.join ⟨#[]⟩ r).cps.size = r.length := e1
      simp [this]
      omega
    · rw [ec] at hx
      have : x = c ∨ x ∈ (Str.join ⟨#[]⟩ r).cps.toList := by simpa using hx
      rcases this with q | q
      · omega
      · exact e2 x q
theorem sum_letters : ∀ ys : List Str, (∀ y ∈ ys, Letter y) → (ys.map (·.length)).sum = ys.length
  | [], _ => rfl
  | y :: r, h => by
    obtain ⟨c, rfl, _⟩ := h y (by simp)
    have ih := sum_letters r fun y hy => h y (by simp [hy])
    rw [List.map_cons, List.sum_cons, ih, List.length_cons]
    show 1 + r.length = r.length + 1
    omega
theorem txt_join (ys : List Str) : Txt.join ("" : Str) ys = Str.join ⟨#[]⟩ ys := by
  have h := join_plain_closes ("" : Str) ys
  exact (beq_iff_eq.mp h)
theorem cut_mem {z : Str} {lo hi : Option Int} {c : Nat} (h : c ∈ (cutS z lo hi).cps.toList) : c ∈ z.cps.toList := by
  unfold cutS at h
  simp only [List.toList_toArray] at h
  exact List.mem_of_mem_drop (List.mem_of_mem_take h)
theorem KeyS.cut {z : Str} (h : KeyS z) (lo hi : Option Int) : KeyS (cutS z lo hi) := ⟨Nat.le_trans (cutS_length z lo hi) h.1, fun c hc => h.2 c (cut_mem hc)⟩
theorem cat_len (a b : Str) : (a ++ b).length = a.length + b.length := by
  show (a.cps ++ b.cps).size = a.cps.size + b.cps.size
  exact Array.size_append
theorem cat_mem {a b : Str} {c : Nat} (h : c ∈ (a ++ b).cps.toList) : c ∈ a.cps.toList ∨ c ∈ b.cps.toList := by
  have e : (a ++ b).cps = a.cps ++ b.cps := rfl
  rw [e] at h
  simpa using h
theorem cut_pos {z : Str} {v : Int} (h0 : 0 ≤ v) (h1 : v < (z.length : Int)) : 0 < (cutS z none (some (v + 1))).length := by
  show 0 < (((z.cps.toList.drop (HT.sIx z.length 0 none)).take (HT.sIx z.length z.length (some (v + 1)) - HT.sIx z.length 0 none)).toArray).size
  rw [show v + 1 = ((v.toNat + 1 : Nat) : Int) by omega, HT.sIx_none, HT.sIx_nat, List.drop_zero, List.size_toArray, List.length_take, Array.length_toList]
  have : z.cps.size = z.length := rfl
  omega
section
variable {P : Program} {w : World} {K : PySem.W.Frag} {mg : Str → Option Value} {base : Heap}
theorem ok_word {f : Addr} {fd : FuncData} (F : Fun K "_law_word" "_law_word" s_word f fd) (B : Blt mg) (D_take : DefOk P w K mg base 2 "_law_take" ["_law_pot_here", "_law_many"] spTake) : FnOk P w K mg base CX0 3 f fd ["_law_pot_here", "_law_size"] spWord := by
  refine F.ok sc_word (fun vs H Q E h => ?_) (fun cdv A outer s H vs Q E hr h => ?_)
  · obtain ⟨p, n, m, rfl, _⟩ := h
    rfl
  · obtain ⟨p, n, m, rfl, hp, hm0, hm1, hn, q⟩ := h
    refine ⟨_, pss_one (ps_ret (pe_join pe_str (pe_lc (own := [("_law_k", 2)]) (g := gName 2) (tt := tYes) rfl sc_word.nd (pi_range1 (by rfl) B.range (pa_cons (pv 1) pa_nil)) (blkOk_by (own := [("_law_k", 2)]) (N := ["_law_pot_here", "_law_size", "_law_k"]) (sc := defScope s_word) (by decide +kernel)) (fun _ _ _ _ _ => pg_name (i := 2) sc_word.nd rfl (Or.inl rfl)) (fun _ _ _ _ _ => pts_nil) (fun _ _ _ _ _ => pe_ix ix_str pe_str (pe_def D_take (hr.mono (by omega)) (by rfl) (pa_cons (pv 0) (pa_cons pe_int pa_nil))) (fun _ _ => rfl))))), ?_⟩
    refine ⟨⟨_, rfl⟩, _, rfl, _, rfl, by omega, by omega, fun D nD => ?_⟩
    have nDp : D ≠ p := hp.ne nD
    refine lc_range (lo := 0) (n := m.toNat) (fun i H' => ∃ ys : List Str, ys.length = i ∧ (∀ y ∈ ys, Letter y) ∧ H' D = some (.lst (ys.map V.str)) ∧ PotAt H' p (n + i) ∧ Keep p H H') ?_ ?_ ?_
    · exact ⟨[], rfl, fun y hy => by simp at hy, upd_same, hp.same (same_new nD), keep_same (same_new nD)⟩
    · rintro i H' hi ⟨ys, hl, hy, hDl, P', k'⟩
      refine ⟨rfl, ?_⟩
      refine ⟨_, rfl, p, n + i, 26, rfl, P', by decide, by decide, by omega, fun v3 H3 x0 x1 P3 k3 => ?_⟩
      obtain ⟨c, hc, c1, c2⟩ := letter x0 x1
      have hD3 := k3 _ _ hDl nDp
      refine ⟨abc, _, c, rfl, rfl, abc_len, hc, _, hD3, small1000 (by rw [List.length_map]; omega), ys ++ [⟨#[c]⟩], by rw [List.length_append, hl]; rfl, fun y my => ?_, ?_, P3.upd nDp.symm, keep_mut (k'.trans k3) nD⟩
      · rcases List.mem_append.mp my with m | m
        · exact hy y m
        · exact ⟨c, by simpa using m, c1, c2⟩
      · rw [upd_same, List.map_append]
        rfl
    · rintro H' ⟨ys, hl, hy, hDl, P', k'⟩
      refine ⟨_, D, ys, rfl, rfl, .inl (SqL.of hDl), by rw [sum_letters ys hy]; show ys.length + ys.length * 0 ≤ _; omega, ?_⟩
      rw [txt_join]
      obtain ⟨e1, e2⟩ := join_letters ys hy
      exact q _ H' (by rw [e1, hl]) ⟨by rw [e1]; omega, e2⟩ (P'.mono (by omega)) k'
theorem ok_keys {f : Addr} {fd : FuncData} (F : Fun K "_law_keys" "_law_keys" s_keys f fd) (B : Blt mg) (D_cell : DefOk P w K mg base 1 "_law_cell" ["_law_script", "_law_k"] (spCell K)) (D_pot : DefOk P w K mg base 1 "_law_pot" ["_law_cell_here"] spPot)
    (D_take : DefOk P w K mg base 2 "_law_take" ["_law_pot_here", "_law_many"] spTake) (D_word : DefOk P w K mg base 3 "_law_word" ["_law_pot_here", "_law_size"] spWord) : FnOk P w K mg base CX0 4 f fd ["_law_script"] (spKeys K) := by
  refine F.ok sc_keys (fun vs H Q E h => ?_) (fun cdv A outer s H vs Q E hr h => ?_)
  · obtain ⟨a, ns, rfl, _⟩ := h
    rfl
  · obtain ⟨a, ns, rfl, hS, q⟩ := h
    refine ⟨_, pss_cons (ps_set (i := 1) sc_keys.nd rfl (Or.inl rfl) (pe_def D_pot (hr.mono (by omega)) (by rfl) (pa_cons (pe_def D_cell (hr.mono (by omega)) (by rfl) (pa_cons (pv 0) (pa_cons pe_int pa_nil))) pa_nil)))
    (pss_cons (ps_set (i := 2) sc_keys.nd rfl (Or.inl rfl) (pe_op op_add (pe_op op_add pe_int (pe_def D_take (hr.mono (by omega)) (by rfl) (pa_cons (pv 1) (pa_cons pe_int pa_nil)))) (pe_op op_mul pe_int (pe_callTy call_int1 (by rfl) B.int (by decide +kernel) (pa_cons (pe_cmpR op_eq (pe_def D_take (hr.mono (by omega)) (by rfl) (pa_cons (pv 1) (pa_cons pe_int pa_nil))) pe_int (nomark _)) pa_nil)))))
    (pss_cons (ps_set (i := 3) sc_keys.nd rfl (Or.inl rfl) (pe_def D_take (hr.mono (by omega)) (by rfl) (pa_cons (pv 1) (pa_cons pe_int pa_nil))))
    (pss_cons (ps_set (i := 4) sc_keys.nd rfl (Or.inl rfl) (pe_def D_word (hr.mono (by omega)) (by rfl) (pa_cons (pv 1) (pa_cons (pe_op op_add pe_int (pe_def D_take (hr.mono (by omega)) (by rfl) (pa_cons (pv 1) (pa_cons pe_int pa_nil)))) pa_nil))))
    (pss_cons (ps_set (i := 5) sc_keys.nd rfl (Or.inl rfl) (pe_lst (pa_cons (pv 4) pa_nil)))
    (pss_cons (ps_for PassesOwn.never rfl (pi_range1 (by rfl) B.range (pa_cons (pv 2) pa_nil)) (pg_name (i := 6) sc_keys.nd rfl (Or.inl rfl))
      (pss_cons (ps_set (i := 7) sc_keys.nd rfl (Or.inl rfl) (pe_def D_take (hr.mono (by omega)) (by rfl) (pa_cons (pv 1) (pa_cons (pe_callB call_len_str (by rfl) B.len (by decide +kernel) (pa_cons (pv 4) pa_nil)) pa_nil))))
      (pss_cons (ps_if (pt_cmpR op_eq (pv 3) pe_int (nomark _))
        (pss_one (ps_set (i := 8) sc_keys.nd rfl (Or.inl rfl) (pe_op op_add_str (pe_op op_add_str (pe_slice sl_str (pv 4) po_none (po_some (pv 7))) (pe_def D_word (hr.mono (by omega)) (by rfl) (pa_cons (pv 1) (pa_cons pe_int pa_nil)))) (pe_slice sl_str (pv 4) (po_some (pe_op op_add (pv 7) pe_int)) po_none))))
        (pss_one (ps_if (pt_cmpR op_eq (pv 3) pe_int (nomark _))
          (pss_one (ps_set (i := 8) sc_keys.nd rfl (Or.inl rfl) (pe_slice sl_str (pv 4) po_none (po_some (pe_op op_add (pv 7) pe_int)))))
          (pss_one (ps_set (i := 8) sc_keys.nd rfl (Or.inl rfl) (pe_def D_word (hr.mono (by omega)) (by rfl) (pa_cons (pv 1) (pa_cons (pe_op op_add pe_int (pe_def D_take (hr.mono (by omega)) (by rfl) (pa_cons (pv 1) (pa_cons pe_int pa_nil)))) pa_nil))))))))
      (pss_one (ps_if (pt_cmpR op_notIn_seq (pv 8) (pv 5) (by rfl))
        (pss_one (ps_expr (pe_bm PySem.F.plainAttrs_list PySem.F.slot_list_append PySem.F.type_list_append mt_append (pv 5) (pa_cons (pv 8) pa_nil)))) pss_nil)))))
    (pss_one (ps_ret (pv 5)))))))), ?_⟩
    refine ⟨_, rfl, a, ns, 0, rfl, hS, Int.le_refl _, fun z => ⟨z, rfl, fun p H1 np s1 P1 => ?_⟩⟩
    refine ⟨_, rfl, p, 0, 5, rfl, P1, by decide, by decide, by decide, fun v2 H2 a2 b2 P2 k2 => ?_⟩
    refine ⟨_, _, rfl, rfl, _, rfl, p, 1, 8, rfl, P2, by decide, by decide, by decide, fun v3 H3 a3 b3 P3 k3 => ?_⟩
    refine ⟨rfl, .inr ⟨_, rfl, _, _, rfl, rfl, .inl ⟨by decide, by decide⟩, _, _, rfl, rfl, ?_⟩⟩
    obtain ⟨J, hJ, J0, J1⟩ : ∃ J : Int, (if decide (V.int v3 = V.int 0) = true then (1 : Int) else 0) = J ∧ 0 ≤ J ∧ J ≤ 1 := ⟨_, rfl, by split <;> decide, by split <;> decide⟩
    rw [hJ]
    have M0 : 1 ≤ 1 + v2 + 7 * J := by omega
    have M1 : 1 + v2 + 7 * J ≤ 12 := by omega
    refine ⟨_, rfl, p, 2, 3, rfl, P3, by decide, by decide, by decide, fun way H4 a4 b4 P4 k4 => ?_⟩
    refine ⟨_, rfl, _, rfl, p, 3, 8, rfl, P4, by decide, by decide, by decide, fun v5 H5 a5 b5 P5 k5 => ?_⟩
    refine ⟨_, _, rfl, rfl, p, 4, _, rfl, P5, by omega, by omega, by decide, fun bz H6 hbl hbk P6 k6 => ?_⟩
    have k26 := k2.trans (k3.trans (k4.trans (k5.trans k6)))
    have sm6 : Same H H6 := fun b o hb => k26 b o (s1 b o hb) (ne_of_none hb np)
    refine ⟨_, rfl, by show 1 ≤ sizeLine; decide, fun l nl => ?_⟩
    have nlp : l ≠ p := P6.ne nl
    have nlH : H l = none := sm6.free nl
    have hb1 : 1 ≤ bz.length := by
      rw [hbl]
      omega
    have hb8 : bz.length ≤ 8 := by
      rw [hbl]
      omega
    have hb20 : bz.length ≤ sizeLine := Nat.le_trans hbk.1 (by decide)
    obtain ⟨Pv, hPv⟩ : ∃ Pv : Nat → L2.St → Hp → Prop, ∀ i σ H', Pv i σ H' ↔ ∃ v6 v7 v8, ∃ ks : List Str, σ = [some (.ref a), some (.ref p), some (.int (1 + v2 + 7 * J)), some (.int way), some (.str bz), some (.ref l), v6, v7, v8] ∧ 0 < ks.length ∧ ks.length ≤ i + 1 ∧ (∀ k ∈ ks, KeyS k) ∧ (ks.Nodup ∧ ∀ k ∈ ks, 0 < k.length) ∧ H' l = some (.lst (ks.map V.str)) ∧ PotAt H' p (20 + 30 * i) ∧ Same H H' := ⟨_, fun _ _ _ => Iff.rfl⟩
    refine ⟨_, rfl, _, rfl, by omega, by omega, for_range (lo := 0) (n := (1 + v2 + 7 * J).toNat) Pv ?_ ?_ ?_⟩
    · exact (hPv _ _ _).mpr ⟨none, none, none, [bz], rfl, Nat.zero_lt_one, Nat.le_refl _, fun k hk => by rw [show k = bz by simpa using hk]; exact hbk, ⟨by simp, fun k hk => by rw [show k = bz by simpa using hk]; omega⟩, upd_same, (P6.same (same_new nl)).mono (by decide), sm6.trans (same_new nl)⟩
    · intro i σ H' hi hp
      obtain ⟨v6, v7, v8, ks, rfl, h0, hl, hk, ⟨nd, hpo⟩, hls, P', sm⟩ := (hPv _ _ _).mp hp
      refine ⟨_, rfl, _, rfl, _, rfl, hb20, p, 20 + 30 * i, _, rfl, P', by omega, Int.lt_of_le_of_lt (show (bz.length : Int) ≤ 20 by have := hbk.1; omega) (by decide), by omega, fun at_ Ha aa ba Pa ka => ?_⟩
      have smk : ∀ {Hk : Hp}, Keep p H' Hk → Same H Hk := fun kk b o hb => kk b o (sm b o hb) (ne_of_none hb np)
      have yes : ∀ z Hk, 0 < z.length → KeyS z → z ∉ ks → Keep p H' Hk → PotAt Hk p (20 + 30 * (i + 1)) → Pv (i + 1) [some (.ref a), some (.ref p), some (.int (1 + v2 + 7 * J)), some (.int way), some (.str bz), some (.ref l), some (.int (0 + (i : Int))), some (.int at_), some (.str z)] (upd Hk l (.lst (ks.map V.str ++ [V.str z]))) := fun z Hk hz0 hz hno kk Pk => by
        refine (hPv _ _ _).mpr ⟨_, _, _, ks ++ [z], rfl, by rw [List.length_append]; omega, by rw [List.length_append]; show ks.length + 1 ≤ _; omega, fun x hx => ?_, ?_, ?_, Pk.upd nlp.symm, same_mut' (smk kk) nlH⟩
        · rcases List.mem_append.mp hx with h | h
          · exact hk x h
          · rw [show x = z by simpa using h]
            exact hz
        · refine ⟨?_, fun x hx => ?_⟩
          · rw [List.nodup_append]
            exact ⟨nd, by simp, fun a ha b hb e => hno (by rw [show b = z by simpa using hb] at e; rw [← e]; exact ha)⟩
          · rcases List.mem_append.mp hx with h | h
            · exact hpo x h
            · rw [show x = z by simpa using h]
              exact hz0
        · rw [upd_same, List.map_append]
          rfl
      have no : ∀ z Hk, Keep p H' Hk → PotAt Hk p (20 + 30 * (i + 1)) → Pv (i + 1) [some (.ref a), some (.ref p), some (.int (1 + v2 + 7 * J)), some (.int way), some (.str bz), some (.ref l), some (.int (0 + (i : Int))), some (.int at_), some (.str z)] Hk := fun z Hk kk Pk =>
        (hPv _ _ _).mpr ⟨_, _, _, ks, rfl, h0, by omega, hk, ⟨nd, hpo⟩, kk _ _ hls nlp, Pk, smk kk⟩
      have hno : ∀ {z : Str}, (!inV (.str z) (ks.map V.str)) = true → z ∉ ks := fun {z} e h => by
        rw [inV_str, decide_eq_true h] at e
        cases e
      have hsz : (ks.map V.str).length < sizeLine := by
        rw [List.length_map]
        exact small1000 (by omega)
      refine ⟨_, rfl, rfl, _, rfl, ite2 (fun e => ?_) (fun e => ?_)⟩
      · refine ⟨_, rfl, _, rfl, _, rfl, _, rfl, hb20, _, rfl, p, _, 1, rfl, Pa, by decide, by decide, by omega, fun wz Hw hwl hwk Pw kw => ?_⟩
        have hc1 := cutS_length bz none (some at_)
        have hc2 := cutS_length bz (some (at_ + 1)) none
        have hw1 : wz.length = 1 := hwl
        refine ⟨_, _, rfl, rfl, Nat.le_trans (show _ ≤ 100 by omega) (by decide), _, rfl, _, rfl, _, _, rfl, rfl, _, rfl, _, rfl, hb20, _, _, rfl, rfl, by rw [cat_len]; exact Nat.le_trans (show _ ≤ 100 by omega) (by decide), ?_⟩
        have hz : KeyS (cutS bz none (some at_) ++ wz ++ cutS bz (some (at_ + 1)) none) := by
          refine ⟨by rw [cat_len, cat_len]; omega, fun c hc => ?_⟩
          rcases cat_mem hc with h | h
          · rcases cat_mem h with h | h
            · exact hbk.2 c (cut_mem h)
            · exact hwk.2 c h
          · exact hbk.2 c (cut_mem h)
        have kk := ka.trans kw
        have hlk := kk _ _ hls nlp
        refine ⟨_, rfl, _, rfl, l, _, rfl, .inl (SqL.of hlk), rfl, flat_strs ks, _, rfl, ite2 (fun e => ?_) (fun e => no _ _ kk (Pw.mono (by omega)))⟩
        exact ⟨_, rfl, .inl ⟨rfl, _, SqL.of hlk⟩, _, rfl, l, _, _, rfl, rfl, hlk, hsz, yes _ _ (by rw [cat_len, cat_len]; omega) hz (hno e) kk (Pw.mono (by omega))⟩
      · refine ⟨_, rfl, rfl, _, rfl, ite2 (fun e => ?_) (fun e => ?_)⟩
        · refine ⟨_, rfl, _, rfl, _, _, rfl, rfl, _, rfl, _, rfl, hb20, ?_⟩
          have hlk := ka _ _ hls nlp
          refine ⟨_, rfl, _, rfl, l, _, rfl, .inl (SqL.of hlk), rfl, flat_strs ks, _, rfl, ite2 (fun e => ?_) (fun e => no _ _ ka (Pa.mono (by omega)))⟩
          exact ⟨_, rfl, .inl ⟨rfl, _, SqL.of hlk⟩, _, rfl, l, _, _, rfl, rfl, hlk, hsz, yes _ _ (cut_pos aa ba) (hbk.cut _ _) (hno e) ka (Pa.mono (by omega))⟩
        · refine ⟨_, rfl, _, rfl, p, _, 8, rfl, Pa, by decide, by decide, by omega, fun v9 H9 a9 b9 P9 k9 => ?_⟩
          refine ⟨_, _, rfl, rfl, p, _, _, rfl, P9, by omega, by omega, by omega, fun wz Hw hwl hwk Pw kw => ?_⟩
          have kk := ka.trans (k9.trans kw)
          have hlk := kk _ _ hls nlp
          refine ⟨_, rfl, _, rfl, l, _, rfl, .inl (SqL.of hlk), rfl, flat_strs ks, _, rfl, ite2 (fun e => ?_) (fun e => no _ _ kk (Pw.mono (by omega)))⟩
          exact ⟨_, rfl, .inl ⟨rfl, _, SqL.of hlk⟩, _, rfl, l, _, _, rfl, rfl, hlk, hsz, yes _ _ (by rw [hwl]; omega) hwk (hno e) kk (Pw.mono (by omega))⟩
    · intro σ H' hp
      obtain ⟨v6, v7, v8, ks, rfl, h0, hl, hk, nd, hls, P', sm⟩ := (hPv _ _ _).mp hp
      exact ⟨_, rfl, q l ks H' h0 (by omega) hk nd hls sm nlH⟩
end
end FB

namespace FB
open PySem PySem.Spec PyProof.Rows L2
theorem cutV_mem {xs : List V} {lo hi : Option Int} {v : V} (h : v ∈ cutV xs lo hi) : v ∈ xs := by
  unfold cutV at h
  exact List.mem_of_mem_drop (List.mem_of_mem_take h)
section
variable {P : Program} {w : World} {K : PySem.W.Frag} {mg : Str → Option Value} {base : Heap}
theorem ok_puts {f : Addr} {fd : FuncData} (F : Fun K "_law_puts" "_law_puts" s_puts f fd) (B : Blt mg) (D_pot : DefOk P w K mg base 1 "_law_pot" ["_law_cell_here"] spPot)
    (D_take : DefOk P w K mg base 2 "_law_take" ["_law_pot_here", "_law_many"] spTake) (D_moment : DefOk P w K mg base 3 "_law_moment" ["_law_pot_here"] spMoment) : FnOk P w K mg base CX0 4 f fd ["_law_script", "_law_keys_here"] (spPuts K) := by
  refine F.ok sc_puts (fun vs H Q E h => ?_) (fun cdv A outer s H vs Q E hr h => ?_)
  · obtain ⟨a, l, ns, ks, rfl, _⟩ := h
    rfl
  · obtain ⟨a, l, ns, ks, rfl, hS, hns, hl, hk0, hk1, q⟩ := h
    refine ⟨_, pss_cons (ps_set (i := 2) sc_puts.nd rfl (Or.inl rfl) (pe_lst pa_nil))
    (pss_cons (ps_for PassesOwn.never rfl (pi_list (pe_slice sl_list (pv 0) (po_some pe_int) (po_some pe_int))) (pg_name (i := 3) sc_puts.nd rfl (Or.inl rfl))
      (pss_cons (ps_set (i := 4) sc_puts.nd rfl (Or.inl rfl) (pe_def D_pot (hr.mono (by omega)) (by rfl) (pa_cons (pv 3) pa_nil)))
      (pss_one (ps_for PassesOwn.never rfl (pi_range1 (by rfl) B.range (pa_cons (pe_op op_add pe_int (pe_def D_take (hr.mono (by omega)) (by rfl) (pa_cons (pv 4) (pa_cons pe_int pa_nil)))) pa_nil)) (pg_name (i := 5) sc_puts.nd rfl (Or.inl rfl))
        (pss_cons (ps_set (i := 6) sc_puts.nd rfl (Or.inl rfl) (pe_ix ix_list (pv 1) (pe_def D_take (hr.mono (by omega)) (by rfl) (pa_cons (pv 4) (pa_cons (pe_callB call_len_seq (by rfl) B.len (by decide +kernel) (pa_cons (pv 1) pa_nil)) pa_nil))) (fun _ _ => rfl)))
        (pss_cons (ps_set (i := 7) sc_puts.nd rfl (Or.inl rfl) (pe_def D_moment (hr.mono (by omega)) (by rfl) (pa_cons (pv 4) pa_nil)))
        (pss_cons (ps_set (i := 8) sc_puts.nd rfl (Or.inl rfl) (pe_op op_sub (pe_def D_take (hr.mono (by omega)) (by rfl) (pa_cons (pv 4) (pa_cons pe_int pa_nil))) pe_int))
        (pss_cons (ps_if (pt_cmpR op_eq (pe_def D_take (hr.mono (by omega)) (by rfl) (pa_cons (pv 4) (pa_cons pe_int pa_nil))) pe_int (nomark _))
          (pss_one (ps_set (i := 8) sc_puts.nd rfl (Or.inl rfl) (pe_op op_sub (pe_def D_take (hr.mono (by omega)) (by rfl) (pa_cons (pv 4) (pa_cons (pe_op op_pow pe_int pe_int) pa_nil))) (pe_op op_pow pe_int pe_int)))) pss_nil)
        (pss_one (ps_expr (pe_bm PySem.F.plainAttrs_list PySem.F.slot_list_append PySem.F.type_list_append mt_append (pv 2) (pa_cons (pe_tup (pa_cons (pv 6) (pa_cons (pv 7) (pa_cons (pv 8) pa_nil)))) pa_nil))))))))))))
    (pss_one (ps_ret (pv 2)))), ?_⟩
    refine ⟨Nat.zero_le _, fun pl npl => ?_⟩
    have s0 := same_new (o := .lst []) npl
    refine ⟨_, rfl, _, rfl, _, rfl, a, _, rfl, s0.seq hS, fun sl nsl => ?_⟩
    have s1 := same_new (o := .lst (cutV (ns.map V.int) (some 1) (some 63))) nsl
    have nps : pl ≠ sl := fun z => by
      rw [← z, upd_same] at nsl
      cases nsl
    have hcl : (cutV (ns.map V.int) (some 1) (some 63)).length ≤ 63 := by
      have := cutV_length (ns.map V.int) (some 1) (some 63)
      rw [List.length_map] at this
      omega
    have hcm : ∀ v ∈ cutV (ns.map V.int) (some 1) (some 63), ∃ z, v = V.int z := fun v hv => by
      obtain ⟨z, _, rfl⟩ := List.mem_map.mp (cutV_mem hv)
      exact ⟨z, rfl⟩
    have nslH : H sl = none := s0.free nsl
    generalize cutV (ns.map V.int) (some 1) (some 63) = cells at s1 hcl hcm nsl
    let Good (zs : List Pu) : Prop := ∀ z ∈ zs, z.2.1 ∈ ks ∧ 0 ≤ z.2.2.1 ∧ z.2.2.1 ≤ 1000000000000
    obtain ⟨Pv, hPv⟩ : ∃ Pv : Nat → L2.St → Hp → Prop, ∀ i σ H', Pv i σ H' ↔ ∃ v3 v4 v5 v6 v7 v8, ∃ zs : List Pu, σ = [some (.ref a), some (.ref l), some (.ref pl), v3, v4, v5, v6, v7, v8] ∧ PutsAt H' pl zs ∧ Good zs ∧ zs.length ≤ 3 * i ∧ H' sl = some (.lst cells) ∧ Same H H' := ⟨_, fun _ _ _ => Iff.rfl⟩
    refine ⟨sl, rfl, ⟨_, SqL.of upd_same⟩, for_list (K := K) (a := sl) (xs := cells) Pv ?_ ?_ ?_ ?_⟩
    · exact (hPv _ _ _).mpr ⟨none, none, none, none, none, none, [], rfl, ⟨by rw [upd_ne nps, upd_same]; rfl, fun z hz => by simp at hz⟩, fun z hz => by simp at hz, Nat.zero_le _, upd_same, s0.trans s1⟩
    · intro i σ H' _ hp
      obtain ⟨_, _, _, _, _, _, _, _, _, _, _, h, _⟩ := (hPv _ _ _).mp hp
      exact SqL.of h
    · intro i x σ H' hi hp
      obtain ⟨v3, v4, v5, v6, v7, v8, zs, rfl, hZ, hG, hzl, hsl, sm⟩ := (hPv _ _ _).mp hp
      have hil : i < cells.length := (List.getElem?_eq_some_iff.mp hi).1
      obtain ⟨cell, rfl⟩ := hcm x (List.mem_of_getElem? hi)
      refine ⟨_, rfl, cell, rfl, fun pt H1 npt t1 P1 => ?_⟩
      have nptp : pt ≠ pl := (ne_of_none hZ.ls npt).symm
      have npts : pt ≠ sl := (ne_of_none hsl npt).symm
      have nptH : H pt = none := sm.free npt
      refine ⟨_, rfl, pt, 0, 3, rfl, P1, by decide, by decide, by decide, fun v H2 a2 b2 P2 k2 => ?_⟩
      have hZ2 := (hZ.same t1).keep k2 nptp.symm P1
      have hsl2 := k2 _ _ (t1 _ _ hsl) npts.symm
      have smk : ∀ {A B : Hp}, Same H A → Keep pt A B → Same H B := fun sa kk b o hb => kk b o (sa b o hb) (ne_of_none hb nptH)
      have sm2 := smk (sm.trans t1) k2
      obtain ⟨Pw, hPw⟩ : ∃ Pw : Nat → L2.St → Hp → Prop, ∀ j σ H', Pw j σ H' ↔ ∃ w5 w6 w7 w8, ∃ zs : List Pu, σ = [some (.ref a), some (.ref l), some (.ref pl), some (.int cell), some (.ref pt), w5, w6, w7, w8] ∧ PutsAt H' pl zs ∧ Good zs ∧ zs.length ≤ 3 * i + j ∧ H' sl = some (.lst cells) ∧ PotAt H' pt (1 + 10 * j) ∧ Same H H' := ⟨_, fun _ _ _ => Iff.rfl⟩
      refine ⟨_, _, rfl, rfl, _, rfl, by omega, by omega, for_range (lo := 0) (n := (1 + v).toNat) Pw ?_ ?_ ?_⟩
      · exact (hPw _ _ _).mpr ⟨_, _, _, _, zs, rfl, hZ2, hG, by omega, hsl2, P2, sm2⟩
      · intro j σ H' hj hp
        obtain ⟨w5, w6, w7, w8, zs, rfl, hZ, hG, hzl, hsl, P', sm⟩ := (hPw _ _ _).mp hp
        have hlk := sm _ _ hl
        have nlt : l ≠ pt := ne_of_none hl nptH
        have hklen : ((ks.map V.str).length : Int) = ks.length := by rw [List.length_map]
        refine ⟨_, rfl, _, rfl, _, rfl, l, _, rfl, .inl (SqL.of hlk), pt, 1 + 10 * j, _, rfl, P', by rw [hklen]; omega, by rw [hklen]; exact Int.lt_of_le_of_lt (show (ks.length : Int) ≤ 13 by omega) (by decide), by omega, fun v3 H3 a3 b3 P3 k3 => ?_⟩
        obtain ⟨kv, hkv, hat⟩ := at_list' (xs := ks.map V.str) a3 b3
        obtain ⟨key, hkey, rfl⟩ := List.mem_map.mp hkv
        refine ⟨l, _, _, _, rfl, rfl, SqL.of (k3 _ _ hlk nlt), hat, ?_⟩
        refine ⟨_, rfl, pt, _, rfl, P3, by omega, fun mo H4 a4 b4 P4 k4 => ?_⟩
        refine ⟨_, rfl, pt, _, 19, rfl, P4, by decide, by decide, by omega, fun v5 H5 a5 b5 P5 k5 => ?_⟩
        refine ⟨_, _, rfl, rfl, ?_⟩
        refine ⟨_, rfl, pt, _, 5, rfl, P5, by decide, by decide, by omega, fun v6 H6 a6 b6 P6 k6 => ?_⟩
        have k36 := k3.trans (k4.trans (k5.trans k6))
        have fin : ∀ (val : Int) (Hk : Hp), Keep pt H' Hk → PotAt Hk pt (1 + 10 * (j + 1)) → ∀ T, Hk T = none → Pw (j + 1) [some (.ref a), some (.ref l), some (.ref pl), some (.int cell), some (.ref pt), some (.int (0 + (j : Int))), some (.str key), some (.int mo), some (.int val)] (upd (upd Hk T (.tup [.str key, .int mo, .int val])) pl (.lst (zs.map (fun z => V.ref z.1) ++ [.ref T]))) := fun val Hk kk Pk T nT => by
          have hZk := hZ.keep kk nptp.symm P'
          have u := same_new (o := .tup [V.str key, V.int mo, V.int val]) nT
          refine (hPw _ _ _).mpr ⟨_, _, _, _, zs ++ [(T, key, mo, val)], rfl, hZk.addNew (q := (key, mo, val)) nT, fun z hz => ?_, by rw [List.length_append]; show zs.length + 1 ≤ _; omega, ?_, (Pk.same u).upd nptp, same_mut' ((smk sm kk).trans u) npl⟩
          · rcases List.mem_append.mp hz with h | h
            · exact hG z h
            · rw [show z = (T, key, mo, val) by simpa using h]
              exact ⟨hkey, a4, b4⟩
          · rw [upd_ne nps.symm]
            exact u _ _ (kk _ _ hsl npts.symm)
        have hsz : (zs.map fun z => V.ref z.1).length < sizeLine := by
          rw [List.length_map]
          exact small1000 (by omega)
        refine ⟨rfl, _, rfl, ite2 (fun e => ?_) (fun e => ?_)⟩
        · refine ⟨_, rfl, _, _, rfl, rfl, ⟨by decide, by decide, by decide⟩, pt, _, _, rfl, P6, by decide, by decide, by omega, fun v7 H7 a7 b7 P7 k7 => ?_⟩
          refine ⟨_, _, rfl, rfl, ⟨by decide, by decide, by decide⟩, _, _, rfl, rfl, ?_⟩
          have kk := k36.trans k7
          have hZk := hZ.keep kk nptp.symm P'
          exact ⟨_, rfl, .inl ⟨rfl, _, SqL.of hZk.ls⟩, _, rfl, _, rfl, _, rfl, by show 3 ≤ sizeLine; decide, fun T nT => ⟨pl, _, _, rfl, rfl, (same_new nT) _ _ hZk.ls, hsz, fin _ _ kk (P7.mono (by omega)) T nT⟩⟩
        · have hZk := hZ.keep k36 nptp.symm P'
          exact ⟨_, rfl, .inl ⟨rfl, _, SqL.of hZk.ls⟩, _, rfl, _, rfl, _, rfl, by show 3 ≤ sizeLine; decide, fun T nT => ⟨pl, _, _, rfl, rfl, (same_new nT) _ _ hZk.ls, hsz, fin _ _ k36 (P6.mono (by omega)) T nT⟩⟩
      · intro σ H' hp
        obtain ⟨w5, w6, w7, w8, zs, rfl, hZ, hG, hzl, hsl, P', sm⟩ := (hPw _ _ _).mp hp
        exact (hPv _ _ _).mpr ⟨_, _, _, _, _, _, zs, rfl, hZ, hG, by omega, hsl, sm⟩
    · intro σ H' hp
      obtain ⟨v3, v4, v5, v6, v7, v8, zs, rfl, hZ, hG, hzl, hsl, sm⟩ := (hPv _ _ _).mp hp
      exact ⟨_, rfl, q pl zs H' hZ hG (by omega) sm npl⟩
end
end FB

namespace FB
open PySem PySem.Spec PyProof.Rows L2
def NonD (H H' : Hp) : Prop := ∀ b o, H b = some o → (∀ kvs, o ≠ .dK kvs) → H' b = some o
theorem NonD.trans {H H1 H2 : Hp} (a : NonD H H1) (b : NonD H1 H2) : NonD H H2 := fun c o h n => b c o (a c o h n) n
theorem nond_same {H H' : Hp} (s : Same H H') : NonD H H' := fun b o h _ => s b o h
theorem PutsAt.nond {H H' : Hp} {a : Addr} {zs : List Pu} (h : PutsAt H a zs) (s : NonD H H') : PutsAt H' a zs :=
  ⟨s _ _ h.ls (by intro kvs z; cases z), fun z hz => s _ _ (h.tp z hz) (by intro kvs z; cases z)⟩
theorem cut_take (xs : List V) (n : Nat) : cutV xs none (some (n : Int)) = xs.take n := by
  unfold cutV
  rw [HT.sIx_none, HT.sIx_nat, List.drop_zero, Nat.sub_zero]
  by_cases h : n ≤ xs.length
  · rw [Nat.min_eq_left h]
  · rw [Nat.min_eq_right (by omega), List.take_of_length_le (Nat.le_refl _), List.take_of_length_le (by omega)]
theorem at_due {ps : List Put} (hp : ∀ q ∈ ps, 0 ≤ q.2.1) {k : Str} {m r : Int} (h : AtR (pgOf ps k) m r) : V.int r = V.int (dueF ps k m).2 := congrArg V.int (h.one (pgOf_nodup k ps) (due_at k m hp))
theorem pgOf_none {ps : List Put} {k : Str} (h : ∀ q ∈ ps, q.1 ≠ k) : pgOf ps k = [] := by
  revert h
  refine snoc_ind (P := fun ps => (∀ q ∈ ps, q.1 ≠ k) → pgOf ps k = []) (fun _ => rfl) (fun r q ih h => ?_) ps
  rw [pgOf_snoc, if_neg (h q (by simp))]
  exact ih fun y hy => h y (by simp [hy])
/-- what stands in a page was put -/
theorem pgOf_mem {k : Str} (ps : List Put) : ∀ x ∈ pgOf ps k, ∃ q ∈ ps, q.1 = k ∧ q.2 = x := by
  refine snoc_ind (P := fun ps => ∀ x ∈ pgOf ps k, ∃ q ∈ ps, q.1 = k ∧ q.2 = x) (fun x hx => by simp [pgOf] at hx) (fun r q ih x hx => ?_) ps
  rw [pgOf_snoc] at hx
  have old : x ∈ pgOf r k → ∃ y ∈ r ++ [q], y.1 = k ∧ y.2 = x := fun h => by
    obtain ⟨y, hy, e⟩ := ih x h
    exact ⟨y, by simp [hy], e⟩
  by_cases hk : q.1 = k
  · rw [if_pos hk] at hx
    unfold pstep at hx
    split at hx
    · exact old hx
    · rcases List.mem_append.mp hx with h | h
      · exact old h
      · exact ⟨q, by simp, hk, by rw [show x = (q.2.1, q.2.2) by simpa using h]⟩
  · rw [if_neg hk] at hx
    exact old hx
def spLaw (K : PySem.W.Frag) : Sp := fun vs H Q _ => ∃ (a : Addr) (ns : List Int), vs = [.ref a] ∧ SqL K H a (ns.map V.int) ∧ ns.length ≤ 63 ∧ ∀ H', Q (.bl true) H'
end FB

namespace FB
open PySem PySem.Spec PyProof.Rows L2
section
variable {P : Program} {w : World} {K : PySem.W.Frag} {mg : Str → Option Value} {base : Heap}
theorem ok_has_key {f : Addr} {fd : FuncData} (F : Fun K "has_key" "has_key" s_has_key f fd) : FnOk P w K mg base CX0 1 f fd ["span", "key"] (spHas K) := by
  refine F.ok sc_has_key (fun vs H Q E h => ?_) (fun cdv A outer s H vs Q E hr h => ?_)
  · obtain ⟨p, l, h, k, rfl, _⟩ := h
    rfl
  · obtain ⟨p, l, h, k, rfl, hT, q⟩ := h
    refine ⟨_, pss_cons (ps_asg (pv 0) (pg_tup rfl (pgs_cons (pg_name (i := 2) sc_has_key.nd rfl (Or.inl rfl)) (pgs_cons (pg_name (i := 3) sc_has_key.nd rfl (Or.inl rfl)) pgs_nil))))
    (pss_one (ps_ret (pe_and (pe_cmpR op_le_str (pv 2) (pv 1) (nomark _)) (pe_one (pe_or (pe_cmpR op_eq (pv 3) pe_str (nomark _)) (pe_one (pe_cmpR op_lt_str (pv 1) (pv 3) (nomark _)))))))), ?_⟩
    refine ⟨_, rfl, p, _, rfl, hT, rfl, _, _, rfl, _, _, rfl, rfl, ?_⟩
    refine ⟨_, rfl, _, rfl, _, _, rfl, rfl, _, rfl, ite2 (fun e1 => ?_) (fun e1 => ?_)⟩
    · refine ⟨_, rfl, rfl, _, rfl, ite2 (fun e2 => ?_) (fun e2 => ?_)⟩
      · have e : hasB l h k = true := by
          unfold hasB ltS
          rw [e1, e2]
          rfl
        rw [e] at q
        exact q
      · have e : hasB l h k = decide (k.cps.toList < h.cps.toList) := by
          unfold hasB ltS
          rw [e1, Bool.eq_false_iff.mpr e2]
          rfl
        rw [e] at q
        exact ⟨_, rfl, _, rfl, _, _, rfl, rfl, q⟩
    · have e : hasB l h k = false := by
        unfold hasB ltS
        rw [Bool.eq_false_iff.mpr e1]
        rfl
      rw [e] at q
      exact q
end
end FB

namespace FB
open PySem PySem.Spec PyProof.Rows L2
/-- a new shelf behind the puts of a list -/
def spShelf (C : Addr) : Sp := fun vs H Q _ => ∃ (a : Addr) (zs : List Pu), vs = [.ref a] ∧ PutsAt H a zs ∧ zs.length ≤ 400 ∧
  ∀ (x : Addr) (F : List Addr) (H' : Hp), H x = none → (∀ b ∈ F, H b = none) → ShelfAt C H' x F (zs.map (·.2)) → Same H H' → Q (.ref x) H'
section
variable {P : Program} {w : World} {K : PySem.W.Frag} {mg : Str → Option Value} {base : Heap}
theorem ok_shelf {f C : Addr} {fd : FuncData} (F : Fun K "_law_shelf" "_law_shelf" s_shelf f fd) (L_Shelf : Cls K C) (M_Shelf : mg "Shelf" = some (.ref C)) (D_Shelf : MakeOk P w K mg base 1 C ["self"] (spShInit C)) (D_Shelf_put : MethOk P w K mg base 1 C "put" ["self", "key", "moment", "value"] (spShPut C)) : FnOk P w K mg base CX0 3 f fd ["_law_puts_here"] (spShelf C) := by
  refine F.ok sc_shelf (fun vs H Q E h => ?_) (fun cdv A outer s H vs Q E hr h => ?_)
  · obtain ⟨a, zs, rfl, _⟩ := h
    rfl
  · obtain ⟨a, zs, rfl, hZ, hzl, q⟩ := h
    refine ⟨_, pss_cons (ps_set (i := 1) sc_shelf.nd rfl (Or.inl rfl) (pe_mk0 D_Shelf M_Shelf (hr.mono (by omega)) (by rfl)))
    (pss_cons (ps_for PassesOwn.never rfl (pi_list (pv 0)) (pg_tup rfl (pgs_cons (pg_name (i := 2) sc_shelf.nd rfl (Or.inl rfl)) (pgs_cons (pg_name (i := 3) sc_shelf.nd rfl (Or.inl rfl)) (pgs_cons (pg_name (i := 4) sc_shelf.nd rfl (Or.inl rfl)) pgs_nil))))
      (pss_one (ps_expr (pe_mth L_Shelf D_Shelf_put (hr.mono (by omega)) (pv 1) (pa_cons (pv 2) (pa_cons (pv 3) (pa_cons (pv 4) pa_nil)))))))
    (pss_one (ps_ret (pv 1)))), ?_⟩
    intro x dx nx ndx nex
    refine ⟨x, dx, rfl, upd_same, fun d H3 nd0 A0 kp => ⟨rfl, ?_⟩⟩
    have s3 : Same H H3 := fun b o e => kp b o (by rw [upd_ne (ne_of_none e nx), upd_ne (ne_of_none e ndx)]; exact e) (ne_of_none e nx)
    have ndH : H d = none := by
      by_cases h1 : d = x
      · rw [h1]; exact nx
      · rw [upd_ne h1] at nd0
        by_cases h2 : d = dx
        · rw [h2]; exact ndx
        · rw [upd_ne h2] at nd0
          exact nd0
    obtain ⟨Pv, hPv⟩ : ∃ Pv : Nat → L2.St → Hp → Prop, ∀ i σ H', Pv i σ H' ↔ ∃ v2 v3 v4 Ft, σ = [some (.ref a), some (.ref x), v2, v3, v4] ∧ ShelfAt C H' x Ft ((zs.take i).map (·.2)) ∧ (∀ b ∈ Ft, H b = none) ∧ Same H H' := ⟨_, fun _ _ _ => Iff.rfl⟩
    refine ⟨_, rfl, a, rfl, ⟨_, SqL.of (s3 _ _ hZ.ls)⟩, for_list (K := K) (a := a) (xs := zs.map fun z => V.ref z.1) Pv ?_ ?_ ?_ ?_⟩
    · exact (hPv _ _ _).mpr ⟨none, none, none, [d], rfl, A0, fun b hb => by rw [show b = d by simpa using hb]; exact ndH, s3⟩
    · intro i σ H' _ hp
      obtain ⟨_, _, _, _, _, _, _, sm⟩ := (hPv _ _ _).mp hp
      exact SqL.of (sm _ _ hZ.ls)
    · intro i v σ H' hi hp
      obtain ⟨v2, v3, v4, Ft, rfl, hSh, hF, sm⟩ := (hPv _ _ _).mp hp
      rw [List.getElem?_map] at hi
      obtain ⟨z, hz, rfl⟩ := Option.map_eq_some_iff.mp hi
      have hm : z ∈ zs := List.mem_of_getElem? hz
      have hil : i < zs.length := (List.getElem?_eq_some_iff.mp hz).1
      have et : (zs.take (i + 1)).map (·.2) = (zs.take i).map (·.2) ++ [z.2] := by
        rw [List.take_add_one, hz, List.map_append]
        rfl
      have hln : ((zs.take i).map (·.2)).length ≤ 900 := by
        rw [List.length_map, List.length_take]
        omega
      obtain ⟨dx4, d4, hx4⟩ := hSh.is
      refine ⟨z.1, _, rfl, SqT.of (sm _ _ (hZ.tp z hm)), rfl, _, _, rfl, _, _, rfl, _, _, rfl, rfl, ?_⟩
      refine ⟨_, rfl, x, dx4, _, rfl, hx4, shFlds_no _ (by decide +kernel), _, rfl, _, rfl, _, rfl, x, Ft, _, z.2.1, z.2.2.1, z.2.2.2, rfl, hSh, hln, fun F5 H5 hSh5 hF5 kp5 => ?_⟩
      rw [← et] at hSh5
      refine (hPv _ _ _).mpr ⟨_, _, _, F5, rfl, hSh5, fun b hb => ?_, fun b o hb => ?_⟩
      · rcases hF5 b hb with h | h
        · exact hF b h
        · exact sm.free h
      · exact kp5 b o (sm b o hb) fun hm => by
          have := hF b hm
          rw [hb] at this
          cases this
    · intro σ H' hp
      obtain ⟨v2, v3, v4, Ft, rfl, hSh, hF, sm⟩ := (hPv _ _ _).mp hp
      rw [List.length_map, List.take_length] at hSh
      exact ⟨_, rfl, q x Ft H' nx hF hSh sm⟩
end
end FB

namespace FB
open PySem PySem.Spec PyProof.Rows L2
theorem no_lt_empty' (k : Str) : ltS k "" = false := by
  apply decide_eq_false
  have ea : ("" : Str).cps.toList = [] := by decide +kernel
  rw [ea]
  exact List.not_lt_nil _
/-! ### rows -/
def rk (x : Put) : List Key := [.inr x.1, .inl x.2.1, .inl x.2.2]
theorem rk_inj {x y : Put} (h : rk x = rk y) : x = y := by
  obtain ⟨a, b, c⟩ := x
  obtain ⟨a', b', c'⟩ := y
  have h : [Sum.inr a, Sum.inl b, Sum.inl c] = ([Sum.inr a', Sum.inl b', Sum.inl c'] : List Key) := h
  obtain ⟨h1, h2⟩ := List.cons.inj h
  obtain ⟨h3, h4⟩ := List.cons.inj h2
  obtain ⟨h5, _⟩ := List.cons.inj h4
  rw [Sum.inr.inj h1, Sum.inl.inj h3, Sum.inl.inj h5]
def ltR (x y : Put) : Bool := llt (rk x) (rk y)
/-- the sorted rows of a span -/
structure RowsR (ps : List Put) (l h : Str) (R : List Put) : Prop where
  srt : SrtO.Srtd ltR R
  nd : R.Nodup
  mem : ∀ x, x ∈ R ↔ hasB l h x.1 = true ∧ x.2 ∈ pgOf ps x.1
theorem srt_uniq : ∀ {R R' : List Put}, SrtO.Srtd ltR R → SrtO.Srtd ltR R' → R.Perm R' → R = R'
  | [], R', _, _, p => (List.Perm.nil_eq p)
  | x :: r, R', s1, s2, p => by
    cases R' with
    | nil => exact absurd p.length_eq (by simp)
    | cons y q =>
      have h1 : ltR x y = false := by
        rcases List.mem_cons.mp (p.mem_iff.mp (List.mem_cons_self (a := x))) with e | hx
        · rw [e]
          exact llt_irrefl _
        · exact SrtO.srtd_head s2 x hx
      have h2 : ltR y x = false := by
        rcases List.mem_cons.mp (p.mem_iff.mpr (List.mem_cons_self (a := y))) with e | hy
        · rw [e]
          exact llt_irrefl _
        · exact SrtO.srtd_head s1 y hy
      have e : x = y := by
        apply Decidable.byContradiction
        intro n
        have := llt_tri (a := rk x) (b := rk y) h2 fun z => n (rk_inj z)
        have h1 : llt (rk x) (rk y) = false := h1
        rw [h1] at this
        cases this
      subst e
      rw [srt_uniq (List.pairwise_cons.mp s1).2 (List.pairwise_cons.mp s2).2 (List.perm_cons x |>.mp p)]
theorem RowsR.uniq {ps ps' : List Put} {l h l' h' : Str} {R R' : List Put} (a : RowsR ps l h R) (b : RowsR ps' l' h' R') (e : ∀ x : Put, (hasB l h x.1 = true ∧ x.2 ∈ pgOf ps x.1) ↔ (hasB l' h' x.1 = true ∧ x.2 ∈ pgOf ps' x.1)) : R = R' :=
  srt_uniq a.srt b.srt ((List.perm_ext_iff_of_nodup a.nd b.nd).mpr fun x => by rw [a.mem, b.mem, e])
/-- the rows of pages -/
def rowsL (l h : Str) (S : List Pg) : List Put := (S.map fun e => if hasB l h e.1 = true then e.2.2.map (fun q => (e.1, q)) else []).flatten
theorem rowsL_snoc (l h : Str) (S : List Pg) (e : Pg) : rowsL l h (S ++ [e]) = rowsL l h S ++ (if hasB l h e.1 = true then e.2.2.map (fun q => (e.1, q)) else []) := by
  unfold rowsL
  rw [List.map_append, List.flatten_append]
  show _ ++ (_ ++ []) = _
  rw [List.append_nil]
theorem rowsL_cons (l h : Str) (S : List Pg) (e : Pg) : rowsL l h (e :: S) = (if hasB l h e.1 = true then e.2.2.map (fun q => (e.1, q)) else []) ++ rowsL l h S := by
  unfold rowsL
  rw [List.map_cons, List.flatten_cons]
theorem mem_rowsL {l h : Str} {S : List Pg} {x : Put} : x ∈ rowsL l h S ↔ ∃ e ∈ S, e.1 = x.1 ∧ hasB l h x.1 = true ∧ x.2 ∈ e.2.2 := by
  unfold rowsL
  rw [List.mem_flatten]
  constructor
  · rintro ⟨m, hm, hx⟩
    obtain ⟨e, he, rfl⟩ := List.mem_map.mp hm
    split at hx
    · rename_i hb
      obtain ⟨q, hq, rfl⟩ := List.mem_map.mp hx
      exact ⟨e, he, rfl, hb, hq⟩
    · cases hx
  · rintro ⟨e, he, e1, hb, hq⟩
    refine ⟨_, List.mem_map.mpr ⟨e, he, rfl⟩, ?_⟩
    rw [if_pos (by rw [e1]; exact hb)]
    exact List.mem_map.mpr ⟨x.2, hq, by rw [e1]⟩
theorem pgS_mem {S : List Pg} (nk : (S.map (·.1)).Nodup) {e : Pg} (he : e ∈ S) : pgS S e.1 = e.2.2 := by
  unfold pgS
  induction S with
  | nil => cases he
  | cons x r ih =>
    rw [List.map_cons, List.nodup_cons] at nk
    rcases List.mem_cons.mp he with h | h
    · rw [h, List.find?_cons_of_pos (by simp)]
    · have hne : ¬ x.1 = e.1 := fun z => nk.1 (List.mem_map.mpr ⟨e, h, z.symm⟩)
      rw [List.find?_cons_of_neg (by simpa using hne)]
      exact ih nk.2 h
theorem rowsL_mem {l h : Str} {S : List Pg} (nk : (S.map (·.1)).Nodup) (x : Put) : x ∈ rowsL l h S ↔ hasB l h x.1 = true ∧ x.2 ∈ pgS S x.1 := by
  rw [mem_rowsL]
  constructor
  · rintro ⟨e, he, e1, hb, hq⟩
    refine ⟨hb, ?_⟩
    rw [← e1, pgS_mem nk he]
    exact hq
  · rintro ⟨hb, hq⟩
    unfold pgS at hq
    cases hf : S.find? (fun e => decide (e.1 = x.1)) with
    | none =>
      rw [hf] at hq
      cases hq
    | some e =>
      rw [hf] at hq
      obtain ⟨h1, h2⟩ := find_key hf
      exact ⟨e, h1, h2, hb, hq⟩
theorem rowsL_nodup {l h : Str} : ∀ {S : List Pg}, (S.map (·.1)).Nodup → (∀ e ∈ S, (e.2.2.map (·.1)).Nodup) → (rowsL l h S).Nodup
  | [], _, _ => List.nodup_nil
  | e :: r, nk, hm => by
    rw [List.map_cons, List.nodup_cons] at nk
    rw [rowsL_cons, List.nodup_append]
    refine ⟨?_, rowsL_nodup nk.2 fun y hy => hm y (by simp [hy]), fun a ha b hb z => ?_⟩
    · split
      · have h1 := hm e (by simp)
        have h2 : e.2.2.Nodup := List.Pairwise.of_map _ (fun a b n e => n (by rw [e])) h1
        exact List.Pairwise.map _ (fun a b n e => n (Prod.mk.inj e).2) h2
      · exact List.nodup_nil
    · subst z
      obtain ⟨y, hy, e1, _⟩ := mem_rowsL.mp hb
      have e2 : a.1 = e.1 := by
        split at ha
        · obtain ⟨q, _, rfl⟩ := List.mem_map.mp ha
          rfl
        · cases ha
      exact nk.1 (List.mem_map.mpr ⟨y, hy, e1.trans e2⟩)
theorem rowsL_len {l h : Str} {n : Nat} : ∀ {S : List Pg}, (∀ e ∈ S, e.2.2.length ≤ n) → (rowsL l h S).length ≤ S.length * n
  | [], _ => by simp [rowsL]
  | e :: r, hm => by
    have ih := rowsL_len (l := l) (h := h) (S := r) fun y hy => hm y (by simp [hy])
    have h1 := hm e (by simp)
    rw [rowsL_cons, List.length_append, List.length_cons, Nat.succ_mul]
    have : (if hasB l h e.1 = true then e.2.2.map (fun q => (e.1, q)) else []).length ≤ n := by
      split
      · rw [List.length_map]
        exact h1
      · exact Nat.zero_le _
    omega
theorem perm_map {α β : Type} (f : α → β) : ∀ {ys : List β} {zs : List α}, ys.Perm (zs.map f) → ∃ zs' : List α, zs'.Perm zs ∧ ys = zs'.map f := by
  suffices H : ∀ {ys l : List β}, ys.Perm l → ∀ zs : List α, l = zs.map f → ∃ zs' : List α, zs'.Perm zs ∧ ys = zs'.map f from fun {_ _} p => H p _ rfl
  intro ys l p
  induction p with
  | nil =>
    intro zs e
    exact ⟨zs, List.Perm.refl _, e⟩
  | cons x _ ih =>
    intro zs e
    cases zs with
    | nil => cases e
    | cons z r =>
      obtain ⟨e1, e2⟩ := List.cons.inj e
      obtain ⟨zs', h1, h2⟩ := ih r e2
      exact ⟨z :: zs', h1.cons z, by rw [h2, e1]; rfl⟩
  | swap x y l =>
    intro zs e
    match zs, e with
    | a :: b :: r, e =>
      obtain ⟨e1, e2⟩ := List.cons.inj e
      obtain ⟨e3, e4⟩ := List.cons.inj e2
      exact ⟨b :: a :: r, List.Perm.swap a b r, by rw [e1, e3, e4]; rfl⟩
  | trans _ _ ih1 ih2 =>
    intro zs e
    obtain ⟨z2, p2, e2⟩ := ih2 zs e
    obtain ⟨z1, p1, e1⟩ := ih1 z2 e2
    exact ⟨z1, p1.trans p2, e1⟩
/-! ### puts that change nothing, puts of rows -/
theorem pgOf_add {ps : List Put} {k : Str} : ∀ qs : List Put, (∀ q ∈ qs, q.1 = k → q.2.1 ∈ (pgOf ps k).map (·.1)) → pgOf (ps ++ qs) k = pgOf ps k := by
  refine snoc_ind (fun _ => by rw [List.append_nil]) (fun r q ih h => ?_)
  rw [← List.append_assoc, pgOf_snoc, ih fun y hy => h y (by simp [hy])]
  by_cases hk : q.1 = k
  · rw [if_pos hk]
    exact if_pos (h q (by simp) hk)
  · rw [if_neg hk]
theorem pgOf_mono {ps : List Put} {k : Str} (qs : List Put) : ∀ x ∈ pgOf ps k, x ∈ pgOf (ps ++ qs) k := by
  refine snoc_ind (P := fun qs => ∀ x ∈ pgOf ps k, x ∈ pgOf (ps ++ qs) k) (fun x hx => by rw [List.append_nil]; exact hx) (fun r q ih x hx => ?_) qs
  rw [← List.append_assoc, pgOf_snoc]
  have := ih x hx
  split
  · unfold pstep
    split
    · exact this
    · exact List.mem_append_left _ this
  · exact this
theorem put_there {ps : List Put} {q : Put} (h : q ∈ ps) : q.2.1 ∈ (pgOf ps q.1).map (·.1) := by
  obtain ⟨a, b, rfl⟩ := List.append_of_mem h
  have h1 : q.2.1 ∈ (pgOf (a ++ [q]) q.1).map (·.1) := by
    rw [pgOf_snoc, if_pos rfl]
    unfold pstep
    split
    · rename_i h
      exact h
    · rw [List.map_append]
      exact List.mem_append_right _ (by simp)
  obtain ⟨y, hy, e⟩ := List.mem_map.mp h1
  refine List.mem_map.mpr ⟨y, ?_, e⟩
  rw [show a ++ q :: b = (a ++ [q]) ++ b by simp]
  exact pgOf_mono b y hy
/-- of puts of which no two have a key and a moment in common each stands in its page -/
theorem pgOf_all {k : Str} : ∀ (ps : List Put), ps.Pairwise (fun x y => ¬ (x.1 = y.1 ∧ x.2.1 = y.2.1)) → ∀ q ∈ ps, q.1 = k → q.2 ∈ pgOf ps k := by
  refine snoc_ind (fun _ q hq => by cases hq) (fun r y ih hp q hq hk => ?_)
  obtain ⟨h1, _, h3⟩ := List.pairwise_append.mp hp
  rcases List.mem_append.mp hq with h | h
  · exact pgOf_mono [y] _ (ih h1 q h hk)
  · have e : q = y := by simpa using h
    subst e
    rw [pgOf_snoc, if_pos hk]
    have hn : q.2.1 ∉ (pgOf r k).map (·.1) := fun hm => by
      obtain ⟨x, hx, ex⟩ := List.mem_map.mp hm
      obtain ⟨z, hz, e1, e2⟩ := pgOf_mem r x hx
      refine h3 z hz q (by simp) ⟨e1.trans hk.symm, ?_⟩
      rw [e2, ex]
    unfold pstep
    rw [if_neg hn]
    exact List.mem_append_right _ (by simp)
theorem rows_apart {ps : List Put} {l h : Str} {R : List Put} (a : RowsR ps l h R) : R.Pairwise (fun x y => ¬ (x.1 = y.1 ∧ x.2.1 = y.2.1)) := by
  refine List.Pairwise.imp_of_mem (fun {x y} hx hy n e => n ?_) a.nd
  have h1 := ((a.mem x).mp hx).2
  have h2 := ((a.mem y).mp hy).2
  rw [← e.1] at h2
  have e3 : x.2.2 = y.2.2 := mem_same (pgOf_nodup x.1 ps) (t := x.2.1) h1 (by rw [e.2]; exact h2)
  exact Prod.ext e.1 (Prod.ext e.2 e3)
theorem rows_pages {ps : List Put} {R : List Put} (a : RowsR ps "" "" R) (x : Put) : x.2 ∈ pgOf R x.1 ↔ x.2 ∈ pgOf ps x.1 := by
  have hb : ∀ k : Str, hasB "" "" k = true := fun k => by
    unfold hasB
    rw [no_lt_empty', decide_eq_true rfl]
    rfl
  constructor
  · intro h
    obtain ⟨q, hq, e1, e2⟩ := pgOf_mem R _ h
    have := ((a.mem q).mp hq).2
    rw [e1, e2] at this
    exact this
  · intro h
    exact pgOf_all R (rows_apart a) x ((a.mem x).mpr ⟨hb _, h⟩) rfl
end FB

namespace FB
open PySem PySem.Spec PyProof.Rows L2
def toK : V → Key
  | .int i => .inl i
  | .str x => .inr x
  | _ => .inl 0
def keysAt (H : Hp) : V → List Key
  | .ref t => match H t with
    | some (.tup vs) => vs.map toK
    | _ => []
  | _ => []
theorem keysAt_put {H : Hp} {t : Addr} {q : Put} (h : H t = some (.tup [.str q.1, .int q.2.1, .int q.2.2])) : keysAt H (.ref t) = rk q := by
  unfold keysAt
  simp only [h]
  rfl
theorem PutsAt.cat {H : Hp} {a b : Addr} {zs ws : List Pu} (h : PutsAt H a zs) (h' : PutsAt H b ws) : PutsAt (upd H a (.lst (zs.map (fun z => V.ref z.1) ++ ws.map (fun z => V.ref z.1)))) a (zs ++ ws) := by
  refine ⟨by rw [upd_same, List.map_append], fun y hy => ?_⟩
  have hy' : H y.1 = some (.tup [.str y.2.1, .int y.2.2.1, .int y.2.2.2]) := by
    rcases List.mem_append.mp hy with m | m
    · exact h.tp y m
    · exact h'.tp y m
  rw [upd_ne (ne_of hy' h.ls (by intro z; cases z))]
  exact hy'
theorem small1m {n : Nat} (h : n ≤ 10000000) : n < sizeLine := Nat.lt_of_le_of_lt h (by decide)
/-- the rows of a span's keys, in a new list -/
def spShRows (C : Addr) (K : PySem.W.Frag) : Sp := fun vs H Q _ => ∃ (p sp : Addr) (F : List Addr) (ps : List Put) (l h : Str), vs = [.ref p, .ref sp] ∧ ShelfAt C H p F ps ∧ ps.length ≤ 900 ∧ SqT K H sp [.str l, .str h] ∧
  ∀ (a : Addr) (zs : List Pu) (H' : Hp), H a = none → PutsAt H' a zs → RowsR ps l h (zs.map (·.2)) → Same H H' → Q (.ref a) H'
section
variable {P : Program} {w : World} {K : PySem.W.Frag} {mg : Str → Option Value} {base : Heap}
theorem ok_sh_rows {f C : Addr} {fd : FuncData} (F : Fun K "rows" "Shelf.rows" s_Shelf_rows f fd) (B : Blt mg) (T : ShCls K C) (D_has_key : DefOk P w K mg base 1 "has_key" ["span", "key"] (spHas K)) : FnOk P w K mg base CX0 2 f fd ["self", "span"] (spShRows C K) := by
  refine F.ok sc_Shelf_rows (fun vs H Q E h => ?_) (fun cdv A outer s H vs Q E hr h => ?_)
  · obtain ⟨p, sp, F, ps, l, h, rfl, _⟩ := h
    rfl
  · obtain ⟨p, sp, Ft, ps, l, h, rfl, ⟨d, S, R, rfl, hpg, hSl⟩, hpl, hsp, q⟩ := h
    refine ⟨_, pss_cons (ps_set (i := 2) sc_Shelf_rows.nd rfl (Or.inl rfl) (pe_lst pa_nil))
    (pss_cons (ps_lock (ps_for PassesOwn.never rfl (pi_items (pe_fld (pv 0) rfl)) (pg_tup rfl (pgs_cons (pg_name (i := 3) sc_Shelf_rows.nd rfl (Or.inr rfl)) (pgs_cons (pg_name (i := 4) sc_Shelf_rows.nd rfl (Or.inl rfl)) pgs_nil)))
      (pss_one (ps_if (pt_val (pe_def D_has_key (hr.mono (by omega)) (by rfl) (pa_cons (pv 1) (pa_cons (pv 3) pa_nil))))
        (pss_one (ps_expr (pe_bm PySem.F.plainAttrs_list PySem.F.slot_list_extend PySem.F.type_list_extend mt_extend (pv 2) (pa_cons (pe_lock (pe_lc (own := [("moment", 5), ("value", 6)]) (g := gTup K 2 (gCons (gName 5) (gCons (gName 6) (gNil)))) (tt := tYes) rfl sc_Shelf_rows.nd (pi_items (pv 4)) (blkOk_by (own := [("moment", 5), ("value", 6)]) (N := ["self", "span", "found", "key", "page", "moment", "value"]) (sc := defScope s_Shelf_rows) (by decide +kernel)) (fun _ _ _ _ _ => pg_tup rfl (pgs_cons (pg_name (i := 5) sc_Shelf_rows.nd rfl (Or.inl rfl)) (pgs_cons (pg_name (i := 6) sc_Shelf_rows.nd rfl (Or.inl rfl)) pgs_nil))) (fun _ _ _ _ _ => pts_nil) (fun _ _ _ _ _ => pe_tup (pa_cons (pv 3) (pa_cons (pv 5) (pa_cons (pv 6) pa_nil)))))) pa_nil)))) pss_nil))))
    (pss_one (ps_ret (pe_callB cr_sortedTup (by rfl) B.sorted (by decide +kernel) (pa_cons (pv 2) pa_nil))))), ?_⟩
    obtain ⟨⟨dx, ho⟩, hd, hen, nk, na⟩ := id R
    have hlen : ∀ e ∈ S, e.2.2.length ≤ 900 := fun e he => by
      rw [← pgS_mem nk he, hpg]
      exact Nat.le_trans (pgOf_len _ _) hpl
    have hnd : ∀ e ∈ S, (e.2.2.map (·.1)).Nodup := fun e he => by
      rw [← pgS_mem nk he, hpg]
      exact pgOf_nodup _ _
    have hbig : ∀ S' : List Pg, S'.length ≤ 900 → (∀ e ∈ S', e ∈ S) → (rowsL l h S').length ≤ 810000 := fun S' h1 h2 => by
      have := rowsL_len (l := l) (h := h) (n := 900) (S := S') fun e he => hlen e (h2 e he)
      omega
    refine ⟨Nat.zero_le _, fun fl nfl => ?_⟩
    have s0 := same_new (o := .lst []) nfl
    have nfd : fl ≠ d := (ne_of_none hd nfl).symm
    refine ⟨d, _, s0 _ _ hd, trivial, fun od => ?_⟩
    have nod : p ≠ d := ne_of ho hd (by intro z; cases z)
    refine ⟨_, rfl, p, C, dx, _, _, rfl, by rw [upd_ne nod]; exact s0 _ _ ho, T.cl, T.nP, shFlds_look d, d, od, _, rfl, upd_same, ?_⟩
    have keepB : ∀ {H' : Hp}, Same (upd H d (.frz od (.dK (shKvs S)))) H' → ∀ b o, H b = some o → b ≠ d → H' b = some o := fun sm b o hb hne => sm b o (by rw [upd_ne hne]; exact hb)
    have hspK : ∀ {H' : Hp}, Same (upd H d (.frz od (.dK (shKvs S)))) H' → SqT K H' sp [.str l, .str h] := fun {H'} sm => by
      rcases hsp with (h | ⟨o, h⟩) | h
      · exact .inl (.inl (keepB sm _ _ h (ne_of h hd (by intro z; cases z))))
      · exact .inl (.inr ⟨o, keepB sm _ _ h (ne_of h hd (by intro z; cases z))⟩)
      · exact .inr h
    obtain ⟨Pv, hPv⟩ : ∃ Pv : Nat → L2.St → Hp → Prop, ∀ i σ H', Pv i σ H' ↔ ∃ v3 v4 v5 v6, ∃ zs : List Pu, σ = [some (.ref p), some (.ref sp), some (.ref fl), v3, v4, v5, v6] ∧ PutsAt H' fl zs ∧ zs.map (·.2) = rowsL l h (S.take i) ∧ Same (upd H d (.frz od (.dK (shKvs S)))) H' := ⟨_, fun _ _ _ => Iff.rfl⟩
    have eL : (shKvs S).length = S.length := by
      unfold shKvs
      rw [List.length_map]
    refine for_it walk_items Pv ?_ ?_ ?_ ?_
    · refine (hPv _ _ _).mpr ⟨none, none, none, none, [], rfl, ⟨by rw [upd_ne nfd, upd_same]; rfl, fun z hz => by simp at hz⟩, rfl, fun b o hb => ?_⟩
      by_cases hbd : b = d
      · rw [hbd, upd_same] at hb ⊢
        exact hb
      · rw [upd_ne hbd] at hb ⊢
        exact s0 _ _ hb
    · intro i σ H' _ hp
      obtain ⟨_, _, _, _, _, _, _, _, sm⟩ := (hPv _ _ _).mp hp
      exact sm _ _ upd_same
    · intro i v σ H' H'' hi hp hY
      obtain ⟨v3, v4, v5, v6, zs, rfl, hZ, hzs, sm⟩ := (hPv _ _ _).mp hp
      obtain ⟨T1, x, y, rfl, nT, rfl, e1, e2⟩ := hY
      rw [eL] at hi
      have hSi : S[i]? = some S[i] := List.getElem?_eq_getElem hi
      have hm : S[i] ∈ S := List.getElem_mem hi
      have ekv : (shKvs S)[i]? = some (tk S[i].1, V.ref S[i].2.1) := by
        unfold shKvs
        rw [List.getElem?_map, hSi]
        rfl
      simp only [ekv] at e1 e2
      have ex : V.str S[i].1 = x := Option.some.inj e1
      have ey : V.ref S[i].2.1 = y := Option.some.inj e2
      subst ex
      subst ey
      have et : rowsL l h (S.take (i + 1)) = rowsL l h (S.take i) ++ (if hasB l h S[i].1 = true then S[i].2.2.map (fun q => (S[i].1, q)) else []) := by
        rw [List.take_add_one, hSi]
        exact rowsL_snoc l h _ _
      generalize S[i] = e at hm et
      have hzl : zs.length ≤ 810000 := by
        have h1 := hbig (S.take i) (by rw [List.length_take]; omega) fun e he => List.mem_of_mem_take he
        rw [← hzs, List.length_map] at h1
        exact h1
      have u1 := same_new (o := .tup [V.str e.1, V.ref e.2.1]) nT
      have ned : e.2.1 ≠ d := fun z => by
        have h1 := hen e hm
        rw [z, hd] at h1
        have h2 := HO.dK.inj (Option.some.inj h1)
        cases S with
        | nil => cases hm
        | cons x r =>
          cases hp2 : e.2.2 with
          | nil =>
            rw [hp2] at h2
            cases h2
          | cons y r2 =>
            rw [hp2] at h2
            have h3 := (List.cons.inj h2).1
            exact nomatch (Prod.mk.inj h3).1
      refine ⟨T1, _, rfl, SqT.of upd_same, rfl, _, _, rfl, _, _, rfl, rfl, ?_⟩
      have sm1 := sm.trans u1
      have hZ1 := hZ.same u1
      have hT1 : upd H' T1 (.tup [V.str e.1, V.ref e.2.1]) T1 = some (.tup [V.str e.1, V.ref e.2.1]) := upd_same
      generalize upd H' T1 (.tup [V.str e.1, V.ref e.2.1]) = H1 at sm1 hZ1 hT1
      refine ⟨_, rfl, _, rfl, sp, l, h, e.1, rfl, hspK sm1, _, rfl, ite2 (fun hb => ?_) (fun hb => ?_)⟩
      · have hpa := keepB sm1 _ _ (hen e hm) ned
        refine ⟨_, rfl, .inl ⟨rfl, _, SqL.of hZ1.ls⟩, e.2.1, _, hpa, trivial, fun od2 => ?_⟩
        have nef : e.2.1 ≠ fl := ne_of hpa hZ1.ls (by intro z; cases z)
        refine ⟨_, rfl, e.2.1, od2, _, rfl, upd_same, fun D nD => ?_⟩
        have nDe : D ≠ e.2.1 := fun z => by
          rw [z, upd_same] at nD
          cases nD
        have nD1 : H1 D = none := by
          rw [upd_ne nDe] at nD
          exact nD
        have ePg : (pgKvs e.2.2).length = e.2.2.length := by
          unfold pgKvs
          rw [List.length_map]
        refine lc_it walk_items (fun j H'' => ∃ ws : List Pu, PutsAt H'' D ws ∧ ws.map (·.2) = (e.2.2.take j).map (fun q => (e.1, q)) ∧ Same (upd H1 e.2.1 (.frz od2 (.dK (pgKvs e.2.2)))) H'') ?_ ?_ ?_ ?_
        · exact ⟨[], ⟨upd_same, fun z hz => by simp at hz⟩, rfl, same_new nD⟩
        · rintro j H'' _ ⟨ws, _, _, sm2⟩
          exact sm2 _ _ upd_same
        · rintro j x H'' H3 hj ⟨ws, hW, hws, sm2⟩ ⟨T2, x2, y2, rfl, nT2, rfl, f1, f2⟩
          rw [ePg] at hj
          have hej : e.2.2[j]? = some e.2.2[j] := List.getElem?_eq_getElem hj
          have ekv2 : (pgKvs e.2.2)[j]? = some ((Sum.inl e.2.2[j].1 : Key), V.int e.2.2[j].2) := by
            unfold pgKvs
            rw [List.getElem?_map, hej]
            rfl
          simp only [ekv2] at f1 f2
          have ex : V.int e.2.2[j].1 = x2 := Option.some.inj f1
          have ey : V.int e.2.2[j].2 = y2 := Option.some.inj f2
          subst ex
          subst ey
          have et2 : (e.2.2.take (j + 1)).map (fun q => (e.1, q)) = (e.2.2.take j).map (fun q => (e.1, q)) ++ [(e.1, e.2.2[j])] := by
            rw [List.take_add_one, hej, List.map_append]
            rfl
          have hwl : ws.length ≤ 900 := by
            have h1 : (ws.map (·.2)).length = ((e.2.2.take j).map (fun q => (e.1, q))).length := by rw [hws]
            rw [List.length_map, List.length_map, List.length_take] at h1
            have := hlen e hm
            omega
          generalize e.2.2[j] = qv at et2
          have u2 := same_new (o := .tup [V.int qv.1, V.int qv.2]) nT2
          refine ⟨T2, _, rfl, SqT.of upd_same, rfl, _, _, rfl, _, _, rfl, rfl, rfl, ?_⟩
          refine ⟨_, rfl, _, rfl, _, rfl, by show 3 ≤ sizeLine; decide, fun T3 nT3 => ?_⟩
          have u3 := same_new (o := .tup [V.str e.1, V.int qv.1, V.int qv.2]) nT3
          have hW3 := (hW.same u2).addNew (q := (e.1, qv)) nT3
          refine ⟨_, u3 _ _ (u2 _ _ hW.ls), small1m (by rw [List.length_map]; omega), ws ++ [(T3, e.1, qv)], hW3, ?_, ?_⟩
          · rw [List.map_append, hws, et2]
            rfl
          · exact same_mut' (sm2.trans (u2.trans u3)) nD
        · rintro H2 ⟨ws, hW, hws, sm2⟩
          rw [ePg, List.take_length] at hws
          refine ⟨sm2 _ _ upd_same, ?_⟩
          have hW2 : PutsAt (upd H2 e.2.1 (.dK (pgKvs e.2.2))) D ws := ⟨by rw [upd_ne nDe]; exact hW.ls, fun z hz => by rw [upd_ne (ne_of (hW.tp z hz) (sm2 _ _ upd_same) (by intro z; cases z))]; exact hW.tp z hz⟩
          have sm3 : Same H1 (upd H2 e.2.1 (.dK (pgKvs e.2.2))) := fun b o hb => by
            by_cases hbp : b = e.2.1
            · subst hbp
              rw [upd_same]
              rw [hpa] at hb
              exact hb
            · rw [upd_ne hbp]
              exact sm2 b o (by rw [upd_ne hbp]; exact hb)
          have hZ3 := hZ1.same sm3
          generalize upd H2 e.2.1 (.dK (pgKvs e.2.2)) = H3 at hW2 sm3 hZ3
          have hwl : ws.length ≤ 900 := by
            have h1 : (ws.map (·.2)).length = (e.2.2.map (fun q => (e.1, q))).length := by rw [hws]
            rw [List.length_map, List.length_map] at h1
            have := hlen e hm
            omega
          refine ⟨fl, D, _, _, rfl, rfl, hZ3.ls, hW2.ls, Nat.le_of_lt (small1m (by rw [List.length_map, List.length_map]; omega)), ?_⟩
          refine (hPv _ _ _).mpr ⟨_, _, _, _, zs ++ ws, rfl, hZ3.cat hW2, ?_, ?_⟩
          · rw [List.map_append, hzs, hws, et, if_pos hb]
          · intro b o hb
            have hbf : b ≠ fl := fun z => by
              rw [z, upd_ne nfd, nfl] at hb
              cases hb
            rw [upd_ne hbf]
            exact sm3 b o (sm1 b o hb)
      · refine (hPv _ _ _).mpr ⟨_, _, _, _, zs, rfl, hZ1, ?_, sm1⟩
        rw [hzs, et, if_neg hb, List.append_nil]
    · intro σ H' hp
      obtain ⟨v3, v4, v5, v6, zs, rfl, hZ, hzs, sm⟩ := (hPv _ _ _).mp hp
      rw [eL, List.take_length] at hzs
      refine ⟨sm _ _ upd_same, ?_⟩
      have hZ2 : PutsAt (upd H' d (.dK (shKvs S))) fl zs := ⟨by rw [upd_ne nfd]; exact hZ.ls, fun z hz => by rw [upd_ne (ne_of (hZ.tp z hz) (sm _ _ upd_same) (by intro z; cases z))]; exact hZ.tp z hz⟩
      have sm2 : Same H (upd H' d (.dK (shKvs S))) := fun b o hb => by
        by_cases hbp : b = d
        · subst hbp
          rw [upd_same]
          rw [hd] at hb
          exact hb
        · rw [upd_ne hbp]
          exact keepB sm b o hb hbp
      generalize upd H' d (.dK (shKvs S)) = H2 at hZ2 sm2
      refine ⟨_, rfl, fl, _, keysAt H2, false, [true, true], rfl, SqL.of hZ2.ls, fun x hx => ?_, fun ys a hs hp na => ?_⟩
      · obtain ⟨z, hz, rfl⟩ := List.mem_map.mp hx
        have ht := hZ2.tp z hz
        refine ⟨z.1, rfl, ?_, ?_⟩
        · rw [keysAt_put ht, ht]
          rfl
        · rw [keysAt_put ht]
          rfl
      · obtain ⟨zs', hp', rfl⟩ := perm_map (fun z : Pu => V.ref z.1) hp
        have u := same_new (o := .lst (zs'.map fun z : Pu => V.ref z.1)) na
        have hmz : ∀ z ∈ zs', z ∈ zs := fun z hz => hp'.mem_iff.mp hz
        have hpm := hp'.map (fun z : Pu => z.2)
        rw [hzs] at hpm
        refine q a zs' _ (sm2.free na) ⟨upd_same, fun z hz => u _ _ (hZ2.tp z (hmz z hz))⟩ ⟨?_, ?_, ?_⟩ (sm2.trans u)
        · refine List.pairwise_map.mpr ?_
          refine List.Pairwise.imp_of_mem (fun {x y} hx hy hxy => ?_) (List.pairwise_map.mp hs)
          have : llt (keysAt H2 (V.ref y.1)) (keysAt H2 (V.ref x.1)) = false := hxy
          rw [keysAt_put (hZ2.tp x (hmz x hx)), keysAt_put (hZ2.tp y (hmz y hy))] at this
          exact this
        · exact hpm.nodup_iff.mpr (rowsL_nodup nk hnd)
        · intro x
          rw [hpm.mem_iff, rowsL_mem nk, hpg]
end
end FB

namespace FB
open PySem PySem.Spec PyProof.Rows L2
theorem PutsAt.sub {H : Hp} {a b : Addr} {zs ws : List Pu} (h : PutsAt H a zs) (hw : ∀ z ∈ ws, z ∈ zs) (hb : H b = some (.lst (ws.map fun z => V.ref z.1))) : PutsAt H b ws := ⟨hb, fun z hz => h.tp z (hw z hz)⟩
theorem ShelfAt.but {C : Addr} {H H' : Hp} {p g : Addr} {F : List Addr} {ps : List Put} {xs : List V} (h : ShelfAt C H p F ps) (hg : H g = some (.lst xs)) (kp : ∀ b o, H b = some o → b ≠ g → H' b = some o) : ShelfAt C H' p F ps := by
  obtain ⟨d, S, ⟨⟨dx, ho⟩, hd, he, hk, ha⟩, rfl, hr⟩ := h
  exact ⟨d, S, ⟨⟨dx, kp _ _ ho (ne_of ho hg (by intro z; cases z))⟩, kp _ _ hd (ne_of hd hg (by intro z; cases z)), fun e m => kp _ _ (he e m) (ne_of (he e m) hg (by intro z; cases z)), hk, ha⟩, rfl, hr⟩
theorem PutsAt.but {H H' : Hp} {a g : Addr} {zs : List Pu} {xs : List V} (h : PutsAt H a zs) (hg : H g = some (.lst xs)) (n : a ≠ g) (kp : ∀ b o, H b = some o → b ≠ g → H' b = some o) : PutsAt H' a zs :=
  ⟨kp _ _ h.ls n, fun z hz => kp _ _ (h.tp z hz) (ne_of (h.tp z hz) hg (by intro z; cases z))⟩
/-- a new shelf's making -/
theorem made {H H3 : Hp} {x dx d : Addr} {o1 o2 : HO} (nx : H x = none) (ndx : H dx = none) (nd0 : upd (upd H dx o1) x o2 d = none) (kp : ∀ b o, upd (upd H dx o1) x o2 b = some o → b ≠ x → H3 b = some o) : Same H H3 ∧ H d = none := by
  refine ⟨fun b o e => kp b o (by rw [upd_ne (ne_of_none e nx), upd_ne (ne_of_none e ndx)]; exact e) (ne_of_none e nx), ?_⟩
  by_cases h1 : d = x
  · rw [h1]; exact nx
  · rw [upd_ne h1] at nd0
    by_cases h2 : d = dx
    · rw [h2]; exact ndx
    · rw [upd_ne h2] at nd0
      exact nd0
end FB

namespace FB
open PySem PySem.Spec PyProof.Rows L2
/-! ### puts compared -/
theorem KeyS.ok {z : Str} (h : KeyS z) : PyData.strOk z = true := by
  unfold PyData.strOk
  rw [Array.all_eq_true']
  intro c hc
  have := (h.2 c (by simpa using hc)).2
  exact decide_eq_true (by omega)
def putD (z : Put) : PyData := .tuple [.str z.1, .int z.2.1, .int z.2.2]
theorem dpall_puts {K : PySem.W.Frag} {H : Hp} : ∀ zs : List Pu, (∀ z ∈ zs, H z.1 = some (.tup [.str z.2.1, .int z.2.2.1, .int z.2.2.2])) → DpAll K H (zs.map fun z => V.ref z.1) ((zs.map (·.2)).map putD)
  | [], _ => .nil
  | z :: r, h => .cons (.tup (SqT.of (h z (by simp))) (.cons (.str _) (.cons (.int _) (.cons (.int _) .nil)))) (dpall_puts r fun y hy => h y (by simp [hy]))
theorem dp_puts {K : PySem.W.Frag} {H : Hp} {a : Addr} {zs : List Pu} (h : PutsAt H a zs) : Dp K H (.ref a) (.list ((zs.map (·.2)).map putD)) := .lst (SqL.of h.ls) (dpall_puts zs h.tp)
theorem lay_puts : ∀ R : List Put, (∀ z ∈ R, KeyS z.1) → PyData.canLayAll0 (R.map putD) = true ∧ PyData.depthAll (R.map putD) ≤ 1
  | [], _ => ⟨by simp [PyData.canLayAll0], by simp [PyData.depthAll]⟩
  | z :: r, h => by
    obtain ⟨h1, h2⟩ := lay_puts r fun y hy => h y (by simp [hy])
    have k1 := h z (by simp)
    refine ⟨?_, ?_⟩
    · rw [List.map_cons, PyData.canLayAll0, h1]
      simp [putD, PyData.canLay0, PyData.canLayAll0, k1.ok]
    · rw [List.map_cons, PyData.depthAll]
      have : (putD z).depth = 1 := by simp [putD, PyData.depth, PyData.depthAll]
      omega
theorem shaped_puts {R : List Put} (h : ∀ z ∈ R, KeyS z.1) : SeqAt.shaped (.list (R.map putD)) = true := by
  obtain ⟨h1, h2⟩ := lay_puts R h
  unfold SeqAt.shaped
  rw [PyData.canLay0, h1, decide_eq_true (show (PyData.list (R.map putD)).depth ≤ 64 by rw [PyData.depth]; omega)]
  rfl
theorem eqv_puts {R : List Put} (h : ∀ z ∈ R, KeyS z.1) : PyData.eqv (.list (R.map putD)) (.list (R.map putD)) = true := by
  refine SeqAt.eqv_refl _ ?_
  rw [PyData.canLay0]
  exact (lay_puts R h).1
theorem rows_keys {ps R : List Put} {l h : Str} (a : RowsR ps l h R) (hk : ∀ z ∈ ps, KeyS z.1) : ∀ z ∈ R, KeyS z.1 := fun z hz => by
  obtain ⟨q, hq, e, _⟩ := pgOf_mem ps _ ((a.mem z).mp hz).2
  rw [← e]
  exact hk q hq
theorem rows_len {ps R : List Put} {l h : Str} (a : RowsR ps l h R) : R.length ≤ ps.length := by
  refine Nat.le_trans (List.Nodup.length_le_of_subset a.nd (fun x hx => ?_)) (Nat.le_refl _)
  obtain ⟨q, hq, e1, e2⟩ := pgOf_mem ps _ ((a.mem x).mp hx).2
  have : q = x := Prod.ext e1 e2
  rw [← this]
  exact hq
end FB

namespace FB
open PySem PySem.Spec PyProof.Rows L2
/-! ### puts of some keys alone, puts in another order -/
abbrev Apart (ps : List Put) : Prop := ps.Pairwise (fun x y => ¬ (x.1 = y.1 ∧ x.2.1 = y.2.1))
theorem apart_mem {ps : List Put} (h : Apart ps) (k : Str) (q : Int × Int) : q ∈ pgOf ps k ↔ (k, q) ∈ ps := by
  constructor
  · intro hq
    obtain ⟨y, hy, e1, e2⟩ := pgOf_mem ps q hq
    rw [← e1, ← e2]
    exact hy
  · intro hq
    exact pgOf_all ps h (k, q) hq rfl
theorem apart_perm {ps qs : List Put} (h : Apart ps) (p : qs.Perm ps) : Apart qs := (p.pairwise_iff (fun {x y} n e => n ⟨e.1.symm, e.2.symm⟩)).mpr h
theorem pgOf_filter (f : Str → Bool) (k : Str) (ps : List Put) : pgOf (ps.filter fun q => f q.1) k = if f k = true then pgOf ps k else [] := by
  refine snoc_ind (P := fun ps => pgOf (ps.filter fun q => f q.1) k = if f k = true then pgOf ps k else []) ?_ (fun r q ih => ?_) ps
  · show ([] : List (Int × Int)) = if f k = true then [] else []
    split <;> rfl
  · rw [List.filter_append, pgOf_snoc]
    by_cases hq : f q.1 = true
    · rw [show [q].filter (fun q => f q.1) = [q] by rw [List.filter_cons, if_pos hq]; rfl, pgOf_snoc, ih]
      by_cases hk : q.1 = k
      · rw [if_pos hk, if_pos hk, ← hk, if_pos hq, if_pos hq]
      · rw [if_neg hk, if_neg hk]
    · rw [show [q].filter (fun q => f q.1) = [] by rw [List.filter_cons, if_neg hq]; rfl, List.append_nil, ih]
      by_cases hk : q.1 = k
      · rw [← hk, if_neg hq, if_neg hq]
      · rw [if_neg hk]
theorem hasB_all (k : Str) : hasB "" "" k = true := by
  unfold hasB
  rw [no_lt_empty', decide_eq_true rfl]
  rfl
theorem hasB_up {k : Str} (hk : k ≠ "") (x : Str) : hasB "" k x = ltS x k := by
  unfold hasB
  rw [no_lt_empty', decide_eq_false fun e => hk (V.str.inj e)]
  rfl
theorem hasB_dn (k x : Str) : hasB k "" x = !ltS x k := by
  unfold hasB
  rw [decide_eq_true rfl, Bool.true_or, Bool.and_true]
theorem rows_cat {ps : List Put} {k : Str} {Rl Ru : List Put} (hl : RowsR (ps.filter fun q => ltS q.1 k) "" "" Rl) (hu : RowsR (ps.filter fun q => !ltS q.1 k) "" "" Ru) : RowsR ps "" "" (Rl ++ Ru) := by
  have kl : ∀ x ∈ Rl, ltS x.1 k = true := fun x hx => by
    have h1 := ((hl.mem x).mp hx).2
    rw [pgOf_filter (fun z => ltS z k)] at h1
    cases e : ltS x.1 k with
    | true => rfl
    | false =>
      rw [e, if_neg (by decide)] at h1
      cases h1
  have ku : ∀ x ∈ Ru, ltS x.1 k = false := fun x hx => by
    have h1 := ((hu.mem x).mp hx).2
    rw [pgOf_filter (fun z => !ltS z k)] at h1
    cases e : ltS x.1 k with
    | false => rfl
    | true =>
      rw [e, if_neg (by decide)] at h1
      cases h1
  refine ⟨SrtO.srtd_app.mpr ⟨hl.srt, hu.srt, fun a ha b hb => ?_⟩, List.nodup_append.mpr ⟨hl.nd, hu.nd, fun a ha b hb e => ?_⟩, fun x => ?_⟩
  · have h1 := kl a ha
    have h2 := ku b hb
    have h3 : ltS b.1 a.1 = false := by
      cases e : ltS b.1 a.1 with
      | false => rfl
      | true =>
        have := ltS_trans e h1
        rw [h2] at this
        cases this
    have hne : b.1 ≠ a.1 := fun e => by
      rw [e, h1] at h2
      cases h2
    show llt (rk b) (rk a) = false
    unfold rk
    rw [llt, if_neg fun z => hne (Sum.inr.inj z)]
    exact h3
  · have h1 := kl a ha
    rw [e, ku b hb] at h1
    cases h1
  · rw [List.mem_append, hl.mem, hu.mem, hasB_all, pgOf_filter (fun z => ltS z k), pgOf_filter (fun z => !ltS z k)]
    cases e : ltS x.1 k with
    | true =>
      rw [if_pos rfl, if_neg (by decide)]
      constructor
      · rintro (h | h)
        · exact h
        · cases h.2
      · exact .inl
    | false =>
      rw [if_neg (by decide), if_pos (by decide)]
      constructor
      · rintro (h | h)
        · cases h.2
        · exact h
      · exact .inr
theorem rows_nil {ps : List Put} {l h : Str} {R : List Put} (a : RowsR ps l h R) (e : ∀ x : Put, hasB l h x.1 = true → x.2 ∈ pgOf ps x.1 → False) : R = [] := by
  cases R with
  | nil => rfl
  | cons x r =>
    have := (a.mem x).mp (by simp)
    exact (e x this.1 this.2).elim
theorem at_put {ps : List Put} {k : Str} {m v r : Int} (hv : (m, v) ∈ pgOf ps k) (h : AtR (pgOf ps k) m r) : r = v := by
  rcases h with ⟨h1, _⟩ | ⟨t, h1, h2, h3⟩
  · have := h1 _ hv
    simp only at this
    omega
  · have h4 := h3 _ hv (Int.le_refl _)
    simp only at h4
    have e : t = m := by omega
    rw [e] at h1
    exact mem_same (pgOf_nodup k ps) h1 hv
theorem AtR.ext {pg pg' : List (Int × Int)} (e : ∀ x, x ∈ pg ↔ x ∈ pg') {m a : Int} (h : AtR pg m a) : AtR pg' m a := by
  rcases h with ⟨h1, h2⟩ | ⟨t, h1, h2, h3⟩
  · exact .inl ⟨fun q hq => h1 q ((e q).mpr hq), h2⟩
  · exact .inr ⟨t, (e _).mp h1, h2, fun q hq => h3 q ((e q).mpr hq)⟩
theorem NewR.ext {pg pg' : List (Int × Int)} (e : ∀ x, x ∈ pg ↔ x ∈ pg') {t v : Int} (h : NewR pg t v) : NewR pg' t v := by
  rcases h with ⟨h1, h2⟩ | ⟨h1, h2⟩
  · refine .inl ⟨?_, h2⟩
    cases hp : pg' with
    | nil => rfl
    | cons x r =>
      have : x ∈ pg := (e x).mpr (by rw [hp]; simp)
      rw [h1] at this
      cases this
  · exact .inr ⟨(e _).mp h1, fun q hq => h2 q ((e q).mpr hq)⟩
theorem NewR.one {pg : List (Int × Int)} (nd : (pg.map (·.1)).Nodup) {t v t' v' : Int} (h : NewR pg t v) (h' : NewR pg t' v') : t = t' ∧ v = v' := by
  rcases h with ⟨h1, rfl, rfl⟩ | ⟨h1, h2⟩
  · rcases h' with ⟨_, rfl, rfl⟩ | ⟨k1, _⟩
    · exact ⟨rfl, rfl⟩
    · rw [h1] at k1
      cases k1
  · rcases h' with ⟨k1, _, _⟩ | ⟨k1, k2⟩
    · rw [k1] at h1
      cases h1
    · have e1 := h2 _ k1
      have e2 := k2 _ h1
      have e : t = t' := by
        simp only at e1 e2
        omega
      subst e
      exact ⟨rfl, mem_same nd h1 k1⟩
theorem shaped_pair (t v : Int) : SeqAt.shaped (.tuple [.int t, .int v]) = true := by simp [SeqAt.shaped, PyData.canLay0, PyData.canLayAll0, PyData.depth, PyData.depthAll]
theorem eqv_pair (t v : Int) : PyData.eqv (.tuple [.int t, .int v]) (.tuple [.int t, .int v]) = true := SeqAt.eqv_refl _ (by simp [PyData.canLay0, PyData.canLayAll0])
theorem dp_pair {K : PySem.W.Frag} {H : Hp} {T : Addr} {t v : Int} (h : H T = some (.tup [.int t, .int v])) : Dp K H (.ref T) (.tuple [.int t, .int v]) := .tup (SqT.of h) (.cons (.int _) (.cons (.int _) .nil))
/-! ### what was put first -/
def fkv (x : Pu) : List Key × V := ([.inr x.2.1, .inl x.2.2.1], .bl true)
theorem valF_none {k : Str} {t : Int} : ∀ {R : List Pu}, (∀ x ∈ R, ¬ (x.2.1 = k ∧ x.2.2.1 = t)) → valV (R.map fkv) ([.inr k, .inl t] : List Key) = none
  | [], _ => rfl
  | x :: r, h => by
    refine (valV_neg (p := fkv x) fun z => h x (by simp) ?_).trans (valF_none fun y hy => h y (by simp [hy]))
    have z : ([.inr x.2.1, .inl x.2.2.1] : List Key) = [.inr k, .inl t] := z
    obtain ⟨h1, h2⟩ := List.cons.inj z
    obtain ⟨h3, _⟩ := List.cons.inj h2
    exact ⟨Sum.inr.inj h1, Sum.inl.inj h3⟩
def spFirsts : Sp := fun vs H Q _ => ∃ (a : Addr) (zs : List Pu), vs = [.ref a] ∧ PutsAt H a zs ∧ zs.length ≤ 400 ∧
  ∀ (r : Addr) (ws : List Pu) (H' : Hp), H r = none → PutsAt H' r ws → Apart (ws.map (·.2)) → (∀ z ∈ ws, z ∈ zs) → ws.length ≤ zs.length → Same H H' → Q (.ref r) H'
section
variable {P : Program} {w : World} {K : PySem.W.Frag} {mg : Str → Option Value} {base : Heap}
theorem ok_firsts {f : Addr} {fd : FuncData} (F : Fun K "_law_firsts" "_law_firsts" s_firsts f fd) : FnOk P w K mg base CX0 1 f fd ["_law_puts_here"] spFirsts := by
  refine F.ok sc_firsts (fun vs H Q E h => ?_) (fun cdv A outer s H vs Q E hr h => ?_)
  · obtain ⟨a, zs, rfl, _⟩ := h
    rfl
  · obtain ⟨a, zs, rfl, hZ, hzl, q⟩ := h
    have hu := hu_of hr
    refine ⟨_, pss_cons (ps_set (i := 1) sc_firsts.nd rfl (Or.inl rfl) pe_dnewT)
    (pss_cons (ps_set (i := 2) sc_firsts.nd rfl (Or.inl rfl) (pe_lst pa_nil))
    (pss_cons (ps_for PassesOwn.never rfl (pi_list (pv 0)) (pg_name (i := 3) sc_firsts.nd rfl (Or.inl rfl))
      (pss_one (ps_if (pt_cmp (pc_dnotin hu (pe_slice sl_tup (pv 3) po_none (po_some pe_int)) (pv 1)))
        (pss_cons (ps_dput hu (pv 1) (pe_slice sl_tup (pv 3) po_none (po_some pe_int)) pe_bl rfl)
        (pss_one (ps_expr (pe_bm PySem.F.plainAttrs_list PySem.F.slot_list_append PySem.F.type_list_append mt_append (pv 2) (pa_cons (pv 3) pa_nil))))) pss_nil)))
    (pss_one (ps_ret (pv 2))))), ?_⟩
    intro d nd
    have s0 := same_new (o := .dT []) nd
    refine ⟨Nat.zero_le _, fun r nr => ?_⟩
    have s1 := same_new (o := .lst []) nr
    have ndr : d ≠ r := fun z => by
      rw [← z, upd_same] at nr
      cases nr
    have nrH : H r = none := s0.free nr
    obtain ⟨Pv, hPv⟩ : ∃ Pv : Nat → L2.St → Hp → Prop, ∀ i σ H', Pv i σ H' ↔ ∃ v3, ∃ ws : List Pu, σ = [some (.ref a), some (.ref d), some (.ref r), v3] ∧ H' d = some (.dT (ws.map fkv)) ∧ PutsAt H' r ws ∧ Apart (ws.map (·.2)) ∧ (∀ z ∈ ws, z ∈ zs) ∧ ws.length ≤ i ∧ Same H H' := ⟨_, fun _ _ _ => Iff.rfl⟩
    refine ⟨_, rfl, a, rfl, ⟨_, SqL.of (s1 _ _ (s0 _ _ hZ.ls))⟩, for_list (K := K) (a := a) (xs := zs.map fun z => V.ref z.1) Pv ?_ ?_ ?_ ?_⟩
    · exact (hPv _ _ _).mpr ⟨none, [], rfl, by rw [upd_ne ndr, upd_same]; rfl, ⟨upd_same, fun z hz => by simp at hz⟩, List.Pairwise.nil, fun z hz => by simp at hz, Nat.zero_le _, s0.trans s1⟩
    · intro i σ H' _ hp
      obtain ⟨_, _, _, _, _, _, _, _, sm⟩ := (hPv _ _ _).mp hp
      exact SqL.of (sm _ _ hZ.ls)
    · intro i v σ H' hi hp
      obtain ⟨v3, ws, rfl, hd, hW, hA, hsub, hwl, sm⟩ := (hPv _ _ _).mp hp
      rw [List.getElem?_map] at hi
      obtain ⟨z, hz, rfl⟩ := Option.map_eq_some_iff.mp hi
      have hm : z ∈ zs := List.mem_of_getElem? hz
      have hil : i < zs.length := (List.getElem?_eq_some_iff.mp hz).1
      have hzt := sm _ _ (hZ.tp z hm)
      have ecut : cutV [V.str z.2.1, V.int z.2.2.1, V.int z.2.2.2] none (some 2) = [V.str z.2.1, V.int z.2.2.1] := cut_take _ 2
      have hslice : ¬ (HT.sIx [V.str z.2.1, V.int z.2.2.1, V.int z.2.2.2].length 0 none = 0 ∧ HT.sIx [V.str z.2.1, V.int z.2.2.1, V.int z.2.2.2].length [V.str z.2.1, V.int z.2.2.1, V.int z.2.2.2].length (some 2) = [V.str z.2.1, V.int z.2.2.1, V.int z.2.2.2].length) := by
        show ¬ (HT.sIx 3 0 none = 0 ∧ HT.sIx 3 3 (some 2) = 3)
        decide
      refine ⟨_, rfl, _, rfl, z.1, _, rfl, SqT.of hzt, hslice, fun T nT => ?_⟩
      rw [ecut]
      have u1 := same_new (o := .tup [V.str z.2.1, V.int z.2.2.1]) nT
      have hd1 := u1 _ _ hd
      have hW1 := hW.same u1
      have sm1 := sm.trans u1
      have hT1 : upd H' T (.tup [V.str z.2.1, V.int z.2.2.1]) T = some (.tup (([.inr z.2.1, .inl z.2.2.1] : List Key).map kV)) := upd_same
      have hzt1 := u1 _ _ hzt
      generalize upd H' T (.tup [V.str z.2.1, V.int z.2.2.1]) = H1 at hd1 hW1 sm1 hT1 hzt1
      refine ⟨_, rfl, d, _, rfl, DGet.t hd1 hT1, _, rfl, ite2 (fun e => ?_) (fun e => ?_)⟩
      · have hnone : valV (ws.map fkv) ([.inr z.2.1, .inl z.2.2.1] : List Key) = none := by
          cases h : valV (ws.map fkv) ([.inr z.2.1, .inl z.2.2.1] : List Key) with
          | none => rfl
          | some v =>
            rw [h] at e
            exact absurd (show (!true) = true from e) (by decide)
        have hap : ∀ x ∈ ws, ¬ (x.2.1 = z.2.1 ∧ x.2.2.1 = z.2.2.1) := fun x hx e2 => by
          have h2 : (valV (ws.map fkv) ([.inr z.2.1, .inl z.2.2.1] : List Key)).isSome = true := by
            rw [← valV_any]
            exact List.any_eq_true.mpr ⟨fkv x, List.mem_map.mpr ⟨x, hx, rfl⟩, decide_eq_true (by show ([.inr x.2.1, .inl x.2.2.1] : List Key) = _; rw [e2.1, e2.2])⟩
          rw [hnone] at h2
          cases h2
        refine ⟨_, rfl, _, rfl, _, rfl, z.1, _, rfl, SqT.of hzt1, hslice, fun T2 nT2 => ?_⟩
        rw [ecut]
        have u2 := same_new (o := .tup [V.str z.2.1, V.int z.2.2.1]) nT2
        have hT2 : upd H1 T2 (.tup [V.str z.2.1, V.int z.2.2.1]) T2 = some (.tup (([.inr z.2.1, .inl z.2.2.1] : List Key).map kV)) := upd_same
        have hd2 := u2 _ _ hd1
        have hW2 := hW1.same u2
        have sm2 := sm1.trans u2
        have hzt2 := u2 _ _ hzt1
        generalize upd H1 T2 (.tup [V.str z.2.1, V.int z.2.2.1]) = H2 at hT2 hd2 hW2 sm2 hzt2
        refine ⟨d, _, rfl, DPut.t hd2 hT2 (small1000 (by rw [List.length_map]; omega)), ?_⟩
        have eput : putK (ws.map fkv) ([.inr z.2.1, .inl z.2.2.1] : List Key) (V.bl true) = (ws ++ [z]).map fkv := by
          rw [putK_new _ hnone, List.map_append]
          rfl
        rw [eput]
        have kd : ∀ b o, H2 b = some o → b ≠ d → upd H2 d (.dT ((ws ++ [z]).map fkv)) b = some o := fun b o hb n => by
          rw [upd_ne n]
          exact hb
        have hW3 : PutsAt (upd H2 d (.dT ((ws ++ [z]).map fkv))) r ws := ⟨kd _ _ hW2.ls ndr.symm, fun y hy => kd _ _ (hW2.tp y hy) (ne_of (hW2.tp y hy) hd2 (by intro z; cases z))⟩
        have hz3 := kd _ _ hzt2 (ne_of hzt2 hd2 (by intro z; cases z))
        have hd3 : upd H2 d (.dT ((ws ++ [z]).map fkv)) d = some (.dT ((ws ++ [z]).map fkv)) := upd_same
        have sm3 : Same H (upd H2 d (.dT ((ws ++ [z]).map fkv))) := same_mut' sm2 nd
        generalize upd H2 d (.dT ((ws ++ [z]).map fkv)) = H3 at hW3 hz3 hd3 sm3
        refine ⟨_, rfl, .inl ⟨rfl, _, SqL.of hW3.ls⟩, _, rfl, r, _, _, rfl, rfl, hW3.ls, small1000 (by rw [List.length_map]; omega), ?_⟩
        refine (hPv _ _ _).mpr ⟨_, ws ++ [z], rfl, by rw [upd_ne ndr]; exact hd3, ⟨by rw [upd_same, List.map_append]; rfl, fun y hy => ?_⟩, ?_, fun y hy => ?_, by rw [List.length_append]; show ws.length + 1 ≤ _; omega, same_mut' sm3 nrH⟩
        · have hy' : H3 y.1 = some (.tup [.str y.2.1, .int y.2.2.1, .int y.2.2.2]) := by
            rcases List.mem_append.mp hy with h | h
            · exact hW3.tp y h
            · rw [show y = z by simpa using h]
              exact hz3
          rw [upd_ne (ne_of hy' hW3.ls (by intro z; cases z))]
          exact hy'
        · rw [List.map_append]
          refine List.pairwise_append.mpr ⟨hA, List.pairwise_singleton _ _, fun x hx y hy => ?_⟩
          obtain ⟨x', hx', rfl⟩ := List.mem_map.mp hx
          rw [show y = z.2 by simpa using hy]
          exact hap x' hx'
        · rcases List.mem_append.mp hy with h | h
          · exact hsub y h
          · rw [show y = z by simpa using h]
            exact hm
      · exact (hPv _ _ _).mpr ⟨_, ws, rfl, hd1, hW1, hA, hsub, by omega, sm1⟩
    · intro σ H' hp
      obtain ⟨v3, ws, rfl, hd, hW, hA, hsub, hwl, sm⟩ := (hPv _ _ _).mp hp
      rw [List.length_map] at hwl
      exact ⟨_, rfl, q r ws H' nrH hW hA hsub hwl sm⟩
end
end FB

namespace FB
open PySem PySem.Spec PyProof.Rows L2
theorem rows_same {ps ps' : List Put} {l h : Str} {R R' : List Put} (a : RowsR ps l h R) (b : RowsR ps' l h R') (e : ∀ k, hasB l h k = true → pgOf ps k = pgOf ps' k) : R = R' :=
  a.uniq b fun x => ⟨fun h => ⟨h.1, by rw [← e _ h.1]; exact h.2⟩, fun h => ⟨h.1, by rw [e _ h.1]; exact h.2⟩⟩
theorem map_filter {f : Str → Bool} (zs : List Pu) : (zs.filter fun z => f z.2.1).map (·.2) = (zs.map (·.2)).filter fun q => f q.1 := by
  rw [List.filter_map]
  rfl
theorem filter_len {f : Pu → Bool} (zs : List Pu) : (zs.filter f).length ≤ zs.length := List.length_filter_le _ _
def spParted : Sp := fun vs H Q _ => ∃ (a l : Addr) (zs : List Pu) (k : Str) (ks : List Str), vs = [.ref a, .str k, .ref l] ∧ PutsAt H a zs ∧ zs.length ≤ 400 ∧ (∀ z ∈ zs.map (·.2), KeyS z.1) ∧ k ≠ "" ∧ H l = some (.lst (ks.map V.str)) ∧ ∀ H', Same H H' → Q (.bl true) H'
section
variable {P : Program} {w : World} {K : PySem.W.Frag} {mg : Str → Option Value} {base : Heap}
theorem ok_parted {f C : Addr} {fd : FuncData} (F : Fun K "_law_parted" "_law_parted" s_parted f fd) (B : Blt mg) (L_Shelf : Cls K C) (D_Shelf_newest : MethOk P w K mg base 1 C "newest" ["self", "key"] (spShNewest C)) (D_Shelf_rows : MethOk P w K mg base 2 C "rows" ["self", "span"] (spShRows C K))
    (D_shelf : DefOk P w K mg base 3 "_law_shelf" ["_law_puts_here"] (spShelf C)) : FnOk P w K mg base CX0 4 f fd ["_law_puts_here", "_law_key", "_law_keys_here"] spParted := by
  refine F.ok sc_parted (fun vs H Q E h => ?_) (fun cdv A outer s H vs Q E hr h => ?_)
  · obtain ⟨a, l, zs, k, ks, rfl, _⟩ := h
    rfl
  · obtain ⟨a, l, zs, k, ks, rfl, hZ, hzl, hK, hk, hl, q⟩ := h
    refine ⟨_, pss_cons (ps_if (pt_cmpR op_eq (pv 1) pe_str (nomark _))
      (pss_one (ps_ret pe_bl)) pss_nil)
    (pss_cons (ps_set (i := 3) sc_parted.nd rfl (Or.inl rfl) (pe_def D_shelf (hr.mono (by omega)) (by rfl) (pa_cons (pe_lc (own := [("_law_put", 9)]) (g := gName 9) rfl sc_parted.nd (pi_list (pv 0)) (blkOk_by (own := [("_law_put", 9)]) (N := ["_law_puts_here", "_law_key", "_law_keys_here", "_law_lower", "_law_upper", "_law_whole", "_law_other", "_law_there", "_law_none", "_law_put"]) (sc := defScope s_parted) (by decide +kernel)) (fun _ _ _ _ _ => pg_name (i := 9) sc_parted.nd rfl (Or.inl rfl)) (fun _ _ _ _ _ => pts_one (pt_cmpR op_lt_str (pe_ix (ix_tupK (K := K) rfl) (pv 9) pe_int (fun _ _ => rfl)) (pv 1) (nomark _))) (fun _ _ _ _ _ => pv 9)) pa_nil)))
    (pss_cons (ps_set (i := 4) sc_parted.nd rfl (Or.inl rfl) (pe_def D_shelf (hr.mono (by omega)) (by rfl) (pa_cons (pe_lc (own := [("_law_put", 9)]) (g := gName 9) rfl sc_parted.nd (pi_list (pv 0)) (blkOk_by (own := [("_law_put", 9)]) (N := ["_law_puts_here", "_law_key", "_law_keys_here", "_law_lower", "_law_upper", "_law_whole", "_law_other", "_law_there", "_law_none", "_law_put"]) (sc := defScope s_parted) (by decide +kernel)) (fun _ _ _ _ _ => pg_name (i := 9) sc_parted.nd rfl (Or.inl rfl)) (fun _ _ _ _ _ => pts_one (pt_cmpR op_ge_str (pe_ix (ix_tupK (K := K) rfl) (pv 9) pe_int (fun _ _ => rfl)) (pv 1) (nomark _))) (fun _ _ _ _ _ => pv 9)) pa_nil)))
    (pss_cons (ps_set (i := 5) sc_parted.nd rfl (Or.inl rfl) (pe_def D_shelf (hr.mono (by omega)) (by rfl) (pa_cons (pv 0) pa_nil)))
    (pss_cons (ps_if (pt_cmpR (op_neD hr.units) (pe_op op_cat (pe_mth L_Shelf D_Shelf_rows (hr.mono (by omega)) (pv 3) (pa_cons (pe_tup (pa_cons pe_str (pa_cons pe_str pa_nil))) pa_nil)) (pe_mth L_Shelf D_Shelf_rows (hr.mono (by omega)) (pv 4) (pa_cons (pe_tup (pa_cons pe_str (pa_cons pe_str pa_nil))) pa_nil))) (pe_mth L_Shelf D_Shelf_rows (hr.mono (by omega)) (pv 5) (pa_cons (pe_tup (pa_cons pe_str (pa_cons pe_str pa_nil))) pa_nil)) (nomark _))
      (pss_one (ps_ret pe_bl)) pss_nil)
    (pss_cons (ps_if (PW.pt (pw_or (pt_cmpR (op_neD hr.units) (pe_mth L_Shelf D_Shelf_rows (hr.mono (by omega)) (pv 3) (pa_cons (pe_tup (pa_cons pe_str (pa_cons (pv 1) pa_nil))) pa_nil)) (pe_mth L_Shelf D_Shelf_rows (hr.mono (by omega)) (pv 5) (pa_cons (pe_tup (pa_cons pe_str (pa_cons (pv 1) pa_nil))) pa_nil)) (nomark _)) (pw_or1 (pt_cmpR (op_neD hr.units) (pe_mth L_Shelf D_Shelf_rows (hr.mono (by omega)) (pv 4) (pa_cons (pe_tup (pa_cons (pv 1) (pa_cons pe_str pa_nil))) pa_nil)) (pe_mth L_Shelf D_Shelf_rows (hr.mono (by omega)) (pv 5) (pa_cons (pe_tup (pa_cons (pv 1) (pa_cons pe_str pa_nil))) pa_nil)) (nomark _)))))
      (pss_one (ps_ret pe_bl)) pss_nil)
    (pss_cons (ps_for PassesOwn.never rfl (pi_list (pv 2)) (pg_name (i := 6) sc_parted.nd rfl (Or.inl rfl))
      (pss_cons (ps_set (i := 7) sc_parted.nd rfl (Or.inl rfl) (pe_ix ix_list (pe_lst (pa_cons (pv 4) (pa_cons (pv 3) pa_nil))) (pe_callTy call_int1 (by rfl) B.int (by decide +kernel) (pa_cons (pe_cmpR op_lt_str (pv 6) (pv 1) (nomark _)) pa_nil)) (fun _ _ => rfl)))
      (pss_cons (ps_set (i := 8) sc_parted.nd rfl (Or.inl rfl) (pe_ix ix_list (pe_lst (pa_cons (pv 3) (pa_cons (pv 4) pa_nil))) (pe_callTy call_int1 (by rfl) B.int (by decide +kernel) (pa_cons (pe_cmpR op_lt_str (pv 6) (pv 1) (nomark _)) pa_nil)) (fun _ _ => rfl)))
      (pss_one (ps_if (PW.pt (pw_or (pt_cmpR (op_neD hr.units) (pe_mth L_Shelf D_Shelf_newest (hr.mono (by omega)) (pv 7) (pa_cons (pv 6) pa_nil)) (pe_mth L_Shelf D_Shelf_newest (hr.mono (by omega)) (pv 5) (pa_cons (pv 6) pa_nil)) (nomark _)) (pw_or1 (pt_cmpR (op_neD hr.units) (pe_mth L_Shelf D_Shelf_newest (hr.mono (by omega)) (pv 8) (pa_cons (pv 6) pa_nil)) (pe_tup (pa_cons pe_int (pa_cons pe_int pa_nil))) (nomark _)))))
        (pss_one (ps_ret pe_bl)) pss_nil)))))
    (pss_one (ps_ret (pe_and (pe_cmpR (op_eqD hr.units) (pe_mth L_Shelf D_Shelf_rows (hr.mono (by omega)) (pv 3) (pa_cons (pe_tup (pa_cons (pv 1) (pa_cons pe_str pa_nil))) pa_nil)) (pe_lst pa_nil) (nomark _)) (pe_one (pe_cmpR (op_eqD hr.units) (pe_mth L_Shelf D_Shelf_rows (hr.mono (by omega)) (pv 4) (pa_cons (pe_tup (pa_cons pe_str (pa_cons (pv 1) pa_nil))) pa_nil)) (pe_lst pa_nil) (nomark _)))))))))))), ?_⟩
    refine ⟨_, rfl, rfl, _, rfl, ite2 (fun _ => q H (Same.refl _)) (fun _ => ?_)⟩
    -- lower
    refine ⟨_, rfl, a, rfl, ⟨_, SqL.of hZ.ls⟩, fun D1 nD1 => ?_⟩
    refine lc_list (K := K) (a := a) (xs := zs.map fun z => V.ref z.1) (fun i H' => H' D1 = some (.lst (((zs.take i).filter fun z => ltS z.2.1 k).map fun z => V.ref z.1)) ∧ Same H H') ?_ ?_ ?_ ?_
    · exact ⟨upd_same, same_new nD1⟩
    · rintro i H' _ ⟨_, sm⟩
      exact SqL.of (sm _ _ hZ.ls)
    · rintro i x H' hi ⟨hD, sm⟩
      rw [List.getElem?_map] at hi
      obtain ⟨z, hz, rfl⟩ := Option.map_eq_some_iff.mp hi
      have hil : i < zs.length := (List.getElem?_eq_some_iff.mp hz).1
      have et : zs.take (i + 1) = zs.take i ++ [z] := by
        rw [List.take_add_one, hz]
        rfl
      have hT := SqT.of (K := K) (sm _ _ (hZ.tp z (List.mem_of_getElem? hz)))
      refine ⟨rfl, _, rfl, z.1, _, _, _, rfl, rfl, hT, atI_nat (j := 0) rfl, _, rfl, _, _, rfl, rfl, _, rfl, ite2 (fun e => ?_) (fun e => ?_)⟩
      · have e' : ltS z.2.1 k = true := e
        refine ⟨_, rfl, _, hD, small1000 (by rw [List.length_map]; exact Nat.le_trans (filter_len _) (by rw [List.length_take]; omega)), ?_, same_mut' sm nD1⟩
        rw [upd_same, et, List.filter_append, List.map_append, List.filter_cons, if_pos e']
        rfl
      · have e' : ¬ ltS z.2.1 k = true := e
        refine ⟨?_, sm⟩
        rw [hD, et, List.filter_append, List.filter_cons, if_neg e', List.filter_nil, List.append_nil]
    rintro H1 ⟨hD1, sm1⟩
    rw [List.length_map, List.take_length] at hD1
    have hL1 : PutsAt H1 D1 (zs.filter fun z => ltS z.2.1 k) := (hZ.same sm1).sub (fun z hz => (List.mem_filter.mp hz).1) hD1
    refine ⟨D1, _, rfl, hL1, Nat.le_trans (filter_len _) hzl, fun xl Fl H2 nxl nFl hLo s2 => ?_⟩
    have s02 := sm1.trans s2
    have hZ2 := hZ.same s02
    -- upper
    refine ⟨_, rfl, a, rfl, ⟨_, SqL.of hZ2.ls⟩, fun D2 nD2 => ?_⟩
    refine lc_list (K := K) (a := a) (xs := zs.map fun z => V.ref z.1) (fun i H' => H' D2 = some (.lst (((zs.take i).filter fun z => !ltS z.2.1 k).map fun z => V.ref z.1)) ∧ Same H2 H') ?_ ?_ ?_ ?_
    · exact ⟨upd_same, same_new nD2⟩
    · rintro i H' _ ⟨_, sm⟩
      exact SqL.of (sm _ _ hZ2.ls)
    · rintro i x H' hi ⟨hD, sm⟩
      rw [List.getElem?_map] at hi
      obtain ⟨z, hz, rfl⟩ := Option.map_eq_some_iff.mp hi
      have hil : i < zs.length := (List.getElem?_eq_some_iff.mp hz).1
      have et : zs.take (i + 1) = zs.take i ++ [z] := by
        rw [List.take_add_one, hz]
        rfl
      have hT := SqT.of (K := K) (sm _ _ (hZ2.tp z (List.mem_of_getElem? hz)))
      refine ⟨rfl, _, rfl, z.1, _, _, _, rfl, rfl, hT, atI_nat (j := 0) rfl, _, rfl, _, _, rfl, rfl, _, rfl, ite2 (fun e => ?_) (fun e => ?_)⟩
      · have e' : (!ltS z.2.1 k) = true := e
        refine ⟨_, rfl, _, hD, small1000 (by rw [List.length_map]; exact Nat.le_trans (filter_len _) (by rw [List.length_take]; omega)), ?_, same_mut' sm nD2⟩
        rw [upd_same, et, List.filter_append, List.map_append, List.filter_cons, if_pos e']
        rfl
      · have e' : ¬ (!ltS z.2.1 k) = true := e
        refine ⟨?_, sm⟩
        rw [hD, et, List.filter_append, List.filter_cons, if_neg e', List.filter_nil, List.append_nil]
    rintro H3 ⟨hD2, sm3⟩
    rw [List.length_map, List.take_length] at hD2
    have hU3 : PutsAt H3 D2 (zs.filter fun z => !ltS z.2.1 k) := (hZ2.same sm3).sub (fun z hz => (List.mem_filter.mp hz).1) hD2
    refine ⟨D2, _, rfl, hU3, Nat.le_trans (filter_len _) hzl, fun xu Fu H4 nxu nFu hUp s4 => ?_⟩
    have s24 := sm3.trans s4
    -- whole
    refine ⟨_, rfl, a, zs, rfl, hZ2.same s24, hzl, fun xw Fw H5 nxw nFw hWh s5 => ?_⟩
    have hLo5 := (hLo.same s24).same s5
    have hUp5 := hUp.same s5
    have s05 := s02.trans (s24.trans s5)
    rw [map_filter (f := fun z => ltS z k)] at hLo5
    rw [map_filter (f := fun z => !ltS z k)] at hUp5
    have hl5 := s05 _ _ hl
    generalize hps : zs.map (·.2) = ps at hLo5 hUp5 hWh hK
    have hpl : ps.length ≤ 400 := by
      rw [← hps, List.length_map]
      exact hzl
    have hll : (ps.filter fun q => ltS q.1 k).length ≤ 900 := Nat.le_trans (List.length_filter_le _ _) (by omega)
    have hlu : (ps.filter fun q => !ltS q.1 k).length ≤ 900 := Nat.le_trans (List.length_filter_le _ _) (by omega)
    have pgl : ∀ j, ltS j k = true → pgOf (ps.filter fun q => ltS q.1 k) j = pgOf ps j := fun j h => by rw [pgOf_filter (fun z => ltS z k), if_pos h]
    have pgl0 : ∀ j, ltS j k = false → pgOf (ps.filter fun q => ltS q.1 k) j = [] := fun j h => by rw [pgOf_filter (fun z => ltS z k), if_neg (by rw [h]; decide)]
    have pgu : ∀ j, ltS j k = false → pgOf (ps.filter fun q => !ltS q.1 k) j = pgOf ps j := fun j h => by rw [pgOf_filter (fun z => !ltS z k), if_pos (by rw [h]; rfl)]
    have pgu0 : ∀ j, ltS j k = true → pgOf (ps.filter fun q => !ltS q.1 k) j = [] := fun j h => by rw [pgOf_filter (fun z => !ltS z k), if_neg (by rw [h]; decide)]
    -- lower + upper
    obtain ⟨d1, d1', h1⟩ := hLo5.is
    refine ⟨_, rfl, xl, d1, _, rfl, h1, shFlds_no _ (by decide +kernel), by show 2 ≤ sizeLine; decide, fun t6 n6 => ?_⟩
    have u6 := same_new (o := .tup [V.str "", V.str ""]) n6
    refine ⟨xl, t6, Fl, _, "", "", rfl, hLo5.same u6, hll, SqT.of upd_same, fun r1 w1 H7 nr1 hW1 hR1 s7 => ?_⟩
    have s57 := u6.trans s7
    have hUp7 := hUp5.same s57
    obtain ⟨d2, d2', h2⟩ := hUp7.is
    refine ⟨_, rfl, xu, d2, _, rfl, h2, shFlds_no _ (by decide +kernel), by show 2 ≤ sizeLine; decide, fun t8 n8 => ?_⟩
    have u8 := same_new (o := .tup [V.str "", V.str ""]) n8
    refine ⟨xu, t8, Fu, _, "", "", rfl, hUp7.same u8, hlu, SqT.of upd_same, fun r2 w2 H9 nr2 hW2 hR2 s9 => ?_⟩
    have s79 := u8.trans s9
    have hl1 := rows_len hR1
    have hl2 := rows_len hR2
    rw [List.length_map] at hl1 hl2
    refine ⟨r1, r2, _, _, rfl, rfl, (hW1.same s79).ls, hW2.ls, Nat.le_of_lt (small1m (by rw [List.length_map, List.length_map]; omega)), fun rc nrc => ?_⟩
    have ecat : w1.map (fun z => V.ref z.1) ++ w2.map (fun z => V.ref z.1) = (w1 ++ w2).map fun z => V.ref z.1 := by rw [List.map_append]
    rw [ecat]
    have u10 := same_new (o := .lst ((w1 ++ w2).map fun z => V.ref z.1)) nrc
    have hWc : PutsAt (upd H9 rc (.lst ((w1 ++ w2).map fun z => V.ref z.1))) rc (w1 ++ w2) := ⟨upd_same, fun z hz => u10 _ _ (by
      rcases List.mem_append.mp hz with h | h
      · exact (hW1.same s79).tp z h
      · exact hW2.tp z h)⟩
    have s510 := s57.trans (s79.trans u10)
    generalize upd H9 rc (.lst ((w1 ++ w2).map fun z => V.ref z.1)) = H10 at hWc s510
    have hWh10 := hWh.same s510
    obtain ⟨d3, d3', h3⟩ := hWh10.is
    refine ⟨_, rfl, xw, d3, _, rfl, h3, shFlds_no _ (by decide +kernel), by show 2 ≤ sizeLine; decide, fun t11 n11 => ?_⟩
    have u11 := same_new (o := .tup [V.str "", V.str ""]) n11
    refine ⟨xw, t11, Fw, _, "", "", rfl, hWh10.same u11, by omega, SqT.of upd_same, fun r3 w3 H12 nr3 hW3 hR3 s12 => ?_⟩
    have s1012 := u11.trans s12
    have hRc : RowsR ps "" "" ((w1 ++ w2).map (·.2)) := by
      rw [List.map_append]
      exact rows_cat hR1 hR2
    have eq3 : (w1 ++ w2).map (·.2) = w3.map (·.2) := hRc.uniq hR3 fun _ => Iff.rfl
    have hk3 := rows_keys hR3 hK
    refine ⟨_, _, dp_puts (hWc.same s1012), dp_puts hW3, shaped_puts (by rw [eq3]; exact hk3), shaped_puts hk3, _, rfl, ?_⟩
    rw [eq3, eqv_puts hk3]
    refine iteF ?_
    have s512 := s510.trans s1012
    have hLo12 := hLo5.same s512
    have hUp12 := hUp5.same s512
    have hWh12 := hWh.same s512
    have hl12 := s512 _ _ hl5
    have s012 := s05.trans s512
    -- lower.rows(("", key)) != whole.rows(("", key))
    obtain ⟨d4, d4', h4⟩ := hLo12.is
    refine ⟨_, rfl, xl, d4, _, rfl, h4, shFlds_no _ (by decide +kernel), _, rfl, by show 2 ≤ sizeLine; decide, fun t13 n13 => ?_⟩
    have u13 := same_new (o := .tup [V.str "", V.str k]) n13
    refine ⟨xl, t13, Fl, _, "", k, rfl, hLo12.same u13, hll, SqT.of upd_same, fun r4 w4 H14 nr4 hW4 hR4 s14 => ?_⟩
    have s1214 := u13.trans s14
    have hWh14 := hWh12.same s1214
    obtain ⟨d5, d5', h5⟩ := hWh14.is
    refine ⟨_, rfl, xw, d5, _, rfl, h5, shFlds_no _ (by decide +kernel), _, rfl, by show 2 ≤ sizeLine; decide, fun t15 n15 => ?_⟩
    have u15 := same_new (o := .tup [V.str "", V.str k]) n15
    refine ⟨xw, t15, Fw, _, "", k, rfl, hWh14.same u15, by omega, SqT.of upd_same, fun r5 w5 H16 nr5 hW5 hR5 s16 => ?_⟩
    have s1416 := u15.trans s16
    have eq5 : w4.map (·.2) = w5.map (·.2) := rows_same hR4 hR5 fun j hj => pgl j (by rw [← hasB_up hk]; exact hj)
    have hk5 := rows_keys hR5 hK
    refine ⟨_, _, dp_puts (hW4.same s1416), dp_puts hW5, shaped_puts (by rw [eq5]; exact hk5), shaped_puts hk5, _, rfl, ?_⟩
    rw [eq5, eqv_puts hk5]
    refine iteF ?_
    have s1216 := s1214.trans s1416
    have hLo16 := hLo12.same s1216
    have hUp16 := hUp12.same s1216
    have hWh16 := hWh12.same s1216
    have hl16 := s1216 _ _ hl12
    have s016 := s012.trans s1216
    -- upper.rows((key, "")) != whole.rows((key, ""))
    obtain ⟨d6, d6', h6⟩ := hUp16.is
    refine ⟨_, rfl, xu, d6, _, rfl, h6, shFlds_no _ (by decide +kernel), _, rfl, by show 2 ≤ sizeLine; decide, fun t17 n17 => ?_⟩
    have u17 := same_new (o := .tup [V.str k, V.str ""]) n17
    refine ⟨xu, t17, Fu, _, k, "", rfl, hUp16.same u17, hlu, SqT.of upd_same, fun r6 w6 H18 nr6 hW6 hR6 s18 => ?_⟩
    have s1618 := u17.trans s18
    have hWh18 := hWh16.same s1618
    obtain ⟨d7, d7', h7⟩ := hWh18.is
    refine ⟨_, rfl, xw, d7, _, rfl, h7, shFlds_no _ (by decide +kernel), _, rfl, by show 2 ≤ sizeLine; decide, fun t19 n19 => ?_⟩
    have u19 := same_new (o := .tup [V.str k, V.str ""]) n19
    refine ⟨xw, t19, Fw, _, k, "", rfl, hWh18.same u19, by omega, SqT.of upd_same, fun r7 w7 H20 nr7 hW7 hR7 s20 => ?_⟩
    have s1820 := u19.trans s20
    have dn : ∀ {j : Str}, hasB k "" j = true → ltS j k = false := fun {j} hj => by
      rw [hasB_dn] at hj
      cases e : ltS j k with
      | false => rfl
      | true =>
        rw [e] at hj
        cases hj
    have eq7 : w6.map (·.2) = w7.map (·.2) := rows_same hR6 hR7 fun j hj => pgu j (dn hj)
    have hk7 := rows_keys hR7 hK
    refine ⟨_, _, dp_puts (hW6.same s1820), dp_puts hW7, shaped_puts (by rw [eq7]; exact hk7), shaped_puts hk7, _, rfl, ?_⟩
    rw [eq7, eqv_puts hk7]
    refine iteF ?_
    have s1620 := s1618.trans s1820
    have hLo20 := hLo16.same s1620
    have hUp20 := hUp16.same s1620
    have hWh20 := hWh16.same s1620
    have hl20 := s1620 _ _ hl16
    have s020 := s016.trans s1620
    -- for other in keys
    refine ⟨_, rfl, l, rfl, ⟨_, SqL.of hl20⟩, for_list (K := K) (a := l) (xs := ks.map V.str) (fun i σ H' => ∃ v6 v7 v8, σ = [some (.ref a), some (.str k), some (.ref l), some (.ref xl), some (.ref xu), some (.ref xw), v6, v7, v8, none] ∧ Same H20 H') ⟨_, _, _, rfl, Same.refl _⟩ ?_ ?_ ?_⟩
    · rintro i σ H' _ ⟨_, _, _, _, sm⟩
      exact SqL.of (sm _ _ hl20)
    · rintro i v σ H' hi ⟨v6, v7, v8, rfl, sm⟩
      rw [List.getElem?_map] at hi
      obtain ⟨o, ho, rfl⟩ := Option.map_eq_some_iff.mp hi
      obtain ⟨xt, Ft, pst, hat1, hSt, hlt, hpt⟩ : ∃ (xt : Addr) (Ft : List Addr) (pst : List Put), atI [V.ref xu, V.ref xl] (if ltS o k = true then 1 else 0) = some (V.ref xt) ∧ ShelfAt C H20 xt Ft pst ∧ pst.length ≤ 900 ∧ pgOf pst o = pgOf ps o := by
        cases e : ltS o k with
        | true => exact ⟨xl, Fl, _, atI_nat (j := 1) rfl, hLo20, hll, pgl o e⟩
        | false => exact ⟨xu, Fu, _, atI_nat (j := 0) rfl, hUp20, hlu, pgu o e⟩
      obtain ⟨xn, Fn, psn, hat2, hSn, hln, hpn⟩ : ∃ (xn : Addr) (Fn : List Addr) (psn : List Put), atI [V.ref xl, V.ref xu] (if ltS o k = true then 1 else 0) = some (V.ref xn) ∧ ShelfAt C H20 xn Fn psn ∧ psn.length ≤ 900 ∧ pgOf psn o = [] := by
        cases e : ltS o k with
        | true => exact ⟨xu, Fu, _, atI_nat (j := 1) rfl, hUp20, hlu, pgu0 o e⟩
        | false => exact ⟨xl, Fl, _, atI_nat (j := 0) rfl, hLo20, hll, pgl0 o e⟩
      refine ⟨_, rfl, _, rfl, by show 2 ≤ sizeLine; decide, fun L1 nL1 => ?_⟩
      have u21 := same_new (o := .lst [V.ref xu, V.ref xl]) nL1
      refine ⟨_, rfl, _, rfl, _, _, rfl, rfl, .inr ⟨_, rfl, L1, _, _, _, rfl, rfl, SqL.of upd_same, hat1, ?_⟩⟩
      refine ⟨_, rfl, _, rfl, by show 2 ≤ sizeLine; decide, fun L2 nL2 => ?_⟩
      have u22 := same_new (o := .lst [V.ref xl, V.ref xu]) nL2
      refine ⟨_, rfl, _, rfl, _, _, rfl, rfl, .inr ⟨_, rfl, L2, _, _, _, rfl, rfl, SqL.of upd_same, hat2, ?_⟩⟩
      have s22 := sm.trans (u21.trans u22)
      generalize upd (upd H' L1 (.lst [V.ref xu, V.ref xl])) L2 (.lst [V.ref xl, V.ref xu]) = H22 at s22
      have hSt22 := hSt.same s22
      obtain ⟨d8, d8', h8⟩ := hSt22.is
      refine ⟨_, rfl, xt, d8, _, rfl, h8, shFlds_no _ (by decide +kernel), _, rfl, xt, Ft, _, o, rfl, hSt22, hlt, fun T1 t1 v1 H23 hN1 hT1 s23 => ?_⟩
      have s2023 := s22.trans s23
      have hWh23 := hWh20.same s2023
      obtain ⟨d9, d9', h9⟩ := hWh23.is
      refine ⟨_, rfl, xw, d9, _, rfl, h9, shFlds_no _ (by decide +kernel), _, rfl, xw, Fw, _, o, rfl, hWh23, by omega, fun T2 t2 v2 H24 hN2 hT2 s24' => ?_⟩
      rw [hpt] at hN1
      obtain ⟨rfl, rfl⟩ := hN1.one (pgOf_nodup o ps) hN2
      refine ⟨_, _, dp_pair (s24' _ _ hT1), dp_pair hT2, shaped_pair _ _, shaped_pair _ _, _, rfl, ?_⟩
      rw [eqv_pair]
      refine iteF ?_
      have s2024 := s2023.trans s24'
      have hSn24 := hSn.same s2024
      obtain ⟨dA, dA', hA⟩ := hSn24.is
      refine ⟨_, rfl, xn, dA, _, rfl, hA, shFlds_no _ (by decide +kernel), _, rfl, xn, Fn, _, o, rfl, hSn24, hln, fun T3 t3 v3 H25 hN3 hT3 s25 => ?_⟩
      rw [hpn] at hN3
      obtain ⟨rfl, rfl⟩ : t3 = 0 ∧ v3 = 0 := by
        rcases hN3 with ⟨_, h1, h2⟩ | ⟨h1, _⟩
        · exact ⟨h1, h2⟩
        · cases h1
      refine ⟨by show 2 ≤ sizeLine; decide, fun T4 nT4 => ?_⟩
      have u26 := same_new (o := .tup [V.int 0, V.int 0]) nT4
      refine ⟨_, _, dp_pair (u26 _ _ hT3), dp_pair upd_same, shaped_pair _ _, shaped_pair _ _, _, rfl, ?_⟩
      rw [eqv_pair]
      refine iteF ?_
      exact ⟨_, _, _, rfl, s2024.trans (s25.trans u26)⟩
    · rintro σ H' ⟨v6, v7, v8, rfl, sm⟩
      have hLoE := hLo20.same sm
      obtain ⟨dB, dB', hB⟩ := hLoE.is
      have sh0 : SeqAt.shaped (.list []) = true := by decide +kernel
      have ev0 : PyData.eqv (.list []) (.list []) = true := by simp [PyData.eqv, PyData.eqvAll]
      refine ⟨_, rfl, xl, dB, _, rfl, hB, shFlds_no _ (by decide +kernel), _, rfl, by show 2 ≤ sizeLine; decide, fun t30 n30 => ?_⟩
      have u30 := same_new (o := .tup [V.str k, V.str ""]) n30
      refine ⟨xl, t30, Fl, _, k, "", rfl, hLoE.same u30, hll, SqT.of upd_same, fun rA wA H31 nrA hWA hRA s31 => ⟨Nat.zero_le _, fun e1 ne1 => ?_⟩⟩
      have u32 := same_new (o := .lst []) ne1
      have eA : wA.map (·.2) = [] := rows_nil hRA fun x hx hm => by
        rw [pgl0 x.1 (dn hx)] at hm
        cases hm
      have DA : Dp K (upd H31 e1 (.lst [])) (.ref rA) (.list []) := by
        have := dp_puts (K := K) (hWA.same u32)
        rw [eA] at this
        exact this
      refine ⟨_, _, DA, .lst (SqL.of upd_same) .nil, sh0, sh0, ?_⟩
      rw [ev0]
      refine ⟨_, rfl, iteT ?_⟩
      have s20E := sm.trans (u30.trans (s31.trans u32))
      have hUpE := hUp20.same s20E
      obtain ⟨dC, dC', hC⟩ := hUpE.is
      refine ⟨_, rfl, xu, dC, _, rfl, hC, shFlds_no _ (by decide +kernel), _, rfl, by show 2 ≤ sizeLine; decide, fun t33 n33 => ?_⟩
      have u33 := same_new (o := .tup [V.str "", V.str k]) n33
      refine ⟨xu, t33, Fu, _, "", k, rfl, hUpE.same u33, hlu, SqT.of upd_same, fun rB wB H34 nrB hWB hRB s34 => ⟨Nat.zero_le _, fun e2 ne2 => ?_⟩⟩
      have u35 := same_new (o := .lst []) ne2
      have eB : wB.map (·.2) = [] := rows_nil hRB fun x hx hm => by
        rw [hasB_up hk] at hx
        rw [pgu0 x.1 hx] at hm
        cases hm
      have DB : Dp K (upd H34 e2 (.lst [])) (.ref rB) (.list []) := by
        have := dp_puts (K := K) (hWB.same u35)
        rw [eB] at this
        exact this
      refine ⟨_, _, DB, .lst (SqL.of upd_same) .nil, sh0, sh0, ?_⟩
      rw [ev0]
      exact q _ (s020.trans (s20E.trans (u33.trans (s34.trans u35))))
end
end FB

namespace FB
open PySem PySem.Spec PyProof.Rows L2
theorem PutsAt.perm {H : Hp} {a b : Addr} {zs ws : List Pu} (h : PutsAt H a zs) (p : ws.Perm zs) (hb : H b = some (.lst (ws.map fun z => V.ref z.1))) : PutsAt H b ws := h.sub (fun z hz => p.mem_iff.mp hz) hb
section
variable {P : Program} {w : World} {K : PySem.W.Frag} {mg : Str → Option Value} {base : Heap}
theorem ok_law {f C : Addr} {fd : FuncData} (F : Fun K "law" "law" s_law f fd) (B : Blt mg) (T : ShCls K C) (M_Shelf : mg "Shelf" = some (.ref C)) (A_init : MakeAt K C "Shelf.__init__" s_Shelf___init__ ["self"]) (A_put : MethAt K C "put" "Shelf.put" s_Shelf_put ["self", "key", "moment", "value"]) (A_at : MethAt K C "at" "Shelf.at" s_Shelf_at ["self", "key", "moment"]) (A_snew : MethAt K C "newest" "Shelf.newest" s_Shelf_newest ["self", "key"]) (A_srows : MethAt K C "rows" "Shelf.rows" s_Shelf_rows ["self", "span"])
    (A_has_key : DefAt K mg "has_key" s_has_key ["span", "key"]) (A_cell : DefAt K mg "_law_cell" s_cell ["_law_script", "_law_k"]) (A_mixed : DefAt K mg "_law_mixed" s_mixed ["_law_cell_here", "_law_k"]) (A_take : DefAt K mg "_law_take" s_take ["_law_pot_here", "_law_many"]) (A_pot : DefAt K mg "_law_pot" s_pot ["_law_cell_here"]) (A_keys : DefAt K mg "_law_keys" s_keys ["_law_script"])
    (A_word : DefAt K mg "_law_word" s_word ["_law_pot_here", "_law_size"]) (A_moment : DefAt K mg "_law_moment" s_moment ["_law_pot_here"]) (A_puts : DefAt K mg "_law_puts" s_puts ["_law_script", "_law_keys_here"]) (A_shelf : DefAt K mg "_law_shelf" s_shelf ["_law_puts_here"]) (A_firsts : DefAt K mg "_law_firsts" s_firsts ["_law_puts_here"]) (A_parted : DefAt K mg "_law_parted" s_parted ["_law_puts_here", "_law_key", "_law_keys_here"]) :
    FnOk P w K mg base CX0 6 f fd ["_law_script"] (spLaw K) := by
  have L_Shelf := T.cl
  have D_Shelf : MakeOk P w K mg base 1 C ["self"] (spShInit C) := A_init.ok fun _ _ F => ok_sh_init F T
  have D_Shelf_put : MethOk P w K mg base 1 C "put" ["self", "key", "moment", "value"] (spShPut C) := A_put.ok fun _ _ F => ok_sh_put F T
  have D_Shelf_at : MethOk P w K mg base 1 C "at" ["self", "key", "moment"] (spShAt C) := A_at.ok fun _ _ F => ok_sh_at F B T
  have D_Shelf_newest : MethOk P w K mg base 1 C "newest" ["self", "key"] (spShNewest C) := A_snew.ok fun _ _ F => ok_sh_newest F B T
  have D_has_key : DefOk P w K mg base 1 "has_key" ["span", "key"] (spHas K) := A_has_key.ok fun _ _ F => ok_has_key F
  have D_Shelf_rows : MethOk P w K mg base 2 C "rows" ["self", "span"] (spShRows C K) := A_srows.ok fun _ _ F => ok_sh_rows F B T D_has_key
  have D_cell : DefOk P w K mg base 1 "_law_cell" ["_law_script", "_law_k"] (spCell K) := A_cell.ok fun _ _ F => ok_cell F B
  have D_mixed : DefOk P w K mg base 1 "_law_mixed" ["_law_cell_here", "_law_k"] spMixed := A_mixed.ok fun _ _ F => ok_mixed F
  have D_pot : DefOk P w K mg base 1 "_law_pot" ["_law_cell_here"] spPot := A_pot.ok fun _ _ F => ok_pot F
  have D_take : DefOk P w K mg base 2 "_law_take" ["_law_pot_here", "_law_many"] spTake := A_take.ok fun _ _ F => ok_take F D_mixed
  have D_word : DefOk P w K mg base 3 "_law_word" ["_law_pot_here", "_law_size"] spWord := A_word.ok fun _ _ F => ok_word F B D_take
  have D_keys : DefOk P w K mg base 4 "_law_keys" ["_law_script"] (spKeys K) := A_keys.ok fun _ _ F => ok_keys F B D_cell D_pot D_take D_word
  have D_moment : DefOk P w K mg base 3 "_law_moment" ["_law_pot_here"] spMoment := A_moment.ok fun _ _ F => ok_moment F D_take
  have D_puts : DefOk P w K mg base 4 "_law_puts" ["_law_script", "_law_keys_here"] (spPuts K) := A_puts.ok fun _ _ F => ok_puts F B D_pot D_take D_moment
  have D_shelf : DefOk P w K mg base 3 "_law_shelf" ["_law_puts_here"] (spShelf C) := A_shelf.ok fun _ _ F => ok_shelf F L_Shelf M_Shelf D_Shelf D_Shelf_put
  have D_firsts : DefOk P w K mg base 1 "_law_firsts" ["_law_puts_here"] spFirsts := A_firsts.ok fun _ _ F => ok_firsts F
  have D_parted : DefOk P w K mg base 4 "_law_parted" ["_law_puts_here", "_law_key", "_law_keys_here"] spParted := A_parted.ok fun _ _ F => ok_parted F B L_Shelf D_Shelf_newest D_Shelf_rows D_shelf
  refine F.ok sc_law (fun vs H Q E h => ?_) (fun cdv A outer s H vs Q E hr h => ?_)
  · obtain ⟨a, ns, rfl, _⟩ := h
    rfl
  · obtain ⟨a, ns, rfl, hS, hl, q⟩ := h
    refine ⟨_, pss_cons (ps_set (i := 1) sc_law.nd rfl (Or.inl rfl) (pe_def D_keys (hr.mono (by omega)) (by rfl) (pa_cons (pv 0) pa_nil)))
    (pss_cons (ps_set (i := 2) sc_law.nd rfl (Or.inl rfl) (pe_def D_firsts (hr.mono (by omega)) (by rfl) (pa_cons (pe_def D_puts (hr.mono (by omega)) (by rfl) (pa_cons (pv 0) (pa_cons (pv 1) pa_nil))) pa_nil)))
    (pss_cons (ps_set (i := 3) sc_law.nd rfl (Or.inl rfl) (pe_def D_shelf (hr.mono (by omega)) (by rfl) (pa_cons (pv 2) pa_nil)))
    (pss_cons (ps_for PassesOwn.never rfl (pi_list (pe_lst (pa_cons (pe_listRev rfl (by rfl) B.list (by rfl) B.reversed (pv 2)) (pa_cons (pe_op op_cat (pe_step2 (pv 2) (po_some pe_int)) (pe_step2 (pv 2) po_none)) pa_nil)))) (pg_name (i := 4) sc_law.nd rfl (Or.inl rfl))
      (pss_cons (ps_set (i := 5) sc_law.nd rfl (Or.inl rfl) (pe_def D_shelf (hr.mono (by omega)) (by rfl) (pa_cons (pv 4) pa_nil)))
      (pss_cons (ps_if (pt_cmpR (op_neD hr.units) (pe_mth L_Shelf D_Shelf_rows (hr.mono (by omega)) (pv 5) (pa_cons (pe_tup (pa_cons pe_str (pa_cons pe_str pa_nil))) pa_nil)) (pe_mth L_Shelf D_Shelf_rows (hr.mono (by omega)) (pv 3) (pa_cons (pe_tup (pa_cons pe_str (pa_cons pe_str pa_nil))) pa_nil)) (nomark _))
        (pss_one (ps_ret pe_bl)) pss_nil)
      (pss_one (ps_for PassesOwn.never rfl (pi_list (pe_slice sl_list (pv 2) po_none (po_some pe_int))) (pg_tup rfl (pgs_cons (pg_name (i := 6) sc_law.nd rfl (Or.inl rfl)) (pgs_cons (pg_name (i := 7) sc_law.nd rfl (Or.inl rfl)) (pgs_cons (pg_name (i := 8) sc_law.nd rfl (Or.inl rfl)) pgs_nil))))
        (pss_one (ps_if (PW.pt (pw_or (pt_cmpR op_ne (pe_mth L_Shelf D_Shelf_at (hr.mono (by omega)) (pv 5) (pa_cons (pv 6) (pa_cons (pv 7) pa_nil))) (pv 8) (nomark _)) (pw_or1 (pt_cmpR (op_neD hr.units) (pe_mth L_Shelf D_Shelf_newest (hr.mono (by omega)) (pv 5) (pa_cons (pv 6) pa_nil)) (pe_mth L_Shelf D_Shelf_newest (hr.mono (by omega)) (pv 3) (pa_cons (pv 6) pa_nil)) (nomark _)))))
          (pss_one (ps_ret pe_bl)) pss_nil)))))))
    (pss_one (ps_ret (pe_def D_parted (hr.mono (by omega)) (by rfl) (pa_cons (pv 2) (pa_cons (pe_ix ix_list (pv 1) (pe_op op_mod (pe_def D_mixed (hr.mono (by omega)) (by rfl) (pa_cons (pe_def D_cell (hr.mono (by omega)) (by rfl) (pa_cons (pv 0) (pa_cons pe_int pa_nil))) (pa_cons pe_int pa_nil))) (pe_callB call_len_seq (by rfl) B.len (by decide +kernel) (pa_cons (pv 1) pa_nil))) (fun _ _ => rfl)) (pa_cons (pv 1) pa_nil))))))))), ?_⟩
    refine ⟨_, rfl, a, ns, rfl, hS, fun l ks H1 hk0 hk1 hkk hkn hls s1 nl => ?_⟩
    refine ⟨_, rfl, _, rfl, a, l, ns, ks, rfl, s1.seq hS, hl, hls, hk0, hk1, fun p0 zs0 H2 hZ0 hG hzl0 s2 np0 => ?_⟩
    refine ⟨p0, zs0, rfl, hZ0, by omega, fun p zs H3 np hZ hA hsub hzl s3 => ?_⟩
    have hKS : ∀ z ∈ zs.map (·.2), KeyS z.1 := fun y hy => by
      obtain ⟨z, hz, rfl⟩ := List.mem_map.mp hy
      exact hkk _ (hG z (hsub z hz)).1
    have hzl : zs.length ≤ 189 := by omega
    have hls3 := s3 _ _ (s2 _ _ hls)
    refine ⟨_, rfl, p, zs, rfl, hZ, by omega, fun x F0 H4 nx nF0 hX s4 => ?_⟩
    have hZ4 := hZ.same s4
    -- the other orders
    refine ⟨_, rfl, p, _, rfl, SqL.of hZ4.ls, fun q1 nq1 => ?_⟩
    have u5 := same_new (o := .lst (zs.map fun z => V.ref z.1).reverse) nq1
    refine ⟨_, rfl, _, rfl, p, _, rfl, SqL.of (u5 _ _ hZ4.ls), .inr ⟨rfl, fun q2 nq2 => ?_⟩⟩
    have u6 := same_new (o := .lst (odds (zs.map fun z => V.ref z.1))) nq2
    refine ⟨_, rfl, p, _, rfl, SqL.of (u6 _ _ (u5 _ _ hZ4.ls)), .inl ⟨rfl, fun q3 nq3 => ?_⟩⟩
    have u7 := same_new (o := .lst (evens (zs.map fun z => V.ref z.1))) nq3
    refine ⟨q2, q3, _, _, rfl, rfl, u7 _ _ upd_same, upd_same, ?_, fun q4 nq4 => ?_⟩
    · have h1 := evens_len (zs.map fun z => V.ref z.1)
      have h2 := evens_len (zs.map fun z => V.ref z.1).tail
      rw [List.length_tail] at h2
      rw [List.length_map] at h1 h2
      exact Nat.le_of_lt (small1000 (by show (evens (zs.map fun z => V.ref z.1).tail).length + _ ≤ _; omega))
    have u8 := same_new (o := .lst (odds (zs.map fun z => V.ref z.1) ++ evens (zs.map fun z => V.ref z.1))) nq4
    refine ⟨by show 2 ≤ sizeLine; decide, fun ll nll => ?_⟩
    have u9 := same_new (o := .lst [V.ref q1, V.ref q4]) nll
    have s49 := u5.trans (u6.trans (u7.trans (u8.trans u9)))
    have hq1 := u9 _ _ (u8 _ _ (u7 _ _ (u6 _ _ (upd_same : upd H4 q1 (.lst (zs.map fun z => V.ref z.1).reverse) q1 = _))))
    have hq4 := u9 _ _ (upd_same : upd (upd (upd (upd H4 q1 (.lst (zs.map fun z => V.ref z.1).reverse)) q2 (.lst (odds (zs.map fun z => V.ref z.1)))) q3 (.lst (evens (zs.map fun z => V.ref z.1)))) q4 (.lst (odds (zs.map fun z => V.ref z.1) ++ evens (zs.map fun z => V.ref z.1))) q4 = _)
    refine ⟨ll, rfl, ⟨_, SqL.of upd_same⟩, ?_⟩
    have hll := (upd_same : upd (upd (upd (upd (upd H4 q1 (.lst (zs.map fun z => V.ref z.1).reverse)) q2 (.lst (odds (zs.map fun z => V.ref z.1)))) q3 (.lst (evens (zs.map fun z => V.ref z.1)))) q4 (.lst (odds (zs.map fun z => V.ref z.1) ++ evens (zs.map fun z => V.ref z.1)))) ll (.lst [V.ref q1, V.ref q4]) ll = _)
    generalize upd (upd (upd (upd (upd H4 q1 (.lst (zs.map fun z => V.ref z.1).reverse)) q2 (.lst (odds (zs.map fun z => V.ref z.1)))) q3 (.lst (evens (zs.map fun z => V.ref z.1)))) q4 (.lst (odds (zs.map fun z => V.ref z.1) ++ evens (zs.map fun z => V.ref z.1)))) ll (.lst [V.ref q1, V.ref q4]) = H9 at s49 hq1 hq4 hll
    have hZ9 := hZ4.same s49
    have hX9 := hX.same s49
    have hls9 := s49 _ _ (s4 _ _ hls3)
    have ord : ∀ v ∈ [V.ref q1, V.ref q4], ∃ (o : Addr) (ws : List Pu), v = V.ref o ∧ PutsAt H9 o ws ∧ ws.Perm zs := fun v hv => by
      have hv' : v = V.ref q1 ∨ v = V.ref q4 := by simpa using hv
      rcases hv' with rfl | rfl
      · exact ⟨q1, zs.reverse, rfl, hZ9.perm zs.reverse_perm (by rw [hq1, List.map_reverse]), zs.reverse_perm⟩
      · exact ⟨q4, odds zs ++ evens zs, rfl, hZ9.perm (odds_evens zs) (by rw [hq4, odds_map, evens_map, List.map_append]), odds_evens zs⟩
    refine for_list (K := K) (a := ll) (xs := [V.ref q1, V.ref q4]) (fun i σ H' => ∃ v4 v5 v6 v7 v8, σ = [some (.ref a), some (.ref l), some (.ref p), some (.ref x), v4, v5, v6, v7, v8] ∧ Same H9 H') ⟨_, _, _, _, _, rfl, Same.refl _⟩ ?_ ?_ ?_
    · rintro i σ H' _ ⟨_, _, _, _, _, _, sm⟩
      exact SqL.of (sm _ _ hll)
    · rintro i v σ H' hi ⟨v4, v5, v6, v7, v8, rfl, sm⟩
      obtain ⟨o, ws, rfl, hW, hp⟩ := ord v (List.mem_of_getElem? hi)
      have hpm := hp.map (fun z : Pu => z.2)
      have hAw : Apart (ws.map (·.2)) := apart_perm hA hpm
      have hpg : ∀ (k : Str) (q : Int × Int), q ∈ pgOf (ws.map (·.2)) k ↔ q ∈ pgOf (zs.map (·.2)) k := fun k q => by rw [apart_mem hAw, apart_mem hA, hpm.mem_iff]
      have hwl : ws.length = zs.length := hp.length_eq
      refine ⟨_, rfl, o, ws, rfl, hW.same sm, by omega, fun y Fy H10 ny nFy hY s10 => ?_⟩
      have s910 := sm.trans s10
      obtain ⟨d1, d1', h1⟩ := hY.is
      refine ⟨_, rfl, y, d1, _, rfl, h1, shFlds_no _ (by decide +kernel), by show 2 ≤ sizeLine; decide, fun t11 n11 => ?_⟩
      have u11 := same_new (o := .tup [V.str "", V.str ""]) n11
      refine ⟨y, t11, Fy, _, "", "", rfl, hY.same u11, by rw [List.length_map]; omega, SqT.of upd_same, fun r1 w1 H12 nr1 hW1 hR1 s12 => ?_⟩
      have s912 := s910.trans (u11.trans s12)
      have hX12 := hX9.same s912
      obtain ⟨d2, d2', h2⟩ := hX12.is
      refine ⟨_, rfl, x, d2, _, rfl, h2, shFlds_no _ (by decide +kernel), by show 2 ≤ sizeLine; decide, fun t13 n13 => ?_⟩
      have u13 := same_new (o := .tup [V.str "", V.str ""]) n13
      refine ⟨x, t13, F0, _, "", "", rfl, hX12.same u13, by rw [List.length_map]; omega, SqT.of upd_same, fun r2 w2 H14 nr2 hW2 hR2 s14 => ?_⟩
      have s1214 := u13.trans s14
      have eq2 : w1.map (·.2) = w2.map (·.2) := hR1.uniq hR2 fun z => by rw [hpg]
      have hk2 := rows_keys hR2 hKS
      refine ⟨_, _, dp_puts (hW1.same s1214), dp_puts hW2, shaped_puts (by rw [eq2]; exact hk2), shaped_puts hk2, _, rfl, ?_⟩
      rw [eq2, eqv_puts hk2]
      refine iteF ?_
      have s914 := s912.trans s1214
      have hZ14 := hZ9.same s914
      have hX14 := hX9.same s914
      have hY14 := hY.same (u11.trans (s12.trans s1214))
      -- puts[:20]
      refine ⟨_, rfl, _, rfl, p, _, rfl, SqL.of hZ14.ls, fun cl ncl => ?_⟩
      have u15 := same_new (o := .lst (cutV (zs.map fun z => V.ref z.1) none (some 20))) ncl
      refine ⟨cl, rfl, ⟨_, SqL.of upd_same⟩, for_list (K := K) (a := cl) (xs := cutV (zs.map fun z => V.ref z.1) none (some 20)) (fun i σ H'' => ∃ w6 w7 w8, σ = [some (.ref a), some (.ref l), some (.ref p), some (.ref x), some (.ref o), some (.ref y), w6, w7, w8] ∧ Same (upd H14 cl (.lst (cutV (zs.map fun z => V.ref z.1) none (some 20)))) H'') ⟨_, _, _, rfl, Same.refl _⟩ ?_ ?_ ?_⟩
      · rintro i σ H'' _ ⟨_, _, _, _, sm2⟩
        exact SqL.of (sm2 _ _ upd_same)
      · rintro j v σ H'' hj ⟨w6, w7, w8, rfl, sm2⟩
        obtain ⟨z, hm, rfl⟩ := List.mem_map.mp (cutV_mem (List.mem_of_getElem? hj))
        have s14'' := u15.trans sm2
        have hzin : (z.2.2.1, z.2.2.2) ∈ pgOf (ws.map (·.2)) z.2.1 := (hpg _ _).mpr ((apart_mem hA _ _).mpr (List.mem_map.mpr ⟨z, hm, rfl⟩))
        refine ⟨z.1, _, rfl, SqT.of ((hZ14.same s14'').tp z hm), rfl, _, _, rfl, _, _, rfl, _, _, rfl, rfl, ?_⟩
        have hYk := hY14.same s14''
        have hlw : (ws.map (·.2)).length ≤ 900 := by
          rw [List.length_map]
          omega
        obtain ⟨d3, d3', h3⟩ := hYk.is
        refine ⟨_, rfl, y, d3, _, rfl, h3, shFlds_no _ (by decide +kernel), _, rfl, _, rfl, y, Fy, _, z.2.1, z.2.2.1, rfl, hYk, hlw, fun r3 H16 hAt s16 => ?_⟩
        refine ⟨_, rfl, rfl, _, rfl, iteNS (congrArg V.int (at_put hzin hAt)) ?_⟩
        have hY16 := hYk.same s16
        obtain ⟨d4, d4', h4⟩ := hY16.is
        refine ⟨_, rfl, y, d4, _, rfl, h4, shFlds_no _ (by decide +kernel), _, rfl, y, Fy, _, z.2.1, rfl, hY16, hlw, fun T1 t1 v1 H17 hN1 hT1 s17 => ?_⟩
        have hX17 := hX14.same (s14''.trans (s16.trans s17))
        obtain ⟨d5, d5', h5⟩ := hX17.is
        refine ⟨_, rfl, x, d5, _, rfl, h5, shFlds_no _ (by decide +kernel), _, rfl, x, F0, _, z.2.1, rfl, hX17, by rw [List.length_map]; omega, fun T2 t2 v2 H18 hN2 hT2 s18 => ?_⟩
        obtain ⟨rfl, rfl⟩ := (hN1.ext (hpg z.2.1)).one (pgOf_nodup _ _) hN2
        refine ⟨_, _, dp_pair (s18 _ _ hT1), dp_pair hT2, shaped_pair _ _, shaped_pair _ _, _, rfl, ?_⟩
        rw [eqv_pair]
        refine iteF ?_
        exact ⟨_, _, _, rfl, sm2.trans (s16.trans (s17.trans s18))⟩
      · rintro σ H'' ⟨w6, w7, w8, rfl, sm2⟩
        exact ⟨_, _, _, _, _, rfl, s914.trans (u15.trans sm2)⟩
    · rintro σ H' ⟨v4, v5, v6, v7, v8, rfl, sm⟩
      have s0' : Same H H' := s1.trans (s2.trans (s3.trans (s4.trans (s49.trans sm))))
      have hls' := sm _ _ hls9
      refine ⟨_, rfl, _, rfl, _, rfl, a, ns, 0, rfl, s0'.seq hS, Int.le_refl _, fun c0 => ⟨c0, 6, rfl, by decide, by decide, fun m0 => ?_⟩⟩
      have hpos : (0 : Int) < (((ks.map V.str).length : Nat) : Int) := by
        rw [List.length_map]
        omega
      refine ⟨_, rfl, l, _, rfl, .inl (SqL.of hls'), _, _, rfl, rfl, hpos, ?_⟩
      obtain ⟨kv, hkv, hat⟩ := at_list' (xs := ks.map V.str) (Int.emod_nonneg m0 (by omega)) (Int.emod_lt_of_pos m0 hpos)
      obtain ⟨key, hkey, rfl⟩ := List.mem_map.mp hkv
      refine ⟨l, _, _, _, rfl, rfl, SqL.of hls', hat, _, rfl, p, l, zs, key, ks, rfl, hZ9.same sm, by omega, hKS, fun e => ?_, hls', fun H'' s'' => q H''⟩
      have := hkn.2 key hkey
      rw [e] at this
      exact absurd this (by decide +kernel)
end
theorem all_mk {l : PySem.W.OpenLaw} {w : World} {K : PySem.W.Frag} {h : Heap} {mg : Str → Option Value} {fa f0 f1 f2 f3 f4 f5 f6 f7 f8 f9 f10 f11 f12 fm0 fm1 fm2 fm3 fm4 C_Shelf : Addr} (X : K.In h) (G : h.Ns mainGlobals mg) (hfa : mg "law" = some (.ref fa))
    {od0 an0 od1 an1 od2 an2 od3 an3 od4 an4 od5 an5 od6 an6 od7 an7 od8 an8 od9 an9 od10 an10 od11 an11 od12 an12 odm0 anm0 odm1 anm1 odm2 anm2 odm3 anm3 odm4 anm4 : Option Addr} {sl0 sl1 sl2 sl3 sl4 sl5 sl6 sl7 sl8 sl9 sl10 sl11 sl12 slm0 slm1 slm2 slm3 slm4 : Array (Option Value)} {oc0 kV0 dc0 pm0 cd0 ct0 oc1 kV1 dc1 pm1 cd1 ct1 oc2 kV2 dc2 pm2 cd2 ct2 oc3 kV3 dc3 pm3 cd3 ct3 oc4 kV4 dc4 pm4 cd4 ct4 oc5 kV5 dc5 pm5 cd5 ct5 oc6 kV6 dc6 pm6 cd6 ct6 oc7 kV7 dc7 pm7 cd7 ct7 oc8 kV8 dc8 pm8 cd8 ct8 oc9 kV9 dc9 pm9 cd9 ct9 oc10 kV10 dc10 pm10 cd10 ct10 oc11 kV11 dc11 pm11 cd11 ct11 oc12 kV12 dc12 pm12 cd12 ct12 ocm0 kVm0 dcm0 pmm0 cdm0 ctm0 ocm1 kVm1 dcm1 pmm1 cdm1 ctm1 ocm2 kVm2 dcm2 pmm2 cdm2 ctm2 ocm3 kVm3 dcm3 pmm3 cdm3 ctm3 ocm4 kVm4 dcm4 pmm4 cdm4 ctm4 : Value}
    (aC_Shelf : PySem.W.nsIn K mainGlobals "Shelf" = some (some (.ref C_Shelf)))
    (pg_Shelf : PySem.W.plainGet K C_Shelf Str.empty = true) (hd_Shelf : PySem.W.hasDictIn K C_Shelf = true) (po_Shelf : PySem.W.plainOver K C_Shelf = true)
    (sa_Shelf : PySem.W.findIn K (.ref C_Shelf) "__setattr__" = some (some (.builtin "object.__setattr__"))) (mk_Shelf : PySem.W.makesIn K C_Shelf = true) (kc_Shelf : PySem.W.keepIn K (.ref C_Shelf) = true)
    (nF_Shelf_pages : PySem.W.findIn K (.ref C_Shelf) "pages" = some none)
    (am0 : PySem.W.findIn K (.ref C_Shelf) "__init__" = some (some (.ref fm0))) (im0 : PySem.W.isFn K (.ref fm0) = true)
    (lm0 : K.lookup fm0 = some ⟨ocm0, odm0, .func (PySem.W.fnOf "__init__" "Shelf.__init__" (defArgs s_Shelf___init__) (defBody s_Shelf___init__) (defScope s_Shelf___init__) .none kVm0 dcm0 pmm0 anm0 cdm0 ctm0), slm0⟩)
    (cm0 : PySem.W.codeIn K cdm0 "Shelf.__init__" = true) (km0 : PySem.W.keepIn K (.ref fm0) = true)
    (am1 : PySem.W.findIn K (.ref C_Shelf) "put" = some (some (.ref fm1))) (im1 : PySem.W.isFn K (.ref fm1) = true)
    (lm1 : K.lookup fm1 = some ⟨ocm1, odm1, .func (PySem.W.fnOf "put" "Shelf.put" (defArgs s_Shelf_put) (defBody s_Shelf_put) (defScope s_Shelf_put) .none kVm1 dcm1 pmm1 anm1 cdm1 ctm1), slm1⟩)
    (cm1 : PySem.W.codeIn K cdm1 "Shelf.put" = true) (km1 : PySem.W.keepIn K (.ref fm1) = true)
    (am2 : PySem.W.findIn K (.ref C_Shelf) "at" = some (some (.ref fm2))) (im2 : PySem.W.isFn K (.ref fm2) = true)
    (lm2 : K.lookup fm2 = some ⟨ocm2, odm2, .func (PySem.W.fnOf "at" "Shelf.at" (defArgs s_Shelf_at) (defBody s_Shelf_at) (defScope s_Shelf_at) .none kVm2 dcm2 pmm2 anm2 cdm2 ctm2), slm2⟩)
    (cm2 : PySem.W.codeIn K cdm2 "Shelf.at" = true) (km2 : PySem.W.keepIn K (.ref fm2) = true)
    (am3 : PySem.W.findIn K (.ref C_Shelf) "newest" = some (some (.ref fm3))) (im3 : PySem.W.isFn K (.ref fm3) = true)
    (lm3 : K.lookup fm3 = some ⟨ocm3, odm3, .func (PySem.W.fnOf "newest" "Shelf.newest" (defArgs s_Shelf_newest) (defBody s_Shelf_newest) (defScope s_Shelf_newest) .none kVm3 dcm3 pmm3 anm3 cdm3 ctm3), slm3⟩)
    (cm3 : PySem.W.codeIn K cdm3 "Shelf.newest" = true) (km3 : PySem.W.keepIn K (.ref fm3) = true)
    (am4 : PySem.W.findIn K (.ref C_Shelf) "rows" = some (some (.ref fm4))) (im4 : PySem.W.isFn K (.ref fm4) = true)
    (lm4 : K.lookup fm4 = some ⟨ocm4, odm4, .func (PySem.W.fnOf "rows" "Shelf.rows" (defArgs s_Shelf_rows) (defBody s_Shelf_rows) (defScope s_Shelf_rows) .none kVm4 dcm4 pmm4 anm4 cdm4 ctm4), slm4⟩)
    (cm4 : PySem.W.codeIn K cdm4 "Shelf.rows" = true) (km4 : PySem.W.keepIn K (.ref fm4) = true)
    (a0 : PySem.W.nsIn K mainGlobals "has_key" = some (some (.ref f0)))
    (l0 : K.lookup f0 = some ⟨oc0, od0, .func (PySem.W.fnOf "has_key" "has_key" (defArgs s_has_key) (defBody s_has_key) (defScope s_has_key) .none kV0 dc0 pm0 an0 cd0 ct0), sl0⟩)
    (c0 : PySem.W.codeIn K cd0 "has_key" = true) (k0 : PySem.W.keepIn K (.ref f0) = true)
    (a1 : PySem.W.nsIn K mainGlobals "_law_cell" = some (some (.ref f1)))
    (l1 : K.lookup f1 = some ⟨oc1, od1, .func (PySem.W.fnOf "_law_cell" "_law_cell" (defArgs s_cell) (defBody s_cell) (defScope s_cell) .none kV1 dc1 pm1 an1 cd1 ct1), sl1⟩)
    (c1 : PySem.W.codeIn K cd1 "_law_cell" = true) (k1 : PySem.W.keepIn K (.ref f1) = true)
    (a2 : PySem.W.nsIn K mainGlobals "_law_mixed" = some (some (.ref f2)))
    (l2 : K.lookup f2 = some ⟨oc2, od2, .func (PySem.W.fnOf "_law_mixed" "_law_mixed" (defArgs s_mixed) (defBody s_mixed) (defScope s_mixed) .none kV2 dc2 pm2 an2 cd2 ct2), sl2⟩)
    (c2 : PySem.W.codeIn K cd2 "_law_mixed" = true) (k2 : PySem.W.keepIn K (.ref f2) = true)
    (a3 : PySem.W.nsIn K mainGlobals "_law_take" = some (some (.ref f3)))
    (l3 : K.lookup f3 = some ⟨oc3, od3, .func (PySem.W.fnOf "_law_take" "_law_take" (defArgs s_take) (defBody s_take) (defScope s_take) .none kV3 dc3 pm3 an3 cd3 ct3), sl3⟩)
    (c3 : PySem.W.codeIn K cd3 "_law_take" = true) (k3 : PySem.W.keepIn K (.ref f3) = true)
    (a4 : PySem.W.nsIn K mainGlobals "_law_pot" = some (some (.ref f4)))
    (l4 : K.lookup f4 = some ⟨oc4, od4, .func (PySem.W.fnOf "_law_pot" "_law_pot" (defArgs s_pot) (defBody s_pot) (defScope s_pot) .none kV4 dc4 pm4 an4 cd4 ct4), sl4⟩)
    (c4 : PySem.W.codeIn K cd4 "_law_pot" = true) (k4 : PySem.W.keepIn K (.ref f4) = true)
    (a5 : PySem.W.nsIn K mainGlobals "_law_keys" = some (some (.ref f5)))
    (l5 : K.lookup f5 = some ⟨oc5, od5, .func (PySem.W.fnOf "_law_keys" "_law_keys" (defArgs s_keys) (defBody s_keys) (defScope s_keys) .none kV5 dc5 pm5 an5 cd5 ct5), sl5⟩)
    (c5 : PySem.W.codeIn K cd5 "_law_keys" = true) (k5 : PySem.W.keepIn K (.ref f5) = true)
    (a6 : PySem.W.nsIn K mainGlobals "_law_word" = some (some (.ref f6)))
    (l6 : K.lookup f6 = some ⟨oc6, od6, .func (PySem.W.fnOf "_law_word" "_law_word" (defArgs s_word) (defBody s_word) (defScope s_word) .none kV6 dc6 pm6 an6 cd6 ct6), sl6⟩)
    (c6 : PySem.W.codeIn K cd6 "_law_word" = true) (k6 : PySem.W.keepIn K (.ref f6) = true)
    (a7 : PySem.W.nsIn K mainGlobals "_law_moment" = some (some (.ref f7)))
    (l7 : K.lookup f7 = some ⟨oc7, od7, .func (PySem.W.fnOf "_law_moment" "_law_moment" (defArgs s_moment) (defBody s_moment) (defScope s_moment) .none kV7 dc7 pm7 an7 cd7 ct7), sl7⟩)
    (c7 : PySem.W.codeIn K cd7 "_law_moment" = true) (k7 : PySem.W.keepIn K (.ref f7) = true)
    (a8 : PySem.W.nsIn K mainGlobals "_law_puts" = some (some (.ref f8)))
    (l8 : K.lookup f8 = some ⟨oc8, od8, .func (PySem.W.fnOf "_law_puts" "_law_puts" (defArgs s_puts) (defBody s_puts) (defScope s_puts) .none kV8 dc8 pm8 an8 cd8 ct8), sl8⟩)
    (c8 : PySem.W.codeIn K cd8 "_law_puts" = true) (k8 : PySem.W.keepIn K (.ref f8) = true)
    (a9 : PySem.W.nsIn K mainGlobals "_law_shelf" = some (some (.ref f9)))
    (l9 : K.lookup f9 = some ⟨oc9, od9, .func (PySem.W.fnOf "_law_shelf" "_law_shelf" (defArgs s_shelf) (defBody s_shelf) (defScope s_shelf) .none kV9 dc9 pm9 an9 cd9 ct9), sl9⟩)
    (c9 : PySem.W.codeIn K cd9 "_law_shelf" = true) (k9 : PySem.W.keepIn K (.ref f9) = true)
    (a10 : PySem.W.nsIn K mainGlobals "_law_firsts" = some (some (.ref f10)))
    (l10 : K.lookup f10 = some ⟨oc10, od10, .func (PySem.W.fnOf "_law_firsts" "_law_firsts" (defArgs s_firsts) (defBody s_firsts) (defScope s_firsts) .none kV10 dc10 pm10 an10 cd10 ct10), sl10⟩)
    (c10 : PySem.W.codeIn K cd10 "_law_firsts" = true) (k10 : PySem.W.keepIn K (.ref f10) = true)
    (a11 : PySem.W.nsIn K mainGlobals "_law_parted" = some (some (.ref f11)))
    (l11 : K.lookup f11 = some ⟨oc11, od11, .func (PySem.W.fnOf "_law_parted" "_law_parted" (defArgs s_parted) (defBody s_parted) (defScope s_parted) .none kV11 dc11 pm11 an11 cd11 ct11), sl11⟩)
    (c11 : PySem.W.codeIn K cd11 "_law_parted" = true) (k11 : PySem.W.keepIn K (.ref f11) = true)
    (a12 : PySem.W.nsIn K mainGlobals "law" = some (some (.ref f12)))
    (l12 : K.lookup f12 = some ⟨oc12, od12, .func (PySem.W.fnOf "law" "law" (defArgs s_law) (defBody s_law) (defScope s_law) .none kV12 dc12 pm12 an12 cd12 ct12), sl12⟩)
    (c12 : PySem.W.codeIn K cd12 "law" = true) (k12 : PySem.W.keepIn K (.ref f12) = true)
    (z0 : PySem.W.nsIn K mainGlobals "int" = some none)
    (z1 : PySem.W.nsIn K mainGlobals "len" = some none)
    (z2 : PySem.W.nsIn K mainGlobals "list" = some none)
    (z3 : PySem.W.nsIn K mainGlobals "max" = some none)
    (z4 : PySem.W.nsIn K mainGlobals "range" = some none)
    (z5 : PySem.W.nsIn K mainGlobals "reversed" = some none)
    (z6 : PySem.W.nsIn K mainGlobals "sorted" = some none) :
    ∃ fd : FuncData, (∀ (s : Shared) (v : Value), BindsTo s fd ⟨[v], []⟩ [("_law_script", v)]) ∧ ∀ base : Heap, K.In base → base.Ns mainGlobals mg → FnOk l.prog w K mg base CX0 6 fa fd ["_law_script"] (spLaw K) := by
  have e := hfa.symm.trans (PySem.W.mg_of X G a12)
  cases e
  have B : Blt mg := ⟨PySem.W.mg_none_of X G z0, PySem.W.mg_none_of X G z1, PySem.W.mg_none_of X G z2, PySem.W.mg_none_of X G z3, PySem.W.mg_none_of X G z4, PySem.W.mg_none_of X G z5, PySem.W.mg_none_of X G z6⟩
  have L_Shelf : Cls K C_Shelf := ⟨pg_Shelf, hd_Shelf, po_Shelf, sa_Shelf⟩
  have M_Shelf := PySem.W.mg_of X G aC_Shelf
  have Fm0 := fun_mk (st := s_Shelf___init__) lm0 cm0 km0
  have bm0 := Fm0.binds (ps := ["self"]) fun _ _ _ _ _ _ us hl => match us, hl with | [_], _ => rfl
  have A_Shelf___init__ : MakeAt K C_Shelf "Shelf.__init__" s_Shelf___init__ ["self"] := ⟨_, _, Fm0, ⟨mk_Shelf, am0, im0, kc_Shelf⟩, bm0⟩
  have Fm1 := fun_mk (st := s_Shelf_put) lm1 cm1 km1
  have bm1 := Fm1.binds (ps := ["self", "key", "moment", "value"]) fun _ _ _ _ _ _ us hl => match us, hl with | [_, _, _, _], _ => rfl
  have A_Shelf_put : MethAt K C_Shelf "put" "Shelf.put" s_Shelf_put ["self", "key", "moment", "value"] := ⟨_, _, Fm1, ⟨am1, im1, km1⟩, bm1⟩
  have Fm2 := fun_mk (st := s_Shelf_at) lm2 cm2 km2
  have bm2 := Fm2.binds (ps := ["self", "key", "moment"]) fun _ _ _ _ _ _ us hl => match us, hl with | [_, _, _], _ => rfl
  have A_Shelf_at : MethAt K C_Shelf "at" "Shelf.at" s_Shelf_at ["self", "key", "moment"] := ⟨_, _, Fm2, ⟨am2, im2, km2⟩, bm2⟩
  have Fm3 := fun_mk (st := s_Shelf_newest) lm3 cm3 km3
  have bm3 := Fm3.binds (ps := ["self", "key"]) fun _ _ _ _ _ _ us hl => match us, hl with | [_, _], _ => rfl
  have A_Shelf_newest : MethAt K C_Shelf "newest" "Shelf.newest" s_Shelf_newest ["self", "key"] := ⟨_, _, Fm3, ⟨am3, im3, km3⟩, bm3⟩
  have Fm4 := fun_mk (st := s_Shelf_rows) lm4 cm4 km4
  have bm4 := Fm4.binds (ps := ["self", "span"]) fun _ _ _ _ _ _ us hl => match us, hl with | [_, _], _ => rfl
  have A_Shelf_rows : MethAt K C_Shelf "rows" "Shelf.rows" s_Shelf_rows ["self", "span"] := ⟨_, _, Fm4, ⟨am4, im4, km4⟩, bm4⟩
  have F0 := fun_mk (st := s_has_key) l0 c0 k0
  have b0 := F0.binds (ps := ["span", "key"]) fun _ _ _ _ _ _ us hl => match us, hl with | [_, _], _ => rfl
  have A_has_key : DefAt K mg "has_key" s_has_key ["span", "key"] := ⟨_, _, F0, PySem.W.mg_of X G a0, b0⟩
  have F1 := fun_mk (st := s_cell) l1 c1 k1
  have b1 := F1.binds (ps := ["_law_script", "_law_k"]) fun _ _ _ _ _ _ us hl => match us, hl with | [_, _], _ => rfl
  have A_cell : DefAt K mg "_law_cell" s_cell ["_law_script", "_law_k"] := ⟨_, _, F1, PySem.W.mg_of X G a1, b1⟩
  have F2 := fun_mk (st := s_mixed) l2 c2 k2
  have b2 := F2.binds (ps := ["_law_cell_here", "_law_k"]) fun _ _ _ _ _ _ us hl => match us, hl with | [_, _], _ => rfl
  have A_mixed : DefAt K mg "_law_mixed" s_mixed ["_law_cell_here", "_law_k"] := ⟨_, _, F2, PySem.W.mg_of X G a2, b2⟩
  have F3 := fun_mk (st := s_take) l3 c3 k3
  have b3 := F3.binds (ps := ["_law_pot_here", "_law_many"]) fun _ _ _ _ _ _ us hl => match us, hl with | [_, _], _ => rfl
  have A_take : DefAt K mg "_law_take" s_take ["_law_pot_here", "_law_many"] := ⟨_, _, F3, PySem.W.mg_of X G a3, b3⟩
  have F4 := fun_mk (st := s_pot) l4 c4 k4
  have b4 := F4.binds (ps := ["_law_cell_here"]) fun _ _ _ _ _ _ us hl => match us, hl with | [_], _ => rfl
  have A_pot : DefAt K mg "_law_pot" s_pot ["_law_cell_here"] := ⟨_, _, F4, PySem.W.mg_of X G a4, b4⟩
  have F5 := fun_mk (st := s_keys) l5 c5 k5
  have b5 := F5.binds (ps := ["_law_script"]) fun _ _ _ _ _ _ us hl => match us, hl with | [_], _ => rfl
  have A_keys : DefAt K mg "_law_keys" s_keys ["_law_script"] := ⟨_, _, F5, PySem.W.mg_of X G a5, b5⟩
  have F6 := fun_mk (st := s_word) l6 c6 k6
  have b6 := F6.binds (ps := ["_law_pot_here", "_law_size"]) fun _ _ _ _ _ _ us hl => match us, hl with | [_, _], _ => rfl
  have A_word : DefAt K mg "_law_word" s_word ["_law_pot_here", "_law_size"] := ⟨_, _, F6, PySem.W.mg_of X G a6, b6⟩
  have F7 := fun_mk (st := s_moment) l7 c7 k7
  have b7 := F7.binds (ps := ["_law_pot_here"]) fun _ _ _ _ _ _ us hl => match us, hl with | [_], _ => rfl
  have A_moment : DefAt K mg "_law_moment" s_moment ["_law_pot_here"] := ⟨_, _, F7, PySem.W.mg_of X G a7, b7⟩
  have F8 := fun_mk (st := s_puts) l8 c8 k8
  have b8 := F8.binds (ps := ["_law_script", "_law_keys_here"]) fun _ _ _ _ _ _ us hl => match us, hl with | [_, _], _ => rfl
  have A_puts : DefAt K mg "_law_puts" s_puts ["_law_script", "_law_keys_here"] := ⟨_, _, F8, PySem.W.mg_of X G a8, b8⟩
  have F9 := fun_mk (st := s_shelf) l9 c9 k9
  have b9 := F9.binds (ps := ["_law_puts_here"]) fun _ _ _ _ _ _ us hl => match us, hl with | [_], _ => rfl
  have A_shelf : DefAt K mg "_law_shelf" s_shelf ["_law_puts_here"] := ⟨_, _, F9, PySem.W.mg_of X G a9, b9⟩
  have F10 := fun_mk (st := s_firsts) l10 c10 k10
  have b10 := F10.binds (ps := ["_law_puts_here"]) fun _ _ _ _ _ _ us hl => match us, hl with | [_], _ => rfl
  have A_firsts : DefAt K mg "_law_firsts" s_firsts ["_law_puts_here"] := ⟨_, _, F10, PySem.W.mg_of X G a10, b10⟩
  have F11 := fun_mk (st := s_parted) l11 c11 k11
  have b11 := F11.binds (ps := ["_law_puts_here", "_law_key", "_law_keys_here"]) fun _ _ _ _ _ _ us hl => match us, hl with | [_, _, _], _ => rfl
  have A_parted : DefAt K mg "_law_parted" s_parted ["_law_puts_here", "_law_key", "_law_keys_here"] := ⟨_, _, F11, PySem.W.mg_of X G a11, b11⟩
  have F12 := fun_mk (st := s_law) l12 c12 k12
  exact ⟨PySem.W.fnOf "law" "law" (defArgs s_law) (defBody s_law) (defScope s_law) .none kV12 dc12 pm12 an12 cd12 ct12, fun s v => .of_eq rfl, fun base _ _ => ok_law F12 B (⟨L_Shelf, nF_Shelf_pages⟩ : ShCls K C_Shelf) M_Shelf A_Shelf___init__ A_Shelf_put A_Shelf_at A_Shelf_newest A_Shelf_rows A_has_key A_cell A_mixed A_take A_pot A_keys A_word A_moment A_puts A_shelf A_firsts A_parted⟩
end FB
open PySem PySem.W PyProof.Rows
set_option maxRecDepth 100000 in
set_option maxHeartbeats 0 in
theorem PySem.Challenge.cw_farbooks_k12_whole_in_any_order_holds : PySem.Challenge.rw_farbooks_k12_whole_in_any_order.Holds := by
  w_on; o_law; k_head; (case hw => w_witness2)
  k_fill
  refine L2.walk_of (l := PySem.Challenge.rw_farbooks_k12_whole_in_any_order) (n := 63) (k := 6) (x := "_law_script") (CX := fun _ => L2.CX0) (sp := fun w => FB.spLaw _) rfl (by decide) rfl ⟨rfl, by decide, by decide⟩ (fun w h Y => PySem.W.kIn_of Y) ?F (fun _ _ a ns hl _ hS => ⟨a, ns, rfl, hS, hl, fun _ => rfl⟩) (fun _ _ _ _ _ h => h)
  case F =>
    intro w mg fa h KX G hmg
    refine' FB.all_mk KX G hmg ?aC_Shelf ?pg_Shelf ?hd_Shelf ?po_Shelf ?sa_Shelf ?mk_Shelf ?kc_Shelf ?nF_Shelf_pages ?am0 ?im0 ?lm0 ?cm0 ?km0 ?am1 ?im1 ?lm1 ?cm1 ?km1 ?am2 ?im2 ?lm2 ?cm2 ?km2 ?am3 ?im3 ?lm3 ?cm3 ?km3 ?am4 ?im4 ?lm4 ?cm4 ?km4 ?a0 ?l0 ?c0 ?k0 ?a1 ?l1 ?c1 ?k1 ?a2 ?l2 ?c2 ?k2 ?a3 ?l3 ?c3 ?k3 ?a4 ?l4 ?c4 ?k4 ?a5 ?l5 ?c5 ?k5 ?a6 ?l6 ?c6 ?k6 ?a7 ?l7 ?c7 ?k7 ?a8 ?l8 ?c8 ?k8 ?a9 ?l9 ?c9 ?k9 ?a10 ?l10 ?c10 ?k10 ?a11 ?l11 ?c11 ?k11 ?a12 ?l12 ?c12 ?k12 ?z0 ?z1 ?z2 ?z3 ?z4 ?z5 ?z6
    (case aC_Shelf => k_is); (case pg_Shelf => k_is); (case hd_Shelf => k_is); (case po_Shelf => k_is); (case sa_Shelf => k_is); (case mk_Shelf => k_is)
    (case kc_Shelf => k_is); (case nF_Shelf_pages => k_is); (case am0 => k_is); (case im0 => k_is); (case lm0 => k_is); (case cm0 => k_is)
    (case km0 => k_is); (case am1 => k_is); (case im1 => k_is); (case lm1 => k_is); (case cm1 => k_is); (case km1 => k_is)
    (case am2 => k_is); (case im2 => k_is); (case lm2 => k_is); (case cm2 => k_is); (case km2 => k_is); (case am3 => k_is)
    (case im3 => k_is); (case lm3 => k_is); (case cm3 => k_is); (case km3 => k_is); (case am4 => k_is); (case im4 => k_is)
    (case lm4 => k_is); (case cm4 => k_is); (case km4 => k_is); (case a0 => k_is); (case l0 => k_is); (case c0 => k_is)
    (case k0 => k_is); (case a1 => k_is); (case l1 => k_is); (case c1 => k_is); (case k1 => k_is); (case a2 => k_is)
    (case l2 => k_is); (case c2 => k_is); (case k2 => k_is); (case a3 => k_is); (case l3 => k_is); (case c3 => k_is)
    (case k3 => k_is); (case a4 => k_is); (case l4 => k_is); (case c4 => k_is); (case k4 => k_is); (case a5 => k_is)
    (case l5 => k_is); (case c5 => k_is); (case k5 => k_is); (case a6 => k_is); (case l6 => k_is); (case c6 => k_is)
    (case k6 => k_is); (case a7 => k_is); (case l7 => k_is); (case c7 => k_is); (case k7 => k_is); (case a8 => k_is)
    (case l8 => k_is); (case c8 => k_is); (case k8 => k_is); (case a9 => k_is); (case l9 => k_is); (case c9 => k_is)
    (case k9 => k_is); (case a10 => k_is); (case l10 => k_is); (case c10 => k_is); (case k10 => k_is); (case a11 => k_is)
    (case l11 => k_is); (case c11 => k_is); (case k11 => k_is); (case a12 => k_is); (case l12 => k_is); (case c12 => k_is)
    (case k12 => k_is); (case z0 => k_is); (case z1 => k_is); (case z2 => k_is); (case z3 => k_is); (case z4 => k_is)
    (case z5 => k_is); (case z6 => k_is)
