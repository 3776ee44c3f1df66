import PyProof.Rows.All
import Wide.All
import OpenK.AllK
import Wide.FinOn
import HandS.ForMost
import HandS.IsInst
import HandS.Zip
import HandS.GenList
import HandS.EndTab
import KE.KNestM
import PySem.Challenge.RW_farbooks_k05_spans_that_clash
set_option Elab.async false
set_option linter.all false
set_option maxRecDepth 100000
set_option maxHeartbeats 4000000
namespace FB
open PySem PySem.Spec PyProof.Rows L2

/-! ### a def that is called by its name -/
def DefOk (P : Program) (w : World) (K : PySem.W.Frag) (mg : Str → Option Value) (base : Heap) (k : Nat) (x : Str) (ps : List Str) (sp : Sp) : Prop :=
  ∃ f fd, FnOk P w K mg base CX0 k f fd ps sp ∧ mg x = some (.ref f) ∧ PySem.W.keepIn K (.ref f) = true ∧ L2.Binds K fd ps []
theorem pe_def {X : Cx} {k : Nat} {x : Str} {ps : List Str} {sp : Sp} {e : Expr} {es : List Expr} {t : TA} {p pos : Pos} (D : DefOk X.prog X.w X.K X.mg X.base k x ps sp) (hr : Room k X.A) (hg : Gl X x) (ha : PA X (e :: es) t)
    (hd : (x == ("__debug__" : Str)) = false := by decide) (hs : starEach (e :: es) X.env = (false, eval e X.env) :: starEach es X.env := by rfl) (hpl : (backTo pos (starEach es X.env)).any (·.1) = false := by rfl) :
    PE X (.Call (.Name x p) (e :: es) [] pos) (tCall sp [] E0 t) := by
  obtain ⟨f, fd, F, hm, hk, hb⟩ := D
  exact pe_call F hr hg hm hk hb .nil pass0 ha hd hs hpl
theorem pe_def0 {X : Cx} {k : Nat} {x : Str} {ps : List Str} {sp : Sp} {p pos : Pos} (D : DefOk X.prog X.w X.K X.mg X.base k x ps sp) (hr : Room k X.A) (hg : Gl X x)
    (hd : (x == ("__debug__" : Str)) = false := by decide) : PE X (.Call (.Name x p) [] [] pos) (tCall sp [] E0 tNil) := by
  obtain ⟨f, fd, F, hm, hk, hb⟩ := D
  exact pe_call0 F hr hg hm hk hb .nil pass0 hd
/-- where a def of the text stands -/
def DefAt (K : PySem.W.Frag) (mg : Str → Option Value) (x : Str) (st : Stmt) (ps : List Str) : Prop :=
  ∃ f fd, Fun K x x st f fd ∧ mg x = some (.ref f) ∧ L2.Binds K fd ps []
theorem DefAt.ok {P : Program} {w : World} {K : PySem.W.Frag} {mg : Str → Option Value} {base : Heap} {k : Nat} {x : Str} {st : Stmt} {ps : List Str} {sp : Sp} (A : DefAt K mg x st ps)
    (h : ∀ f fd, Fun K x x st f fd → FnOk P w K mg base CX0 k f fd ps sp) : DefOk P w K mg base k x ps sp := by
  obtain ⟨f, fd, F, hm, hb⟩ := A
  exact ⟨f, fd, h f fd F, hm, F.kp, hb⟩

/-! ### heaps -/
/-- all but what stands at d stays -/
def Keep (d : Addr) (H H' : Hp) : Prop := ∀ b o, H b = some o → b ≠ d → H' b = some o
theorem Keep.refl (d : Addr) (H : Hp) : Keep d H H := fun _ _ h _ => h
theorem Keep.trans {d : Addr} {H H1 H2 : Hp} (a : Keep d H H1) (b : Keep d H1 H2) : Keep d H H2 := fun c o h n => b c o (a c o h n) n
theorem keep_same {d : Addr} {H H' : Hp} (e : Same H H') : Keep d H H' := fun b o h _ => e b o h
theorem same_new {H : Hp} {p : Addr} {o : HO} (h : H p = none) : Same H (upd H p o) := fun b x e => by
  rw [upd_ne (ne_of_none e h)]
  exact e
theorem keep_upd {d : Addr} {H : Hp} {o : HO} : Keep d H (upd H d o) := fun b x e n => by
  rw [upd_ne n]
  exact e
theorem upd_self {H : Hp} {d : Addr} {o : HO} (h : H d = some o) : upd H d o = H := by
  funext b
  unfold upd
  split
  · rename_i e
    rw [e, h]
  · rfl
/-- what is not there before the change was not there -/
theorem keep_free {d : Addr} {H H' : Hp} (k : Keep d H H') (hd : ∃ o, H' d = some o) {l : Addr} (h : H' l = none) : H l = none := by
  cases q : H l with
  | none => rfl
  | some o =>
    by_cases e : l = d
    · subst e
      obtain ⟨o', ho⟩ := hd
      rw [ho] at h
      cases h
    · rw [k l o q e] at h
      cases h

/-! ### dicts -/
theorem dget_of {H : Hp} {a : Addr} {kvs : List (Key × V)} {k : Key} {v : V} (e : H a = some (.dK kvs)) (h : valV kvs k = some v) : DGet H a (kV k) (some v) := by
  have q := DGet.k (k := k) e
  rw [h] at q
  exact q
theorem dput_of {H : Hp} {a : Addr} {kvs kvs' : List (Key × V)} {k : Key} {v : V} (e : H a = some (.dK kvs)) (hl : kvs.length < sizeLine) (h : putK kvs k v = kvs') : DPut H a (kV k) v (upd H a (.dK kvs')) := by
  have q := DPut.k (k := k) (v := v) e hl
  rw [h] at q
  exact q

/-! ### the draws -/
abbrev tk (x : Str) : Key := Sum.inr x
def drawKvs (c : Addr) (a l n : Int) (g : Bool) : List (Key × V) :=
  [(tk "cells", .ref c), (tk "at", .int a), (tk "left", .int l), (tk "number", .int n), (tk "digits", .bl g)]
theorem s_ca : ¬ ("cells" : Str) = "at" := by decide +kernel
theorem k_ca : ¬ tk "cells" = tk "at" := fun z => s_ca (Sum.inr.inj z)
theorem s_cl : ¬ ("cells" : Str) = "left" := by decide +kernel
theorem k_cl : ¬ tk "cells" = tk "left" := fun z => s_cl (Sum.inr.inj z)
theorem s_cn : ¬ ("cells" : Str) = "number" := by decide +kernel
theorem k_cn : ¬ tk "cells" = tk "number" := fun z => s_cn (Sum.inr.inj z)
theorem s_cd : ¬ ("cells" : Str) = "digits" := by decide +kernel
theorem k_cd : ¬ tk "cells" = tk "digits" := fun z => s_cd (Sum.inr.inj z)
theorem s_ac : ¬ ("at" : Str) = "cells" := by decide +kernel
theorem k_ac : ¬ tk "at" = tk "cells" := fun z => s_ac (Sum.inr.inj z)
theorem s_al : ¬ ("at" : Str) = "left" := by decide +kernel
theorem k_al : ¬ tk "at" = tk "left" := fun z => s_al (Sum.inr.inj z)
theorem s_an : ¬ ("at" : Str) = "number" := by decide +kernel
theorem k_an : ¬ tk "at" = tk "number" := fun z => s_an (Sum.inr.inj z)
theorem s_ad : ¬ ("at" : Str) = "digits" := by decide +kernel
theorem k_ad : ¬ tk "at" = tk "digits" := fun z => s_ad (Sum.inr.inj z)
theorem s_lc : ¬ ("left" : Str) = "cells" := by decide +kernel
theorem k_lc : ¬ tk "left" = tk "cells" := fun z => s_lc (Sum.inr.inj z)
theorem s_la : ¬ ("left" : Str) = "at" := by decide +kernel
theorem k_la : ¬ tk "left" = tk "at" := fun z => s_la (Sum.inr.inj z)
theorem s_ln : ¬ ("left" : Str) = "number" := by decide +kernel
theorem k_ln : ¬ tk "left" = tk "number" := fun z => s_ln (Sum.inr.inj z)
theorem s_ld : ¬ ("left" : Str) = "digits" := by decide +kernel
theorem k_ld : ¬ tk "left" = tk "digits" := fun z => s_ld (Sum.inr.inj z)
theorem s_nc : ¬ ("number" : Str) = "cells" := by decide +kernel
theorem k_nc : ¬ tk "number" = tk "cells" := fun z => s_nc (Sum.inr.inj z)
theorem s_na : ¬ ("number" : Str) = "at" := by decide +kernel
theorem k_na : ¬ tk "number" = tk "at" := fun z => s_na (Sum.inr.inj z)
theorem s_nl : ¬ ("number" : Str) = "left" := by decide +kernel
theorem k_nl : ¬ tk "number" = tk "left" := fun z => s_nl (Sum.inr.inj z)
theorem s_nd : ¬ ("number" : Str) = "digits" := by decide +kernel
theorem k_nd : ¬ tk "number" = tk "digits" := fun z => s_nd (Sum.inr.inj z)
theorem s_dc : ¬ ("digits" : Str) = "cells" := by decide +kernel
theorem k_dc : ¬ tk "digits" = tk "cells" := fun z => s_dc (Sum.inr.inj z)
theorem s_da : ¬ ("digits" : Str) = "at" := by decide +kernel
theorem k_da : ¬ tk "digits" = tk "at" := fun z => s_da (Sum.inr.inj z)
theorem s_dl : ¬ ("digits" : Str) = "left" := by decide +kernel
theorem k_dl : ¬ tk "digits" = tk "left" := fun z => s_dl (Sum.inr.inj z)
theorem s_dn : ¬ ("digits" : Str) = "number" := by decide +kernel
theorem k_dn : ¬ tk "digits" = tk "number" := fun z => s_dn (Sum.inr.inj z)
section
variable {H : Hp} {d c : Addr} {a l n v : Int} {g : Bool}
theorem dg_cells : DGet (upd H d (.dK (drawKvs c a l n g))) d (.str "cells") (some (.ref c)) := dget_of (k := tk "cells") upd_same (valV_pos rfl)
theorem dg_at : DGet (upd H d (.dK (drawKvs c a l n g))) d (.str "at") (some (.int a)) := dget_of (k := tk "at") upd_same ((valV_neg k_ca).trans (valV_pos rfl))
theorem dg_left : DGet (upd H d (.dK (drawKvs c a l n g))) d (.str "left") (some (.int l)) := dget_of (k := tk "left") upd_same ((valV_neg k_cl).trans ((valV_neg k_al).trans (valV_pos rfl)))
theorem dg_number : DGet (upd H d (.dK (drawKvs c a l n g))) d (.str "number") (some (.int n)) := dget_of (k := tk "number") upd_same ((valV_neg k_cn).trans ((valV_neg k_an).trans ((valV_neg k_ln).trans (valV_pos rfl))))
theorem dg_digits : DGet (upd H d (.dK (drawKvs c a l n g))) d (.str "digits") (some (.bl g)) := dget_of (k := tk "digits") upd_same ((valV_neg k_cd).trans ((valV_neg k_ad).trans ((valV_neg k_ld).trans ((valV_neg k_nd).trans (valV_pos rfl)))))
theorem put_at : putK (drawKvs c a l n g) (tk "at") (.int v) = drawKvs c v l n g := by
  unfold putK drawKvs
  rw [if_pos (by simp)]
  simp only [List.map_cons, List.map_nil, k_ca, k_la, k_na, k_da, if_false, if_true]
theorem put_left : putK (drawKvs c a l n g) (tk "left") (.int v) = drawKvs c a v n g := by
  unfold putK drawKvs
  rw [if_pos (by simp)]
  simp only [List.map_cons, List.map_nil, k_cl, k_al, k_nl, k_dl, if_false, if_true]
theorem put_number : putK (drawKvs c a l n g) (tk "number") (.int v) = drawKvs c a l v g := by
  unfold putK drawKvs
  rw [if_pos (by simp)]
  simp only [List.map_cons, List.map_nil, k_cn, k_an, k_ln, k_dn, if_false, if_true]
theorem five : (drawKvs c a l n g).length < sizeLine := by
  show 5 < sizeLine
  decide
theorem dp_at : DPut (upd H d (.dK (drawKvs c a l n g))) d (.str "at") (.int v) (upd H d (.dK (drawKvs c v l n g))) := by
  have q := dput_of (k := tk "at") (v := .int v) (upd_same (H := H) (a := d) (o := .dK (drawKvs c a l n g))) five put_at
  rw [upd_upd] at q
  exact q
theorem dp_left : DPut (upd H d (.dK (drawKvs c a l n g))) d (.str "left") (.int v) (upd H d (.dK (drawKvs c a v n g))) := by
  have q := dput_of (k := tk "left") (v := .int v) (upd_same (H := H) (a := d) (o := .dK (drawKvs c a l n g))) five put_left
  rw [upd_upd] at q
  exact q
theorem dp_number : DPut (upd H d (.dK (drawKvs c a l n g))) d (.str "number") (.int v) (upd H d (.dK (drawKvs c a l v g))) := by
  have q := dput_of (k := tk "number") (v := .int v) (upd_same (H := H) (a := d) (o := .dK (drawKvs c a l n g))) five put_number
  rw [upd_upd] at q
  exact q
end
/-- a draw's dict stands at d, its cells at c, at most n draws were mixed -/
def DrawAt (H : Hp) (d c : Addr) (cs : List Int) (n : Nat) : Prop := ∃ (a l m : Int) (g : Bool), H d = some (.dK (drawKvs c a l m g)) ∧ H c = some (.lst (cs.map V.int)) ∧ 0 < cs.length ∧ cs.length ≤ 64 ∧ 0 ≤ a ∧ a ≤ n
section
variable {H H' : Hp} {d c p : Addr} {cs : List Int} {n m : Nat} {o : HO}
theorem DrawAt.mono (h : DrawAt H d c cs n) (e : n ≤ m) : DrawAt H d c cs m := by
  obtain ⟨a, l, k, g, h1, h2, h3, h4, h5, h6⟩ := h
  exact ⟨a, l, k, g, h1, h2, h3, h4, h5, by omega⟩
theorem DrawAt.same (h : DrawAt H d c cs n) (e : Same H H') : DrawAt H' d c cs n := by
  obtain ⟨a, l, k, g, h1, h2, h3⟩ := h
  exact ⟨a, l, k, g, e _ _ h1, e _ _ h2, h3⟩
theorem DrawAt.is (h : DrawAt H d c cs n) : ∃ kvs, H d = some (.dK kvs) := by
  obtain ⟨a, l, k, g, h1, _⟩ := h
  exact ⟨_, h1⟩
theorem DrawAt.cells (h : DrawAt H d c cs n) : H c = some (.lst (cs.map V.int)) := by
  obtain ⟨a, l, k, g, h1, h2, _⟩ := h
  exact h2
theorem DrawAt.ne (h : DrawAt H d c cs n) (hp : H p = none) : p ≠ d := by
  obtain ⟨kvs, e⟩ := h.is
  exact (ne_of_none e hp).symm
theorem DrawAt.neC (h : DrawAt H d c cs n) (hp : H p = none) : p ≠ c := (ne_of_none h.cells hp).symm
/-- another object is written -/
theorem DrawAt.upd (h : DrawAt H d c cs n) (h1 : p ≠ d) (h2 : p ≠ c) : DrawAt (L2.upd H p o) d c cs n := by
  obtain ⟨a, l, k, g, e1, e2, h3⟩ := h
  exact ⟨a, l, k, g, by rw [upd_ne h1.symm]; exact e1, by rw [upd_ne h2.symm]; exact e2, h3⟩
theorem keep_mut (k : Keep d H H') (h : H p = none) : Keep d H (L2.upd H' p o) := fun b x e nb => by
  rw [upd_ne (ne_of_none e h)]
  exact k b x e nb
end
theorem at_mod {cs : List Int} (h : 0 < cs.length) (k : Int) : ∃ z, atI (cs.map V.int) (k % ((cs.map V.int).length : Int)) = some (.int z) := by
  have h0 : (0 : Int) < ((cs.map V.int).length : Int) := by
    rw [List.length_map]
    omega
  have h1 := Int.emod_nonneg k (by omega : ((cs.map V.int).length : Int) ≠ 0)
  have h2 := Int.emod_lt_of_pos k h0
  obtain ⟨j, hj⟩ : ∃ j : Nat, k % ((cs.map V.int).length : Int) = (j : Int) := ⟨_, (Int.toNat_of_nonneg h1).symm⟩
  rw [hj] at h2 ⊢
  have hl : j < (cs.map V.int).length := by omega
  have hl2 : j < cs.length := by
    rw [List.length_map] at hl
    exact hl
  exact ⟨cs[j], atI_nat (by rw [List.getElem?_map, List.getElem?_eq_getElem hl2]; rfl)⟩
/-- a draw: a number below m comes, the draw's dict has changed, nothing else -/
def spPick : Sp := fun vs H Q _ => ∃ (d c : Addr) (cs : List Int) (n : Nat) (m : Int), vs = [.ref d, .int m] ∧ DrawAt H d c cs n ∧ 0 < m ∧ m < 1073741824 ∧ n < 1000000000 ∧
  ∀ (v : Int) (H' : Hp), 0 ≤ v → v < m → DrawAt H' d c cs (n + 1) → Keep d H H' → Q (.int v) H'
end FB

namespace FB
open PySem PySem.Spec PyProof.Rows L2
/-! ### data -/
theorem dpall_int {K : PySem.W.Frag} {H : Hp} : ∀ ns : List Int, DpAll K H (ns.map V.int) (ns.map PyData.int)
  | [] => .nil
  | n :: ns => .cons (.int n) (dpall_int ns)
theorem canlay_int : ∀ ns : List Int, PyData.canLayAll0 (ns.map PyData.int) = true
  | [] => rfl
  | n :: ns => by
    show (PyData.canLay0 (.int n) && PyData.canLayAll0 (ns.map PyData.int)) = true
    rw [canlay_int ns]
    rfl
theorem depth_int : ∀ ns : List Int, PyData.depthAll (ns.map PyData.int) ≤ 1
  | [] => by decide
  | n :: ns => by
    have h := depth_int ns
    simp only [List.map_cons, PyData.depthAll, PyData.depth]
    omega
theorem shaped_ints (ns : List Int) : SeqAt.shaped (.list (ns.map PyData.int)) = true := by
  unfold SeqAt.shaped
  have h1 : PyData.canLay0 (.list (ns.map PyData.int)) = true := canlay_int ns
  have h2 := depth_int ns
  rw [h1, decide_eq_true (show (PyData.list (ns.map PyData.int)).depth ≤ 64 by simp only [PyData.depth]; omega)]
  rfl
theorem merge_draw (c : Addr) (a l n : Int) (g : Bool) : mergeK [] (drawKvs c a l n g) = drawKvs c a l n g := by
  unfold mergeK drawKvs
  simp only [List.foldl_cons, List.foldl_nil]
  rw [putK_new (kvs := []) _ rfl]
  rw [putK_new (k := tk "at") _ (by simp only [List.nil_append]; exact (valV_neg k_ca).trans rfl)]
  rw [putK_new (k := tk "left") _ (by simp only [List.nil_append, List.cons_append]; exact (valV_neg k_cl).trans ((valV_neg k_al).trans rfl))]
  rw [putK_new (k := tk "number") _ (by simp only [List.nil_append, List.cons_append]; exact (valV_neg k_cn).trans ((valV_neg k_an).trans ((valV_neg k_ln).trans rfl)))]
  rw [putK_new (k := tk "digits") _ (by simp only [List.nil_append, List.cons_append]; exact (valV_neg k_cd).trans ((valV_neg k_ad).trans ((valV_neg k_ld).trans ((valV_neg k_nd).trans rfl))))]
  rfl
def spDrawn (K : PySem.W.Frag) : Sp := fun vs H Q _ => ∃ (a : Addr) (ns : List Int), vs = [.ref a] ∧ SqL K H a (ns.map V.int) ∧ ns.length ≤ 63 ∧
  ∀ (d c : Addr) (cs : List Int) (H' : Hp), Same H H' → H d = none → DrawAt H' d c cs 0 → Q (.ref d) H'

/-! ### texts -/
def ltS (a b : Str) : Bool := decide (a.cps.toList < b.cps.toList)
/-- whether the span (l, h) has the key k -/
def hasB (l h k : Str) : Bool := !ltS k l && (decide (V.str h = V.str "") || ltS k h)
def IsKey (z : Str) : Prop := 0 < z.length ∧ z.length ≤ 8 ∧ ∀ c ∈ z.cps.toList, 97 ≤ c ∧ c ≤ 122
def spKey : Sp := fun vs H Q _ => ∃ (d c : Addr) (cs : List Int) (n : Nat), vs = [.ref d] ∧ DrawAt H d c cs n ∧ n < 900000000 ∧ ∀ (z : Str) (H' : Hp), IsKey z → DrawAt H' d c cs (n + 11) → Keep d H H' → Q (.str z) H'
def spHas (K : PySem.W.Frag) : Sp := fun vs H Q _ => ∃ (p : Addr) (l h k : Str), vs = [.ref p, .str k] ∧ SqT K H p [.str l, .str h] ∧ Q (.bl (hasB l h k)) H
/-! ### spans -/
abbrev Sp3 := Addr × Str × Str
structure SpansAt (H : Hp) (a : Addr) (zs : List Sp3) : Prop where
  ls : H a = some (.lst (zs.map fun z => V.ref z.1))
  tp : ∀ z ∈ zs, H z.1 = some (.tup [.str z.2.1, .str z.2.2])
theorem SpansAt.keep {H H' : Hp} {a d : Addr} {zs : List Sp3} (h : SpansAt H a zs) (k : Keep d H H') (hd : ∃ kvs, H d = some (.dK kvs)) : SpansAt H' a zs := by
  obtain ⟨kvs, hd⟩ := hd
  exact ⟨k _ _ h.ls (ne_of h.ls hd (by intro z; cases z)), fun z hz => k _ _ (h.tp z hz) (ne_of (h.tp z hz) hd (by intro z; cases z))⟩
theorem SpansAt.same {H H' : Hp} {a : Addr} {zs : List Sp3} (h : SpansAt H a zs) (k : Same H H') : SpansAt H' a zs :=
  ⟨k _ _ h.ls, fun z hz => k _ _ (h.tp z hz)⟩
/-- the pairs of neighbours -/
def nexts : List Str → List (Str × Str)
  | x :: y :: r => (x, y) :: nexts (y :: r)
  | _ => []
def SpanList (zs : List Sp3) : Prop := ∃ ks : List Str, (∀ k ∈ ks, IsKey k) ∧ ks.Pairwise (fun a b => ltS a b = true) ∧ (zs.map (·.2)).Sublist (nexts (("" : Str) :: (ks ++ [("" : Str)]))) ∧ (∀ z ∈ zs, z.2 ≠ (("" : Str), ("a" : Str))) ∧ zs.length ≤ 30
def spSpans : Sp := fun vs H Q _ => ∃ (d c : Addr) (cs : List Int) (n : Nat) (m : Int), vs = [.ref d, .int m] ∧ DrawAt H d c cs n ∧ n < 900000000 - 1000 ∧ 0 < m ∧ m ≤ 20 ∧
  ∀ (l : Addr) (zs : List Sp3) (H' : Hp), SpanList zs → SpansAt H' l zs → DrawAt H' d c cs (n + 500) → Keep d H H' → H l = none → Q (.ref l) H'
def spSpanWith : Sp := fun vs H Q _ => ∃ (a : Addr) (zs : List Sp3) (k : Str), vs = [.ref a, .str k] ∧ SpansAt H a zs ∧
  Q (match zs.find? (fun z => hasB z.2.1 z.2.2 k) with | some z => .ref z.1 | none => .non) H
def spAsked : Sp := fun vs H Q _ => ∃ (d c : Addr) (cs : List Int) (n : Nat) (a : Addr) (zs : List Sp3), vs = [.ref d, .ref a] ∧ DrawAt H d c cs n ∧ n < 900000000 - 1000 ∧ SpansAt H a zs ∧ zs.length ≤ 30 ∧
  ∀ (l : Addr) (ks : List Str) (H' : Hp), (∃ ds : List Str, (∀ k ∈ ds, IsKey k) ∧ ks = ds ++ (zs.map fun z => [z.2.1, z.2.2].filter fun x => !decide (V.str x = V.str "")).flatten) → ks.length ≤ 100 → H' l = some (.lst (ks.map V.str)) → DrawAt H' d c cs (n + 200) → Keep d H H' → H l = none → Q (.ref l) H'
end FB

namespace FB
open PySem PySem.Spec PyProof.Rows L2
/-! ### the order of texts -/
theorem ltS_irrefl (a : Str) : ltS a a = false := decide_eq_false (List.lt_irrefl _)
theorem ltS_trans {a b c : Str} (h : ltS a b = true) (h' : ltS b c = true) : ltS a c = true := decide_eq_true (List.lt_trans (of_decide_eq_true h) (of_decide_eq_true h'))
theorem ltS_asymm {a b : Str} (h : ltS a b = true) : ltS b a = false := by
  cases e : ltS b a with
  | false => rfl
  | true => exact absurd (ltS_trans h e) (by rw [ltS_irrefl]; decide)
theorem ltS_tri {a b : Str} (h : ltS b a = false) (h' : a ≠ b) : ltS a b = true := by
  have h1 : ¬ b.cps.toList < a.cps.toList := of_decide_eq_false h
  apply decide_eq_true
  apply Decidable.byContradiction
  intro h2
  apply h'
  have e : a.cps.toList = b.cps.toList := List.le_antisymm (List.not_lt.mp h1) (List.not_lt.mp h2)
  cases a; cases b
  simp only [Str.mk.injEq]
  exact Array.toList_inj.mp e
theorem strict_of_rising : ∀ (p : Str) (l : List Str), risingS p l = true → (p :: l).Nodup → (p :: l).Pairwise (fun a b => ltS a b = true)
  | p, [], _, _ => by simp
  | p, x :: r, h, nd => by
    have h' : (!ltCps x.cps.toList p.cps.toList && risingS x r) = true := h
    rw [Bool.and_eq_true] at h'
    obtain ⟨h1, h2⟩ := h'
    have nd' := List.nodup_cons.mp nd
    have ih := strict_of_rising x r h2 nd'.2
    have hne : p ≠ x := fun e => nd'.1 (by rw [e]; simp)
    have hlt : ltS p x = true := by
      apply ltS_tri _ hne
      rw [ltCps_eq] at h1
      unfold ltS
      cases e : decide (x.cps.toList < p.cps.toList) with
      | false => rfl
      | true => rw [e] at h1; cases h1
    refine List.pairwise_cons.mpr ⟨fun y hy => ?_, ih⟩
    rcases List.mem_cons.mp hy with rfl | hy
    · exact hlt
    · exact ltS_trans hlt ((List.pairwise_cons.mp ih).1 y hy)
theorem strict_of_sorted (l : List Str) (h : sortedS l = true) (nd : l.Nodup) : l.Pairwise (fun a b => ltS a b = true) := by
  cases l with
  | nil => simp
  | cons p r => exact strict_of_rising p r h nd
theorem inV_str (z : Str) : ∀ ks : List Str, inV (.str z) (ks.map V.str) = decide (z ∈ ks)
  | [] => by simp [inV]
  | k :: r => by
    have ih := inV_str z r
    unfold inV at ih ⊢
    rw [List.map_cons, List.any_cons, ih]
    show ((k == z) || decide (z ∈ r)) = decide (z ∈ k :: r)
    by_cases e : k = z
    · subst e
      simp
    · have e2 : ¬ z = k := fun h => e h.symm
      simp [e, e2]
theorem flat_strs : ∀ ks : List Str, (ks.map V.str).all flatV = true
  | [] => rfl
  | k :: r => by
    rw [List.map_cons, List.all_cons, flat_strs r]
    rfl
theorem nexts_len : ∀ xs : List Str, (nexts xs).length = xs.length - 1
  | [] => rfl
  | [_] => rfl
  | x :: y :: r => by
    show (nexts (y :: r)).length + 1 = (y :: r).length + 1 - 1
    rw [nexts_len (y :: r)]
    simp
theorem nexts_get : ∀ (xs : List Str) (i : Nat) (x y : Str), xs[i]? = some x → xs[i + 1]? = some y → (nexts xs)[i]? = some (x, y)
  | [], _, _, _, h, _ => by simp at h
  | [_], 0, _, _, _, h => by simp at h
  | [_], i + 1, _, _, h, _ => by simp at h
  | a :: b :: r, 0, x, y, h, h2 => by
    have e1 : a = x := Option.some.inj h
    have e2 : b = y := Option.some.inj h2
    rw [← e1, ← e2]
    rfl
  | a :: b :: r, i + 1, x, y, h, h2 => nexts_get (b :: r) i x y h h2
theorem cut1 (xs : List V) : cutV xs (some 1) none = xs.drop 1 := by
  unfold cutV
  rw [show HT.sIx xs.length 0 (some 1) = min 1 xs.length from HT.sIx_nat xs.length 0 1, HT.sIx_none]
  cases xs with
  | nil => rfl
  | cons x r =>
    rw [show min 1 (x :: r).length = 1 by
      rw [List.length_cons]
      omega]
    show (List.take ((x :: r).length - 1) r) = r
    rw [List.length_cons, Nat.add_sub_cancel]
    exact List.take_length
/-- zip of two lists of any lengths: n turns -/
theorem for_zipG {K : PySem.W.Frag} {a b : Addr} {xs ys : List V} {g : TG} {tb : TS} {D : Ends} {σ : L2.St} {H : Hp} (n : Nat) (hx : n ≤ xs.length) (hy : n ≤ ys.length) (he : xs.length ≤ n ∨ ys.length ≤ n) (Pv : Nat → L2.St → Hp → Prop) (h0 : Pv 0 σ H) (hq : ∀ i σ H, Pv i σ H → SqL K H a xs ∧ SqL K H b ys)
    (hs : ∀ (i : Nat) (x y : V) (T : Addr) (σ : L2.St) (H : Hp), xs[i]? = some x → ys[i]? = some y → Pv i σ H → H T = none → g (.ref T) σ (upd H T (.tup [x, y])) fun σ2 H2 => tb { D with nx := Pv (i + 1), ct := Pv (i + 1), bk := D.nx } σ2 H2) (hd : ∀ σ H, Pv n σ H → D.nx σ H) :
    ∃ W : Nat → Nat → L2.St → Hp → Prop, (∃ m, W 0 m σ H) ∧ ∀ i m σ H, W i m σ H →
      ((Itz K a b).stop i H ∧ D.nx σ H) ∨ ((Itz K a b).go i H ∧ ∃ N : L2.St → Hp → Prop, (∀ σ' H', N σ' H' → ∃ m', m' < m ∧ W (i + 1) m' σ' H') ∧ ∀ v H', (Itz K a b).yld i H v H' → g v σ H' fun σ2 H2 => tb { D with nx := N, ct := N, bk := D.nx } σ2 H2) := by
  refine ⟨fun i m σ H => m = n - i ∧ i ≤ n ∧ Pv i σ H, ⟨n, rfl, Nat.zero_le _, h0⟩, ?_⟩
  rintro i m σ H ⟨rfl, hi, p⟩
  obtain ⟨qx, qy⟩ := hq i σ H p
  by_cases hlt : i < n
  · have h1 : xs[i]? = some (xs[i]'(by omega)) := List.getElem?_eq_getElem _
    have h2 : ys[i]? = some (ys[i]'(by omega)) := List.getElem?_eq_getElem _
    refine .inr ⟨⟨xs, ys, _, _, qx, qy, h1, h2⟩, Pv (i + 1), fun σ' H' p' => ⟨n - (i + 1), by omega, rfl, hlt, p'⟩, fun v H' y => ?_⟩
    obtain ⟨T, x', y', rfl, hT, rfl, f1, f2⟩ := y
    exact hs i x' y' T σ H (f1 xs qx) (f2 ys qy) p hT
  · have e : i = n := by omega
    subst e
    exact .inl ⟨⟨xs, ys, qx, qy, he⟩, hd σ H p⟩
/-! ### texts that are keys or empty -/
def KeyOr (z : Str) : Prop := z = "" ∨ IsKey z
theorem KeyOr.ok {z : Str} (h : KeyOr z) : PyData.strOk z = true := by
  rcases h with rfl | ⟨_, _, h⟩
  · decide +kernel
  · unfold PyData.strOk
    rw [Array.all_eq_true']
    intro c hc
    have := h c (Array.mem_toList_iff.mpr hc)
    exact decide_eq_true (by omega)
theorem shaped2 {x y : Str} (hx : KeyOr x) (hy : KeyOr y) : SeqAt.shaped (.tuple [.str x, .str y]) = true := by
  simp [SeqAt.shaped, PyData.canLay0, PyData.canLayAll0, PyData.depth, PyData.depthAll, hx.ok, hy.ok]
theorem key_a : KeyOr "a" := .inr (by unfold IsKey; decide +kernel)
theorem nexts_mem : ∀ (xs : List Str) (p : Str × Str), p ∈ nexts xs → p.1 ∈ xs ∧ p.2 ∈ xs
  | [], _, h => by simp [nexts] at h
  | [_], _, h => by simp [nexts] at h
  | a :: b :: r, p, h => by
    rcases List.mem_cons.mp h with rfl | h
    · simp
    · obtain ⟨h1, h2⟩ := nexts_mem (b :: r) p h
      exact ⟨List.mem_cons_of_mem _ h1, List.mem_cons_of_mem _ h2⟩
theorem full_keys {ys : List Str} (h : ∀ k ∈ ys, IsKey k) : ∀ z ∈ (("" : Str) :: (ys ++ [("" : Str)])), KeyOr z := fun z hz => by
  have : z = "" ∨ z ∈ ys ∨ z = "" := by simpa using hz
  rcases this with q | q | q
  · exact .inl q
  · exact .inr (h z q)
  · exact .inl q
theorem SpanList.keys {zs : List Sp3} (h : SpanList zs) : ∀ z ∈ zs, KeyOr z.2.1 ∧ KeyOr z.2.2 := fun z hz => by
  obtain ⟨ks, h1, _, h3, _⟩ := h
  have hm : z.2 ∈ nexts (("" : Str) :: (ks ++ [("" : Str)])) := h3.subset (List.mem_map.mpr ⟨z, hz, rfl⟩)
  obtain ⟨a, b⟩ := nexts_mem _ _ hm
  exact ⟨full_keys h1 _ a, full_keys h1 _ b⟩
end FB

namespace FB
open PySem PySem.Spec PyProof.Rows L2
/-! ### max of two and of three texts -/
section
variable {prog : Program} {w : World} {A : Around} {E : Value → Shared → Prop} {s : Shared}
theorem cmp_strs {P : Nat → Value → Prop} (val : Nat → Str) (hval : ∀ i v, P i v → ∃ t, v = .str (val i) t) : CmpOf prog w A .Gt P (fun i j => ltS (val j) (val i)) := fun i j vi vj s Q E hi hj h => by
  obtain ⟨t, rfl⟩ := hval i vi hi
  obtain ⟨u, rfl⟩ := hval j vj hj
  exact PySem.P.gt_str (t := t) (u := u) h
theorem max_two_strs {a b : Str} {t u : Tok} {Q : Value → Shared → Prop} (hh : A.handled = none)
    (h : ∀ h' tk, (∀ c o, s.heap.get? c = some o → h'.get? c = some o) → Q (if ltS a b = true then .str b u else .str a t) { s with heap := h', toks := tk }) :
    wpAny (model prog w) A (call (.builtin "max") [.str a t, .str b u]) Q E s := by
  have hT : (s.heap.push { cls := .type "tuple", data := .seq #[.str a t, .str b u] }).IsTuple s.heap.objs.size #[.str a t, .str b u] := ⟨_, Heap.get?_push_size _ rfl, rfl, 0, rfl⟩
  refine call_max_two (wpAny_pyIter_tuple hT ?_)
  have hsz : (s.heap.push { cls := .type "tuple", data := .seq #[.str a t, .str b u] }).objs.size = s.heap.objs.size + 1 := Heap.size_push ..
  refine ⟨_, [_, s.heap.objs.size], [_], _, _, _, _, rfl, Walks.tuple (A := A.in1) hh _ s.heap.objs.size (by rw [hsz]; exact Nat.ne_of_lt (Nat.lt_succ_self _)) #[.str a t, .str b u],
    ⟨⟨_, Heap.get?_push_size _ rfl, rfl, rfl⟩, hT.push _⟩, fun c hc => ?_, by simp, cmp_strs (fun i => if i = 0 then a else b) (fun i v hv => ?_), fun v h' tk hP hk => ?_⟩
  · show c < ((s.heap.push _).push _).objs.size
    rw [Heap.size_push, hsz]
    rcases List.mem_cons.mp hc with rfl | hc
    · rw [hsz]; exact Nat.lt_succ_self _
    · rcases List.mem_cons.mp hc with rfl | hc
      · exact Nat.lt_succ_of_lt (Nat.lt_succ_self _)
      · cases hc
  · match i, hv with
    | 0, hv => exact ⟨t, by simpa using hv.symm⟩
    | 1, hv => exact ⟨u, by simpa using hv.symm⟩
    | n + 2, hv => simp at hv
  · have hold : ∀ d o, s.heap.get? d = some o → h'.get? d = some o := fun d o e => by
      refine hk d o (fun hm => ?_) (Heap.get?_push_of_some _ (Heap.get?_push_of_some _ e))
      rcases List.mem_cons.mp hm with e1 | hm
      · have := Heap.lt_size e; rw [e1, hsz] at this; exact Nat.lt_irrefl _ (Nat.lt_of_succ_lt this)
      · cases hm
    have := h h' tk hold
    have hv : v = if ltS a b = true then Value.str b u else Value.str a t := by
      have hP' : (#[Value.str a t, .str b u])[argBest (fun i j => ltS (if j = 0 then a else b) (if i = 0 then a else b)) 1]? = some v := hP
      by_cases hba : ltS a b = true
      · have e : argBest (fun i j => ltS (if j = 0 then a else b) (if i = 0 then a else b)) 1 = 1 := by simp [argBest, hba]
        rw [e] at hP'
        simpa [hba] using hP'.symm
      · have e : argBest (fun i j => ltS (if j = 0 then a else b) (if i = 0 then a else b)) 1 = 0 := by simp [argBest, hba]
        rw [e] at hP'
        simpa [hba] using hP'.symm
    rw [hv]
    exact this
theorem max_three_strs {a b c : Str} {t u x : Tok} {Q : Value → Shared → Prop} (hh : A.handled = none)
    (h : ∀ h' tk, (∀ d o, s.heap.get? d = some o → h'.get? d = some o) → Q (if ltS a b = true then (if ltS b c = true then .str c x else .str b u) else (if ltS a c = true then .str c x else .str a t)) { s with heap := h', toks := tk }) :
    wpAny (model prog w) A (call (.builtin "max") [.str a t, .str b u, .str c x]) Q E s := by
  have hT : (s.heap.push { cls := .type "tuple", data := .seq #[.str a t, .str b u, .str c x] }).IsTuple s.heap.objs.size #[.str a t, .str b u, .str c x] := ⟨_, Heap.get?_push_size _ rfl, rfl, 0, rfl⟩
  refine call_max_three (wpAny_pyIter_tuple hT ?_)
  have hsz : (s.heap.push { cls := .type "tuple", data := .seq #[.str a t, .str b u, .str c x] }).objs.size = s.heap.objs.size + 1 := Heap.size_push ..
  refine ⟨_, [_, s.heap.objs.size], [_], _, _, _, _, rfl, Walks.tuple (A := A.in1) hh _ s.heap.objs.size (by rw [hsz]; exact Nat.ne_of_lt (Nat.lt_succ_self _)) #[.str a t, .str b u, .str c x],
    ⟨⟨_, Heap.get?_push_size _ rfl, rfl, rfl⟩, hT.push _⟩, fun d hd => ?_, by simp, cmp_strs (fun i => if i = 0 then a else if i = 1 then b else c) (fun i v hv => ?_), fun v h' tk hP hk => ?_⟩
  · show d < ((s.heap.push _).push _).objs.size
    rw [Heap.size_push, hsz]
    rcases List.mem_cons.mp hd with rfl | hd
    · rw [hsz]; exact Nat.lt_succ_self _
    · rcases List.mem_cons.mp hd with rfl | hd
      · exact Nat.lt_succ_of_lt (Nat.lt_succ_self _)
      · cases hd
  · match i, hv with
    | 0, hv => exact ⟨t, by simpa using hv.symm⟩
    | 1, hv => exact ⟨u, by simpa using hv.symm⟩
    | 2, hv => exact ⟨x, by simpa using hv.symm⟩
    | n + 3, hv => simp at hv
  · have hold : ∀ d o, s.heap.get? d = some o → h'.get? d = some o := fun d o e => by
      refine hk d o (fun hm => ?_) (Heap.get?_push_of_some _ (Heap.get?_push_of_some _ e))
      rcases List.mem_cons.mp hm with e1 | hm
      · have := Heap.lt_size e; rw [e1, hsz] at this; exact Nat.lt_irrefl _ (Nat.lt_of_succ_lt this)
      · cases hm
    have := h h' tk hold
    have hv : v = if ltS a b = true then (if ltS b c = true then Value.str c x else .str b u) else (if ltS a c = true then .str c x else .str a t) := by
      have hP' : (#[Value.str a t, .str b u, .str c x])[argBest (fun i j => ltS (if j = 0 then a else if j = 1 then b else c) (if i = 0 then a else if i = 1 then b else c)) 2]? = some v := hP
      by_cases hba : ltS a b = true
      · by_cases hc : ltS b c = true
        · have e : argBest (fun i j => ltS (if j = 0 then a else if j = 1 then b else c) (if i = 0 then a else if i = 1 then b else c)) 2 = 2 := by simp [argBest, hba, hc]
          rw [e] at hP'
          simpa [hba, hc] using hP'.symm
        · have e : argBest (fun i j => ltS (if j = 0 then a else if j = 1 then b else c) (if i = 0 then a else if i = 1 then b else c)) 2 = 1 := by simp [argBest, hba, hc]
          rw [e] at hP'
          simpa [hba, hc] using hP'.symm
      · by_cases hc : ltS a c = true
        · have e : argBest (fun i j => ltS (if j = 0 then a else if j = 1 then b else c) (if i = 0 then a else if i = 1 then b else c)) 2 = 2 := by simp [argBest, hba, hc]
          rw [e] at hP'
          simpa [hba, hc] using hP'.symm
        · have e : argBest (fun i j => ltS (if j = 0 then a else if j = 1 then b else c) (if i = 0 then a else if i = 1 then b else c)) 2 = 0 := by simp [argBest, hba, hc]
          rw [e] at hP'
          simpa [hba, hc] using hP'.symm
    rw [hv]
    exact this
end
def maxS (a b : Str) : Str := if ltS a b = true then b else a
section
variable {X : Cx}
theorem call_max2S (hc : X.calm = true) : CallR X (.builtin "max") (fun xs H Q => ∃ i j, xs = [.str i, .str j] ∧ Q (.str (maxS i j)) H) := by
  intro pins s σ H xs us Q I r h
  obtain ⟨i, j, rfl, q⟩ := h
  obtain ⟨u, w', rfl, ⟨t, rfl⟩, ⟨t', rfl⟩⟩ := vals2 r
  refine max_two_strs (I.ok.hd hc) fun h' tk k => ⟨_, H, I.kept k, ?_, q⟩
  unfold maxS
  by_cases hj : ltS i j = true
  · rw [if_pos hj, if_pos hj]; exact ⟨_, rfl⟩
  · rw [if_neg hj, if_neg hj]; exact ⟨_, rfl⟩
theorem call_max3S (hc : X.calm = true) : CallR X (.builtin "max") (fun xs H Q => ∃ i j k, xs = [.str i, .str j, .str k] ∧ Q (.str (maxS (maxS i j) k)) H) := by
  intro pins s σ H xs us Q I r h
  obtain ⟨i, j, k, rfl, q⟩ := h
  cases r with
  | cons r1 r2 =>
    obtain ⟨u, w', rfl, ⟨t', rfl⟩, ⟨t'', rfl⟩⟩ := vals2 r2
    obtain ⟨t, rfl⟩ := r1
    refine max_three_strs (I.ok.hd hc) fun h' tk k' => ⟨_, H, I.kept k', ?_, q⟩
    unfold maxS
    by_cases hj : ltS i j = true
    · rw [if_pos hj, if_pos hj]
      by_cases hk : ltS j k = true
      · rw [if_pos hk, if_pos hk]; exact ⟨_, rfl⟩
      · rw [if_neg hk, if_neg hk]; exact ⟨_, rfl⟩
    · rw [if_neg hj, if_neg hj]
      by_cases hk : ltS i k = true
      · rw [if_pos hk, if_pos hk]; exact ⟨_, rfl⟩
      · rw [if_neg hk, if_neg hk]; exact ⟨_, rfl⟩
/-! ### rules whose written part is named -/
variable {K : PySem.W.Frag}
theorem ix_listK (h : X.K = K) : IxR X (rIxL K) := h ▸ ix_list
theorem ix_tupK (h : X.K = K) : IxR X (rIxT K) := h ▸ ix_tup
theorem sl_listK (h : X.K = K) : SlR X (rSlL K) := h ▸ sl_list
theorem op_in_seqK (h : X.K = K) : OpR X (compareOp .In) (rIn K false) := h ▸ op_in_seq
theorem op_notIn_seqK (h : X.K = K) : OpR X (compareOp .NotIn) (rIn K true) := h ▸ op_notIn_seq
theorem op_eqDK (h : X.K = K) (hu : X.A.units + 64 < cLine) : OpR X (compareOp .Eq) (rEqD K) := h ▸ op_eqD hu
theorem op_neDK (h : X.K = K) (hu : X.A.units + 64 < cLine) : OpR X (compareOp .NotEq) (rNeD K) := h ▸ op_neD hu
theorem call_isiK' (h : X.K = K) : CallR X (.builtin "isinstance") (rIsi K) := h ▸ call_isi
theorem call_len_seqK (h : X.K = K) : CallR X (.builtin "len") (fun xs H Q => ∃ p ys, xs = [.ref p] ∧ (SqL K H p ys ∨ SqT K H p ys) ∧ Q (.int ys.length) H) := h ▸ call_len_seq
end
end FB

namespace FB
open PySem PySem.Spec PyProof.Rows L2
/-! ### joined spans -/
abbrev Sp2 := Str × Str
theorem nil_or_snoc {α : Type} (A : List α) : A = [] ∨ ∃ B p, A = B ++ [p] := by
  rcases List.eq_nil_or_concat A with h | ⟨B, p, h⟩
  · exact .inl h
  · exact .inr ⟨B, p, by rw [h, List.concat_eq_append]⟩
def jstep (k : Str) (acc : List Sp2) (z : Sp2) : List Sp2 :=
  match acc.getLast? with
  | some p => if p.2 = k ∧ z.1 = k then acc.dropLast ++ [(p.1, z.2)] else acc ++ [z]
  | none => acc ++ [z]
theorem jstep_nil (k : Str) (z : Sp2) : jstep k [] z = [z] := rfl
theorem jstep_yes {k : Str} {A : List Sp2} {p z : Sp2} (h : p.2 = k ∧ z.1 = k) : jstep k (A ++ [p]) z = A ++ [(p.1, z.2)] := by
  unfold jstep
  rw [List.getLast?_concat]
  simp only [if_pos h, List.dropLast_concat]
theorem jstep_no {k : Str} {A : List Sp2} {p z : Sp2} (h : ¬ (p.2 = k ∧ z.1 = k)) : jstep k (A ++ [p]) z = A ++ [p] ++ [z] := by
  unfold jstep
  rw [List.getLast?_concat]
  simp only [if_neg h]
theorem jstep_low {k : Str} {A : List Sp2} {z : Sp2} (h : z.1 ≠ k) : jstep k A z = A ++ [z] := by
  rcases nil_or_snoc A with rfl | ⟨B, p, rfl⟩
  · rfl
  · exact jstep_no fun q => h q.2
theorem jfold_low {k : Str} : ∀ (L acc : List Sp2), (∀ z ∈ L, z.1 ≠ k) → L.foldl (jstep k) acc = acc ++ L
  | [], acc, _ => by simp
  | z :: r, acc, h => by
    rw [List.foldl_cons, jstep_low (h z (by simp)), jfold_low r _ fun y hy => h y (by simp [hy]), List.append_assoc]
    rfl
structure Good (L : List Sp2) : Prop where
  pw : L.Pairwise (fun p q => p.2 ≠ ("" : Str) ∧ ltS q.1 p.2 = false)
  up : ∀ p ∈ L, p.2 = ("" : Str) ∨ ltS p.1 p.2 = true
theorem nexts_fst : ∀ (x : Str) (r : List Str) (q : Sp2), q ∈ nexts (x :: (r ++ [("" : Str)])) → q.1 ∈ x :: r
  | x, [], q, h => by
    have : q = (x, ("" : Str)) := by simpa [nexts] using h
    rw [this]
    simp
  | x, y :: r, q, h => by
    rcases List.mem_cons.mp h with rfl | h
    · simp
    · exact List.mem_cons_of_mem _ (nexts_fst y r q h)
theorem good_nexts : ∀ (x : Str) (ys : List Str), (x :: ys).Pairwise (fun a b => ltS a b = true) → (∀ y ∈ ys, y ≠ ("" : Str)) → Good (nexts (x :: (ys ++ [("" : Str)])))
  | x, [], _, _ => ⟨by simp [nexts], fun p hp => .inl (by have : p = (x, ("" : Str)) := by simpa [nexts] using hp
                                                          rw [this])⟩
  | x, y :: r, hp, hy => by
    obtain ⟨h1, h2⟩ := List.pairwise_cons.mp hp
    obtain ⟨g1, g2⟩ := good_nexts y r h2 fun z hz => hy z (by simp [hz])
    refine ⟨List.pairwise_cons.mpr ⟨fun q hq => ⟨hy y (by simp), ?_⟩, g1⟩, fun p hp => ?_⟩
    · have hm := nexts_fst y r q hq
      rcases List.mem_cons.mp hm with e | e
      · rw [e]
        exact ltS_irrefl _
      · exact ltS_asymm ((List.pairwise_cons.mp h2).1 _ e)
    · rcases List.mem_cons.mp hp with rfl | hp
      · exact .inr (h1 y (by simp))
      · exact g2 p hp
theorem Good.sub {L L' : List Sp2} (h : Good L) (s : L'.Sublist L) : Good L' := ⟨h.pw.sublist s, fun p hp => h.up p (s.subset hp)⟩
theorem ltS_ne {a b : Str} (h : ltS a b = true) : a ≠ b := fun e => by
  rw [e, ltS_irrefl] at h
  cases h
/-- not less, and less: less -/
theorem lt_of_nlt {a b c : Str} (h : ltS b a = false) (h' : ltS b c = true) : ltS a c = true ∨ a = b := by
  by_cases e : a = b
  · exact .inr e
  · exact .inl (ltS_trans (ltS_tri h e) h')
def dueJ (k : Str) (L : List Sp2) : List Sp2 :=
  match L.filter (fun p => decide (p.2 = k)), L.filter (fun p => decide (p.1 = k)) with
  | e :: _, b :: _ => (L.filter (fun p => decide (p ≠ b))).map fun p => if p = e then (e.1, b.2) else p
  | _, _ => L
theorem filter_none {α : Type} {p : α → Bool} {l : List α} (h : ∀ x ∈ l, p x = false) : l.filter p = [] := by
  rw [List.filter_eq_nil_iff]
  intro x hx
  rw [h x hx]
  decide
theorem filter_all {α : Type} {p : α → Bool} {l : List α} (h : ∀ x ∈ l, p x = true) : l.filter p = l := List.filter_eq_self.mpr h
theorem map_id_on {α : Type} {g : α → α} {l : List α} (h : ∀ x ∈ l, g x = x) : l.map g = l := by
  induction l with
  | nil => rfl
  | cons x r ih => rw [List.map_cons, h x (by simp), ih fun y hy => h y (by simp [hy])]
theorem join_due {k : Str} {L : List Sp2} (g : Good L) (hk : k ≠ ("" : Str)) : L.foldl (jstep k) [] = dueJ k L := by
  by_cases hex : ∃ q ∈ L, q.1 = k
  · obtain ⟨q, hq, rfl⟩ := hex
    obtain ⟨A, C, rfl⟩ := List.append_of_mem hq
    have pw := List.pairwise_append.mp g.pw
    have pC := (List.pairwise_cons.mp pw.2.1).1
    have upq := g.up q (by simp)
    -- what stands behind q
    have hqlt : ∀ x ∈ C, ltS q.1 q.2 = true := fun x hx => upq.resolve_left (pC x hx).1
    have hC1 : ∀ x ∈ C, x.1 ≠ q.1 := fun x hx e => by
      have := (pC x hx).2
      rw [e, hqlt x hx] at this
      cases this
    have hq2 : q.2 ≠ q.1 := fun e => by
      rcases upq with h | h
      · exact hk (e ▸ h)
      · exact ltS_ne h e.symm
    have hC2 : ∀ x ∈ C, x.2 ≠ q.1 := fun x hx e => by
      rcases g.up x (by simp [hx]) with h | h
      · exact hk (e ▸ h)
      · have h1 := (pC x hx).2
        have h2 := hqlt x hx
        by_cases e2 : q.2 = x.1
        · rw [← e2, e] at h
          rw [ltS_asymm h2] at h
          cases h
        · have h3 := ltS_tri h1 e2
          have h4 := ltS_trans h2 (ltS_trans h3 h)
          rw [e, ltS_irrefl] at h4
          cases h4
    -- what stands ahead of q
    have hA : ∀ x ∈ A, x.2 ≠ ("" : Str) ∧ ltS q.1 x.2 = false := fun x hx => pw.2.2 x hx q (by simp)
    have hAl : ∀ x ∈ A, ltS x.1 x.2 = true := fun x hx => (g.up x (by simp [hx])).resolve_left (hA x hx).1
    have hA1 : ∀ x ∈ A, x.1 ≠ q.1 := fun x hx e => by
      have h1 := hAl x hx
      rw [e, (hA x hx).2] at h1
      cases h1
    have ef : (A ++ q :: C).foldl (jstep q.1) [] = jstep q.1 A q ++ C := by
      rw [List.foldl_append, List.foldl_cons, jfold_low A [] hA1, List.nil_append, jfold_low C _ hC1]
    have eb : (A ++ q :: C).filter (fun p => decide (p.1 = q.1)) = [q] := by
      rw [List.filter_append, List.filter_cons, if_pos (decide_eq_true rfl), filter_none fun x hx => decide_eq_false (hA1 x hx), filter_none fun x hx => decide_eq_false (hC1 x hx)]
      rfl
    rw [ef]
    unfold dueJ
    rw [eb]
    rcases nil_or_snoc A with rfl | ⟨B, p, rfl⟩
    · have ee : (([] : List Sp2) ++ q :: C).filter (fun p => decide (p.2 = q.1)) = [] := filter_none fun x hx => by
        rcases List.mem_cons.mp hx with rfl | hx
        · exact decide_eq_false hq2
        · exact decide_eq_false (hC2 x hx)
      rw [ee, jstep_nil]
      rfl
    · have hB2 : ∀ x ∈ B, x.2 ≠ q.1 := fun x hx e => by
        have h1 := (List.pairwise_append.mp pw.1).2.2 x hx p (by simp)
        have h2 := hAl p (by simp)
        rw [e] at h1
        have h3 := (hA p (by simp)).2
        rcases lt_of_nlt h1.2 h2 with h4 | h4
        · rw [h4] at h3
          cases h3
        · rw [h4, h2] at h3
          cases h3
      have hBC : ∀ x ∈ q :: C, x.2 ≠ q.1 := fun x hx => by
        rcases List.mem_cons.mp hx with rfl | hx
        · exact hq2
        · exact hC2 x hx
      by_cases hp : p.2 = q.1
      · have ee : (B ++ [p] ++ q :: C).filter (fun p => decide (p.2 = q.1)) = [p] := by
          rw [List.filter_append, List.filter_append, filter_none fun x hx => decide_eq_false (hB2 x hx), filter_none fun x hx => decide_eq_false (hBC x hx), List.filter_cons, if_pos (decide_eq_true hp)]
          rfl
        have en : (B ++ [p] ++ q :: C).filter (fun x => decide (x ≠ q)) = B ++ [p] ++ C := by
          rw [List.filter_append, List.filter_cons, if_neg (by simp), filter_all (l := B ++ [p]) fun x hx => decide_eq_true (show x ≠ q from fun e => hA1 x hx (by rw [e])), filter_all (l := C) fun x hx => decide_eq_true (show x ≠ q from fun e => hC1 x hx (by rw [e]))]
        rw [ee, jstep_yes ⟨hp, rfl⟩]
        simp only
        rw [en, List.map_append, List.map_append, map_id_on fun x hx => if_neg fun e => hB2 x hx (by rw [e]; exact hp), map_id_on (l := C) fun x hx => if_neg fun e => hC2 x hx (by rw [e]; exact hp), List.map_singleton, if_pos rfl]
      · have ee : (B ++ [p] ++ q :: C).filter (fun p => decide (p.2 = q.1)) = [] := by
          rw [List.filter_append, List.filter_append, filter_none fun x hx => decide_eq_false (hB2 x hx), filter_none fun x hx => decide_eq_false (hBC x hx), List.filter_cons, if_neg (by rw [decide_eq_false hp]; decide)]
          rfl
        rw [ee, jstep_no fun h => hp h.1, List.append_assoc]
        rfl
  · have hn : ∀ z ∈ L, z.1 ≠ k := fun z hz e => hex ⟨z, hz, e⟩
    rw [jfold_low L [] hn, List.nil_append]
    unfold dueJ
    rw [filter_none (p := fun p => decide (p.1 = k)) fun x hx => decide_eq_false (hn x hx)]
    split
    · rename_i h
      cases h
    · rfl
theorem good_spans {zs : List Sp3} (h : SpanList zs) : Good (zs.map (·.2)) := by
  obtain ⟨ks, h1, h2, h3, _⟩ := h
  have g : Good (nexts (("" : Str) :: (ks ++ [("" : Str)]))) := by
    refine good_nexts "" ks (List.pairwise_cons.mpr ⟨fun y hy => ?_, h2⟩) fun y hy e => ?_
    · have hy' := h1 y hy
      refine ltS_tri ?_ fun e => ?_
      · apply decide_eq_false
        have ea : ("" : Str).cps.toList = [] := by decide +kernel
        rw [ea]
        exact List.not_lt_nil _
      · rw [← e] at hy'
        exact absurd hy'.1 (by decide +kernel)
    · have hy' := h1 y hy
      rw [e] at hy'
      exact absurd hy'.1 (by decide +kernel)
  exact g.sub h3
end FB

namespace FB
open PySem PySem.Spec PyProof.Rows L2
/-! ### every key kept -/
def akF (u : Str) : List Sp2 → Bool
  | [] => false
  | p :: r => if ltS u p.1 = true then false else if p.2 = "" then true else akF (maxS u p.2) r
def keptL (L : List Sp2) (e : Str) : Bool := L.any fun p => hasB p.1 p.2 e
def highs (L : List Sp2) : List Str := (L.map (·.2)).filter fun x => !decide (V.str x = V.str "")
theorem highs_mem {L : List Sp2} {e : Str} (h : e ∈ highs L) : ∃ p ∈ L, p.2 = e ∧ e ≠ "" := by
  obtain ⟨h1, h2⟩ := List.mem_filter.mp h
  obtain ⟨p, hp, rfl⟩ := List.mem_map.mp h1
  refine ⟨p, hp, rfl, fun e => ?_⟩
  rw [e, decide_eq_true rfl] at h2
  cases h2
theorem highs_of {L : List Sp2} {p : Sp2} (h : p ∈ L) (h' : p.2 ≠ "") : p.2 ∈ highs L := List.mem_filter.mpr ⟨List.mem_map.mpr ⟨p, h, rfl⟩, by
  rw [decide_eq_false fun e => h' (V.str.inj e)]
  rfl⟩
theorem has_yes {l h k : Str} (h1 : ltS k l = false) (h2 : h = "" ∨ ltS k h = true) : hasB l h k = true := by
  unfold hasB
  rw [h1]
  rcases h2 with e | e
  · rw [decide_eq_true (congrArg V.str e)]
    rfl
  · rw [e]
    simp
theorem has_no1 {l h k : Str} (h1 : ltS k l = true) : hasB l h k = false := by
  unfold hasB
  rw [h1]
  rfl
theorem has_no2 {l h k : Str} (h1 : h ≠ "") (h2 : ltS k h = false) : hasB l h k = false := by
  unfold hasB
  rw [h2, decide_eq_false fun e => h1 (V.str.inj e)]
  simp
theorem lt_key_a {l : Str} (h : KeyOr l) (h' : ltS l "a" = true) (ka : ∀ k, IsKey k → ltS k "a" = false) : l = "" := by
  rcases h with e | e
  · exact e
  · rw [ka l e] at h'
    cases h'
theorem ak_all (ka : ∀ k, IsKey k → ltS k "a" = false) {L : List Sp2} (g : Good L) (hk : ∀ p ∈ L, KeyOr p.1 ∧ KeyOr p.2) (hna : ∀ p ∈ L, p ≠ (("" : Str), ("a" : Str))) :
    ∀ (R A : List Sp2) (u : Str), L = A ++ R → (A = [] ∧ u = "a" ∨ ∃ B p, A = B ++ [p] ∧ u = p.2) → u ≠ "" → (∀ p ∈ A, p.2 ≠ "" ∧ ltS u p.2 = false) → (∀ e : Str, e = ("a" : Str) ∨ e ∈ highs A → e = u ∨ keptL L e = true) →
      akF u R = ((("a" : Str) :: highs L).all (keptL L))
  | [], A, u, hL, hu, hu0, hA, _ => by
    have hno : keptL L u = false := by
      unfold keptL
      rw [List.any_eq_false]
      intro p hp
      rw [hL, List.append_nil] at hp
      rw [has_no2 (hA p hp).1 (hA p hp).2]
      decide
    symm
    show _ = false
    rw [List.all_eq_false]
    refine ⟨u, ?_, by rw [hno]; decide⟩
    rcases hu with ⟨_, h⟩ | ⟨B, p, h, h'⟩
    · rw [h]
      simp
    · rw [h']
      refine List.mem_cons_of_mem _ (highs_of (by rw [hL, h]; simp) (by rw [← h']; exact hu0))
  | q :: r, A, u, hL, hu, hu0, hA, hE => by
    have gL := g
    rw [hL] at gL
    have pw := List.pairwise_append.mp gL.pw
    have pr := (List.pairwise_cons.mp pw.2.1).1
    have upq := gL.up q (by simp)
    have umem : u ∈ (("a" : Str) :: highs L) := by
      rcases hu with ⟨_, h⟩ | ⟨B, p, h, h'⟩
      · rw [h]
        simp
      · rw [h']
        refine List.mem_cons_of_mem _ (highs_of (by rw [hL, h]; simp) (by rw [← h']; exact hu0))
    unfold akF
    by_cases h1 : ltS u q.1 = true
    · rw [if_pos h1]
      symm
      rw [List.all_eq_false]
      refine ⟨u, umem, ?_⟩
      have hno : keptL L u = false := by
        unfold keptL
        rw [List.any_eq_false]
        intro p hp
        rw [hL] at hp
        rcases List.mem_append.mp hp with m | m
        · rw [has_no2 (hA p m).1 (hA p m).2]
          decide
        · have : ltS u p.1 = true := by
            rcases List.mem_cons.mp m with rfl | m
            · exact h1
            · have h2 := pr p m
              have h3 := upq.resolve_left h2.1
              by_cases e : q.2 = p.1
              · rw [← e]
                exact ltS_trans h1 h3
              · exact ltS_trans h1 (ltS_trans h3 (ltS_tri h2.2 e))
          rw [has_no1 this]
          decide
      rw [hno]
      decide
    · rw [if_neg h1]
      have h1' : ltS u q.1 = false := Bool.eq_false_iff.mpr h1
      by_cases h2 : q.2 = ""
      · rw [if_pos h2]
        symm
        rw [List.all_eq_true]
        have hr : r = [] := by
          cases r with
          | nil => rfl
          | cons x _ => exact absurd h2 (pr x (by simp)).1
        subst hr
        have hkq : ∀ e, e = u → keptL L e = true := fun e he => by
          unfold keptL
          rw [List.any_eq_true]
          exact ⟨q, by rw [hL]; simp, has_yes (by rw [he]; exact h1') (.inl h2)⟩
        intro e he
        have he' : e = ("a" : Str) ∨ e ∈ highs A := by
          rcases List.mem_cons.mp he with h | h
          · exact .inl h
          · obtain ⟨p, hp, rfl, hp0⟩ := highs_mem h
            rw [hL] at hp
            rcases List.mem_append.mp hp with m | m
            · exact .inr (highs_of m hp0)
            · rw [show p = q by simpa using m] at hp0
              exact absurd h2 hp0
        rcases hE e he' with h | h
        · exact hkq e h
        · exact h
      · rw [if_neg h2]
        have hlh := upq.resolve_left h2
        have hqm : q ∈ L := by rw [hL]; simp
        have huq : ltS u q.2 = true := by
          rcases hu with ⟨hA0, h⟩ | ⟨B, p, h, h'⟩
          · rw [h]
            refine ltS_tri (ka _ ((hk q hqm).2.resolve_left h2)) fun e => ?_
            rw [← e] at hlh
            have := lt_key_a (hk q hqm).1 hlh ka
            exact hna q hqm (by
              cases q
              simp only at this e
              rw [this, e])
          · have h3 := pw.2.2 p (by rw [h]; simp) q (by simp)
            rw [← h'] at h3
            by_cases e : u = q.1
            · rw [e]
              exact hlh
            · exact ltS_trans (ltS_tri h3.2 e) hlh
        have hmax : maxS u q.2 = q.2 := if_pos huq
        rw [hmax]
        refine ak_all ka g hk hna r (A ++ [q]) q.2 (by rw [hL, List.append_assoc]; rfl) (.inr ⟨A, q, rfl, rfl⟩) h2 (fun p hp => ?_) (fun e he => ?_)
        · rcases List.mem_append.mp hp with m | m
          · refine ⟨(hA p m).1, ?_⟩
            have := (hA p m).2
            by_cases e : p.2 = u
            · rw [e]
              exact ltS_asymm huq
            · exact ltS_asymm (ltS_trans (ltS_tri this e) huq)
          · rw [show p = q by simpa using m]
            exact ⟨h2, ltS_irrefl _⟩
        · have hkq : keptL L u = true := by
            unfold keptL
            rw [List.any_eq_true]
            exact ⟨q, hqm, has_yes h1' (.inr huq)⟩
          have he' : e = q.2 ∨ e = ("a" : Str) ∨ e ∈ highs A := by
            rcases he with h | h
            · exact .inr (.inl h)
            · obtain ⟨p, hp, rfl, hp0⟩ := highs_mem h
              rcases List.mem_append.mp hp with m | m
              · exact .inr (.inr (highs_of m hp0))
              · rw [show p = q by simpa using m]
                exact .inl rfl
          rcases he' with h | h
          · exact .inl h
          · rcases hE e h with h | h
            · rw [h]
              exact .inr hkq
            · exact .inr h
theorem ak_key : ∀ (R : List Sp2) (u k : Str), akF u R = true → ltS k u = false → keptL R k = true
  | [], _, _, h, _ => by cases h
  | q :: r, u, k, h, hk => by
    unfold akF at h
    by_cases h1 : ltS u q.1 = true
    · rw [if_pos h1] at h
      cases h
    · rw [if_neg h1] at h
      have h1' : ltS u q.1 = false := Bool.eq_false_iff.mpr h1
      have hkl : ltS k q.1 = false := by
        cases e : ltS k q.1 with
        | false => rfl
        | true =>
          by_cases e2 : k = u
          · rw [← e2, e] at h1'
            cases h1'
          · rw [ltS_trans (ltS_tri hk (fun z => e2 z.symm)) e] at h1'
            cases h1'
      unfold keptL
      rw [List.any_cons]
      by_cases h2 : q.2 = ""
      · rw [has_yes hkl (.inl h2)]
        rfl
      · rw [if_neg h2] at h
        cases e : ltS k q.2 with
        | true =>
          rw [has_yes hkl (.inr e)]
          rfl
        | false =>
          have : ltS k (maxS u q.2) = false := by
            unfold maxS
            split
            · exact e
            · exact hk
          have ih := ak_key r (maxS u q.2) k h this
          unfold keptL at ih
          rw [ih, Bool.or_true]
end FB

namespace FB
open PySem PySem.Spec PyProof.Rows L2
/-! ### data that are equal, sort by sort -/
def Pl : Nat → PyData → Prop
  | 0, d => d = .none ∨ (∃ i, d = .int i) ∨ ∃ x, d = .str x
  | n + 1, d => (d = .none ∨ (∃ i, d = .int i) ∨ ∃ x, d = .str x) ∨ ∃ ds, (d = .list ds ∨ d = .tuple ds) ∧ ∀ e ∈ ds, Pl n e
def spSame (K : PySem.W.Frag) (n : Nat) : Sp := fun vs H Q _ => ∃ (x y : V) (d : PyData), vs = [x, y] ∧ Dp K H x d ∧ Dp K H y d ∧ Pl n d ∧ ∀ H', Same H H' → Q (.bl true) H'
theorem ty_list {K : PySem.W.Frag} {H : Hp} {a : Addr} {xs : List V} (h : SqL K H a xs) : TyX K H (.ref a) (.type "list") := by
  rcases h with (h | ⟨o, h⟩) | ⟨o, its, n, hk, hc, _⟩
  · exact .base (.lst h)
  · exact .base (.frz h)
  · exact .kList hk hc
theorem ty_tup {K : PySem.W.Frag} {H : Hp} {a : Addr} {xs : List V} (h : SqT K H a xs) : TyX K H (.ref a) (.type "tuple") := by
  rcases h with (h | ⟨o, h⟩) | ⟨o, its, n, hk, hc, _⟩
  · exact .base (.tup h)
  · exact .fTuple h
  · exact .kTuple hk hc
theorem same_tup {K : PySem.W.Frag} {H H' : Hp} {a : Addr} {xs : List V} (e : Same H H') (h : SqT K H a xs) : SqT K H' a xs := by
  rcases h with (h | ⟨o, h⟩) | h
  · exact .inl (.inl (e _ _ h))
  · exact .inl (.inr ⟨o, e _ _ h⟩)
  · exact .inr h
mutual
theorem dp_same {K : PySem.W.Frag} {H H' : Hp} (e : Same H H') : ∀ (d : PyData) (v : V), Dp K H v d → Dp K H' v d
  | .none, _, h => by cases h; exact .non
  | .bool b, _, h => by cases h; exact .bl b
  | .int i, _, h => by cases h; exact .int i
  | .str x, _, h => by cases h; exact .str x
  | .list ds, _, h => by
    cases h with
    | lst hs ha => exact .lst (e.seq hs) (dpall_same e ds _ ha)
  | .tuple ds, _, h => by
    cases h with
    | tup hs ha => exact .tup (same_tup e hs) (dpall_same e ds _ ha)
  | .dict _, _, h => by cases h
theorem dpall_same {K : PySem.W.Frag} {H H' : Hp} (e : Same H H') : ∀ (ds : List PyData) (vs : List V), DpAll K H vs ds → DpAll K H' vs ds
  | [], _, h => by cases h; exact .nil
  | d :: ds, _, h => by
    cases h with
    | cons h1 h2 => exact .cons (dp_same e d _ h1) (dpall_same e ds _ h2)
end
theorem dpall_get {K : PySem.W.Frag} {H : Hp} : ∀ {vs : List V} {ds : List PyData} {i : Nat} {v : V}, DpAll K H vs ds → vs[i]? = some v → ∃ d, ds[i]? = some d ∧ Dp K H v d
  | _, _, _, _, .nil, h => by simp at h
  | x :: _, _, 0, v, .cons h1 h2, h => by
    have e : x = v := by simpa using h
    subst e
    exact ⟨_, rfl, h1⟩
  | _, _, i + 1, v, .cons h1 h2, h => by
    obtain ⟨d, e1, e2⟩ := dpall_get (i := i) (v := v) h2 (by simpa using h)
    exact ⟨d, by simpa using e1, e2⟩
theorem dpall_len {K : PySem.W.Frag} {H : Hp} : ∀ {vs : List V} {ds : List PyData}, DpAll K H vs ds → vs.length = ds.length
  | _, _, .nil => rfl
  | _, _, .cons _ h => by rw [List.length_cons, List.length_cons, dpall_len h]
section
variable {K : PySem.W.Frag}
theorem kt (a b : String) (r : Bool) (h : kitB a b = some r) : PySem.W.kitOne K (.type a) (.type b) = some r := kit_ty h
theorem ki_nl : PySem.W.kitOne K (.type "NoneType") (.type "list") = some false := kit_ty (by decide +kernel)
theorem ki_nt : PySem.W.kitOne K (.type "NoneType") (.type "tuple") = some false := kit_ty (by decide +kernel)
theorem ki_il : PySem.W.kitOne K (.type "int") (.type "list") = some false := kit_ty (by decide +kernel)
theorem ki_it : PySem.W.kitOne K (.type "int") (.type "tuple") = some false := kit_ty (by decide +kernel)
theorem ki_is : PySem.W.kitOne K (.type "int") (.type "str") = some false := kit_ty (by decide +kernel)
theorem ki_ii : PySem.W.kitOne K (.type "int") (.type "int") = some true := kit_ty (by decide +kernel)
theorem ki_ib : PySem.W.kitOne K (.type "int") (.type "bool") = some false := kit_ty (by decide +kernel)
theorem ki_sl : PySem.W.kitOne K (.type "str") (.type "list") = some false := kit_ty (by decide +kernel)
theorem ki_st : PySem.W.kitOne K (.type "str") (.type "tuple") = some false := kit_ty (by decide +kernel)
theorem ki_ss : PySem.W.kitOne K (.type "str") (.type "str") = some true := kit_ty (by decide +kernel)
theorem ki_ll : PySem.W.kitOne K (.type "list") (.type "list") = some true := kit_ty (by decide +kernel)
theorem ki_lt : PySem.W.kitOne K (.type "list") (.type "tuple") = some false := kit_ty (by decide +kernel)
theorem ki_tl : PySem.W.kitOne K (.type "tuple") (.type "list") = some false := kit_ty (by decide +kernel)
theorem ki_tt : PySem.W.kitOne K (.type "tuple") (.type "tuple") = some true := kit_ty (by decide +kernel)
theorem ki_bb : PySem.W.kitOne K (.type "bool") (.type "bool") = some true := kit_ty (by decide +kernel)
end
end FB

namespace FB
open PySem PySem.Spec PyProof.Rows L2
def spanD (z : Sp3) : PyData := .tuple [.str z.2.1, .str z.2.2]
theorem dp_span {K : PySem.W.Frag} {H : Hp} {z : Sp3} (h : H z.1 = some (.tup [.str z.2.1, .str z.2.2])) : Dp K H (.ref z.1) (spanD z) := .tup (SqT.of h) (.cons (.str _) (.cons (.str _) .nil))
theorem dpall_spans {K : PySem.W.Frag} {H : Hp} : ∀ zs : List Sp3, (∀ z ∈ zs, H z.1 = some (.tup [.str z.2.1, .str z.2.2])) → DpAll K H (zs.map fun z => V.ref z.1) (zs.map spanD)
  | [], _ => .nil
  | z :: r, h => .cons (dp_span (h z (by simp))) (dpall_spans r fun y hy => h y (by simp [hy]))
theorem lay_spans : ∀ zs : List Sp3, (∀ z ∈ zs, KeyOr z.2.1 ∧ KeyOr z.2.2) → PyData.canLayAll0 (zs.map spanD) = true ∧ PyData.depthAll (zs.map spanD) ≤ 1
  | [], _ => ⟨by simp [PyData.canLayAll0], by simp [PyData.depthAll]⟩
  | z :: r, h => by
    obtain ⟨h1, h2⟩ := lay_spans r fun y hy => h y (by simp [hy])
    obtain ⟨k1, k2⟩ := h z (by simp)
    refine ⟨?_, ?_⟩
    · rw [List.map_cons, PyData.canLayAll0, h1]
      simp [spanD, PyData.canLay0, PyData.canLayAll0, k1.ok, k2.ok]
    · rw [List.map_cons, PyData.depthAll]
      have : (spanD z).depth = 1 := by simp [spanD, PyData.depth, PyData.depthAll]
      omega
theorem shaped_spans {zs : List Sp3} (h : ∀ z ∈ zs, KeyOr z.2.1 ∧ KeyOr z.2.2) : SeqAt.shaped (.list (zs.map spanD)) = true := by
  obtain ⟨h1, h2⟩ := lay_spans zs h
  unfold SeqAt.shaped
  rw [PyData.canLay0, h1, decide_eq_true (show (PyData.list (zs.map spanD)).depth ≤ 64 by rw [PyData.depth]; omega)]
  rfl
theorem shaped_nil : SeqAt.shaped (.list []) = true := by decide +kernel
theorem eqv_nil : PyData.eqv (.list []) (.list []) = true := by simp [PyData.eqv, PyData.eqvAll]
theorem eqv_cons (x : PyData) (r : List PyData) : PyData.eqv (.list (x :: r)) (.list []) = false := by simp [PyData.eqv, PyData.eqvAll]
def spLaw (K : PySem.W.Frag) : Sp := fun vs H Q _ => ∃ (a : Addr) (ns : List Int), vs = [.ref a] ∧ SqL K H a (ns.map V.int) ∧ ns.length ≤ 63 ∧ ∀ H', Q (.bl true) H'
theorem pl_span (z : Sp3) : Pl 1 (spanD z) := .inr ⟨_, .inr rfl, fun e he => by
  have : e = .str z.2.1 ∨ e = .str z.2.2 := by simpa using he
  rcases this with h | h
  · exact .inr (.inr ⟨_, h⟩)
  · exact .inr (.inr ⟨_, h⟩)⟩
theorem pl_spans (zs : List Sp3) : Pl 2 (.list (zs.map spanD)) := .inr ⟨_, .inl rfl, fun e he => by
  obtain ⟨z, _, rfl⟩ := List.mem_map.mp he
  exact pl_span z⟩
theorem spanD_eq {ws us : List Sp3} (h : ws.map (·.2) = us.map (·.2)) : ws.map spanD = us.map spanD := by
  have e : ∀ l : List Sp3, l.map spanD = (l.map (·.2)).map fun p => PyData.tuple [.str p.1, .str p.2] := fun l => by
    rw [List.map_map]
    rfl
  rw [e ws, e us, h]
theorem dp_spans {K : PySem.W.Frag} {H : Hp} {a : Addr} {zs : List Sp3} (h : SpansAt H a zs) : Dp K H (.ref a) (.list (zs.map spanD)) := .lst (SqL.of h.ls) (dpall_spans zs h.tp)
theorem eqv_spans {zs : List Sp3} (h : ∀ z ∈ zs, KeyOr z.2.1 ∧ KeyOr z.2.2) : PyData.eqv (.list (zs.map spanD)) (.list (zs.map spanD)) = true := by
  refine SeqAt.eqv_refl _ ?_
  rw [PyData.canLay0]
  exact (lay_spans zs h).1
theorem asked_keys {zs : List Sp3} {ks : List Str} (hz : ∀ z ∈ zs, KeyOr z.2.1 ∧ KeyOr z.2.2) (h : ∃ ds : List Str, (∀ k ∈ ds, IsKey k) ∧ ks = ds ++ (zs.map fun z => [z.2.1, z.2.2].filter fun x => !decide (V.str x = V.str "")).flatten) : ∀ k ∈ ks, IsKey k := by
  obtain ⟨ds, h1, rfl⟩ := h
  intro k hk
  rcases List.mem_append.mp hk with m | m
  · exact h1 k m
  · obtain ⟨l, hl, hkl⟩ := List.mem_flatten.mp m
    obtain ⟨z, hz', rfl⟩ := List.mem_map.mp hl
    obtain ⟨m1, m2⟩ := List.mem_filter.mp hkl
    have hne : k ≠ "" := fun e => by
      rw [e, decide_eq_true rfl] at m2
      cases m2
    have : k = z.2.1 ∨ k = z.2.2 := by simpa using m1
    rcases this with rfl | rfl
    · exact (hz z hz').1.resolve_left hne
    · exact (hz z hz').2.resolve_left hne
end FB

namespace FB
open PySem PySem.Spec PyProof.Rows L2
/-! ### lists of spans that grow -/
theorem SpansAt.add {H : Hp} {pl : Addr} {ws : List Sp3} {z : Sp3} (h : SpansAt H pl ws) (hz : H z.1 = some (.tup [.str z.2.1, .str z.2.2])) :
    SpansAt (upd H pl (.lst (ws.map (fun z => V.ref z.1) ++ [.ref z.1]))) pl (ws ++ [z]) := by
  refine ⟨by rw [upd_same, List.map_append]; rfl, fun y hy => ?_⟩
  have hy' : H y.1 = some (.tup [.str y.2.1, .str y.2.2]) := by
    rcases List.mem_append.mp hy with m | m
    · exact h.tp y m
    · rw [show y = z by simpa using m]
      exact hz
  rw [upd_ne (ne_of hy' h.ls (by intro z; cases z))]
  exact hy'
theorem SpansAt.addNew {H : Hp} {pl t : Addr} {ws : List Sp3} {x y : Str} (h : SpansAt H pl ws) (ht : H t = none) :
    SpansAt (upd (upd H t (.tup [.str x, .str y])) pl (.lst (ws.map (fun z => V.ref z.1) ++ [.ref t]))) pl (ws ++ [(t, x, y)]) :=
  (h.same (same_new ht)).add (z := (t, x, y)) upd_same
theorem same_mut {H H' : Hp} {p : Addr} {o : HO} (k : Same H H') (h : H p = none) : Same H (upd H' p o) := fun b x e => by
  rw [upd_ne (ne_of_none e h)]
  exact k b x e
/-! ### the least key of a span -/
def leastS (l : Str) : Str := if l = "" then "a" else l
theorem key_ge_a {k : Str} (h : IsKey k) : ltS k "a" = false := by
  obtain ⟨h0, _, hc⟩ := h
  apply decide_eq_false
  have ea : ("a" : Str).cps.toList = [97] := by decide +kernel
  rw [ea]
  cases e : k.cps.toList with
  | nil =>
    have : k.length = 0 := by
      show k.cps.size = 0
      rw [← Array.length_toList, e]
      rfl
    omega
  | cons c r =>
    have h1 := (hc c (by rw [e]; simp)).1
    intro hlt
    rcases List.cons_lt_cons_iff.mp hlt with q | ⟨q, q'⟩
    · omega
    · exact absurd q' (by simp)
theorem isKey_of {z : Str} (h : KeyOr z) (h' : z ≠ "") : IsKey z := h.resolve_left h'
theorem a_key : IsKey "a" := by
  unfold IsKey
  decide +kernel
theorem lt_empty_a : ltS "" "a" = true := by decide +kernel
theorem no_lt_empty (k : Str) : ltS k "" = false := by
  apply decide_eq_false
  have ea : ("" : Str).cps.toList = [] := by decide +kernel
  rw [ea]
  exact List.not_lt_nil _
theorem empty_lt {k : Str} (h : k ≠ "") : ltS "" k = true := ltS_tri (no_lt_empty k) (fun e => h e.symm)
theorem IsKey.ne {z : Str} (h : IsKey z) : z ≠ "" := fun e => by
  subst e
  have := h.1
  exact absurd this (by decide +kernel)
theorem max_a {l : Str} (h : KeyOr l) : maxS l "a" = leastS l := by
  unfold maxS leastS
  rcases h with rfl | h
  · rw [if_pos lt_empty_a, if_pos rfl]
  · rw [key_ge_a h, if_neg (by decide), if_neg h.ne]
def canB (l h k : Str) : Bool := hasB l h k && ltS (maxS l "a") k
theorem can_eq {l h k : Str} (hl : KeyOr l) (hk : IsKey k) : canB l h k = (hasB l h k && !decide (V.str k = V.str (leastS l))) := by
  unfold canB
  rw [max_a hl]
  cases e : hasB l h k with
  | false => rfl
  | true =>
    have e1 : ltS k l = false := by
      unfold hasB at e
      rw [Bool.and_eq_true] at e
      cases q : ltS k l with
      | false => rfl
      | true => rw [q] at e; exact absurd e.1 (by decide)
    have e2 : ltS k (leastS l) = false := by
      unfold leastS
      split
      · exact key_ge_a hk
      · exact e1
    rw [Bool.true_and, Bool.true_and]
    by_cases q : k = leastS l
    · rw [← q, ltS_irrefl, decide_eq_true rfl]
      rfl
    · rw [ltS_tri e2 (fun z => q z.symm), decide_eq_false (fun z => q (V.str.inj z))]
      rfl
def spLeast (K : PySem.W.Frag) : Sp := fun vs H Q _ => ∃ (p : Addr) (l h : Str), vs = [.ref p] ∧ SqT K H p [.str l, .str h] ∧ ∀ H', Same H H' → Q (.str (leastS l)) H'
def spCan (K : PySem.W.Frag) : Sp := fun vs H Q _ => ∃ (p : Addr) (l h k : Str), vs = [.ref p, .str k] ∧ SqT K H p [.str l, .str h] ∧ Q (.bl (canB l h k)) H
def cutL (k : Str) (c : Str → Str → Bool) (zs : List (Str × Str)) : List (Str × Str) := (zs.map fun z => if c z.1 z.2 = true then [(z.1, k), (k, z.2)] else [z]).flatten
theorem cutL_snoc (k : Str) (c : Str → Str → Bool) (zs : List (Str × Str)) (z : Str × Str) : cutL k c (zs ++ [z]) = cutL k c zs ++ (if c z.1 z.2 = true then [(z.1, k), (k, z.2)] else [z]) := by
  unfold cutL
  rw [List.map_append, List.flatten_append]
  show _ ++ (_ ++ []) = _
  rw [List.append_nil]
theorem take_snoc {α : Type} {zs : List α} {i : Nat} {z : α} (h : zs[i]? = some z) : zs.take (i + 1) = zs.take i ++ [z] := by
  rw [List.take_add_one, h]
  rfl
/-- a new list of spans, made of those of a list and cut at the key as c says -/
def spCut (c : Str → Str → Str → Bool) : Sp := fun vs H Q _ => ∃ (a : Addr) (zs : List Sp3) (k : Str), vs = [.ref a, .str k] ∧ SpansAt H a zs ∧ zs.length ≤ 60 ∧
  ∀ (p : Addr) (ws : List Sp3) (H' : Hp), Same H H' → H p = none → SpansAt H' p ws → ws.map (·.2) = cutL k (fun l h => c l h k) (zs.map (·.2)) → ws.length ≤ 2 * zs.length → Q (.ref p) H'
end FB

namespace FB
open PySem PySem.Spec PyProof.Rows L2 GenW
/-! ### a def's table of code objects, by what is true of it -/
def TabX (P : Addr) : HO := .ext fun h => ∃ ps : Array Value, h.get? P = some { cls := .none, data := .fields ps } ∧ TriplesOk ps.toList
section
variable {X : Cx} {pins : List (Addr × Obj)} {σ : L2.St} {H : Hp} {s : Shared}
theorem tabX_ok {P : Addr} {Pg : Program} {w : World} {H : Hp} {h : Heap} {ps : Array Value} (hm : h.get? P = some { cls := .none, data := .fields ps }) (ht : TriplesOk ps.toList) : ObjOk Pg w H h P (TabX P) :=
  ⟨⟨ps, hm, ht⟩, ⟨_, hm⟩, fun _ _ ⟨qs, e, t⟩ q => ⟨qs, q _ e, t⟩⟩
theorem inv_tabX {P : Addr} {ps : Array Value} {h' : Heap} {t' : Nat} (I : Inv X pins σ H s) (hP : H P = some (TabX P)) (k : ∀ b o, b ≠ P → s.heap.get? b = some o → h'.get? b = some o)
    (hm : h'.get? P = some { cls := .none, data := .fields ps }) (ht : TriplesOk ps.toList) : Inv X pins σ H { s with heap := h', toks := t' } := by
  have J := I.write (x := P) (e := P) (o := TabX P) (t' := t') (by rw [hP]; trivial) (.inl rfl) k ⟨_, hm⟩ (tabX_ok hm ht)
  have e : upd H P (TabX P) = H := by
    funext b
    unfold upd
    split
    · rename_i e
      rw [e, hP]
    · rfl
  rw [e] at J
  exact J
/-- the state again, the heap as it was -/
theorem Inv.woke {s' : Shared} (I : Inv X pins σ H s) (h : s'.heap = s.heap) (ho : s'.os = s.os) (hb : AllBare s'.gens) : Inv X pins σ H s' :=
  ⟨I.ok, ho.trans I.os, hb, by rw [h]; exact I.base, by rw [h]; exact I.loc, by rw [h]; exact I.cell, I.free, I.freeC, by rw [h]; exact I.pin, by rw [h]; exact I.hok, I.len⟩
end
/-! ### a def whose code object is known -/
structure FunC (K : PySem.W.Frag) (x qual : Str) (st : Stmt) (f : Addr) (fd : FuncData) (c : Addr) : Prop where
  ex : ∃ (oc : Value) (od : Option Addr) (kV doc pm : Value) (an : Option Addr) (ct : Value) (osl : Array (Option Value)),
    fd = PySem.W.fnOf x qual (defArgs st) (defBody st) (defScope st) .none kV doc pm an (.ref c) ct ∧ K.lookup f = some ⟨oc, od, .func fd, osl⟩ ∧ PySem.W.codeIn K (.ref c) qual = true
  kp : PySem.W.keepIn K (.ref f) = true
theorem FunC.ok {P : Program} {w : World} {K : PySem.W.Frag} {mg : Str → Option Value} {base : Heap} {x qual : Str} {st : Stmt} {f c : Addr} {fd : FuncData} {N ps : List Str} {k : Nat} {sp : Sp} (F : FunC K x qual st f fd c) (S : FnScope N ps (defScope st)) (len : ∀ vs H Q E, sp vs H Q E → vs.length = ps.length)
    (hbody : ∀ (A : Around) (outer : List Env) (s : Shared) (H : Hp) (vs : List V) (Q : VK) (E : XK), Room k (A.deeper (envOfC qual (defScope st) s.heap.objs.size f (.ref c))) → sp vs H Q E →
      ∃ t, PSs (cxOf CX0 P w K mg base N qual (defScope st) f (.ref c) A outer s H E).nox (defBody st) t ∧ t { nx := fun _ H' => Q .non H', rt := Q } (start N vs) H) : FnOk P w K mg base CX0 (k + 1) f fd ps sp := by
  obtain ⟨oc, od, kV, doc, pm, an, ct, osl, rfl, lk, hcd⟩ := F.ex
  refine fn_of lk hcd S len fun A outer s H vs Q E hr hsp => ?_
  obtain ⟨t, h, q⟩ := hbody A outer s H vs Q E hr hsp
  exact ⟨t, h.nox, q⟩
theorem FunC.fn {K : PySem.W.Frag} {x qual : Str} {st : Stmt} {f c : Addr} {fd : FuncData} (F : FunC K x qual st f fd c) : Fun K x qual st f fd := by
  obtain ⟨oc, od, kV, doc, pm, an, ct, osl, e, lk, hcd⟩ := F.ex
  exact ⟨⟨oc, od, kV, doc, pm, an, .ref c, ct, osl, e, lk, hcd⟩, F.kp⟩
/-! ### a generator expression's frame -/
abbrev gA (X : Cx) (cenv : Env) : Around := X.A.in1.in1.deeper cenv
abbrev gCx (X : Cx) (s : Shared) (H : Hp) (cenv : Env) (fp : List Addr) (pn : List (Addr × Obj)) : Cx :=
  { X with A := gA X cenv, s_0 := s, H_0 := H, env := cenv, outer := X.stack, stack := cenv :: X.stack, ex := fp, fn := fun _ => false, pn := pn, xe := fun _ _ => False }
def genC (scope : Scope) : Bool := !scope.isCoroutine && (scope.names.all fun y => decide (y.2 ≠ .cell)) && decide (scope.names.lookup (".0" : Str) = some NameKind.local)
section
variable {X : Cx} {pins : List (Addr × Obj)} {σ : L2.St} {H : Hp} {s : Shared}
theorem gen_start {scope : Scope} {own : List (Str × Nat)} {fp : List Addr} {h5 : Heap} {a : Addr} {go : Obj} {g' : Array GenState} {tk : Nat} {code : Value} {m : Str → Option Value} (I : Inv X pins σ H s) (ok : BlkOk X.N X.env.scope scope own) (hN : X.N.Nodup)
    (hfp : ∀ b ∈ fp, FpOk X pins H b ∧ b < s.heap.objs.size) (hns : h5.Ns s.heap.objs.size m) (kp : ∀ b o, s.heap.get? b = some o → h5.get? b = some o) (ha : h5.get? a = some go) (hga : s.heap.objs.size < a) (hgd : ∀ v, go.data ≠ .cell v) (hg : AllBare g') (hh : X.A.handled = none) (hcellN : ∀ y ∈ scope.names, y.2 ≠ .cell) :
    Inv (gCx X s H (genEnv scope (cloFrom X.env.cells scope.names []) s.heap.objs.size code builtinsNs X.env) fp [(a, go)]) [] (wipe σ (own.map (·.2))) H { s with heap := h5, gens := g', toks := tk } := by
  have hfree : ∀ y ∈ scope.names, y.2 = .free → ∃ c, X.env.cells.lookup y.1 = some c := fun y hy e => by
    rcases ok.free y hy e with k | k
    · exact I.ok.has _ (.inl k)
    · exact I.ok.has _ (.inr k)
  generalize hcenv : genEnv scope (cloFrom X.env.cells scope.names []) s.heap.objs.size code builtinsNs X.env = cenv
  have hL : cenv.locals = s.heap.objs.size := by rw [← hcenv]; rfl
  have hcl : cenv.cells = cloFrom X.env.cells scope.names [] := by rw [← hcenv]; rfl
  have hsc : cenv.scope = scope := by rw [← hcenv]; rfl
  have cm : ∀ {y c}, (y, c) ∈ cloFrom X.env.cells scope.names [] → X.env.cells.lookup y = some c ∧ c < s.heap.objs.size := fun {y c} hm => by
    rcases cloFrom_mem hm with hm | ⟨h1, rfl⟩
    · cases hm
    · obtain ⟨c, hc⟩ := hfree _ h1 rfl
      rw [hc]
      obtain ⟨w, z⟩ := I.cell _ _ hc
      exact ⟨rfl, z.lt⟩
  have mem : ∀ {y c}, cenv.cells.lookup y = some c → X.env.cells.lookup y = some c ∧ c < s.heap.objs.size := fun {y c} e => by
    rw [hcl] at e
    exact cm (PySem.mem_of_lookup e)
  have look : ∀ {y}, scope.names.lookup y = some .free → ∃ c, cenv.cells.lookup y = some c ∧ X.env.cells.lookup y = some c := fun {y} hl => by
    have hy : (y, NameKind.free) ∈ scope.names := PySem.mem_of_lookup hl
    obtain ⟨c', e'⟩ := mem_lookup (cloFrom_has (cells := X.env.cells) (acc := []) hy)
    rw [← hcl] at e'
    exact ⟨c', e', (mem e').1⟩
  have okB : (gCx X s H cenv fp [(a, go)]).Ok := by
    refine ⟨I.ok.mod, by show cenv.scope.kind = _; rw [hsc]; exact ok.kind, by show cenv.globals = _; rw [← hcenv]; exact I.ok.glob, by show cenv.builtins = _; rw [← hcenv]; rfl, by show s.heap.objs.size ≤ cenv.locals; rw [hL]; exact Nat.le_refl _,
      fun y z c e1 e2 => I.ok.inj y z c (mem e1).1 (mem e2).1, fun y hy => ?_, fun y c z e => (by cases z), fun _ => hh, Around.frames_deeper (show X.A.in1.in1.frames = some X.stack from I.ok.frames), .inr ⟨rfl, by rw [← hcenv]; rfl⟩,
      fun b hb => ⟨?_, fun y c e z => ?_⟩, I.bs, Nat.le_trans I.ok.bsz I.sz, fun b o e hb => ?_, fun b hb z => ?_, I.stack, I.stkFree⟩
    · have key : ∀ k, cenv.kindOf y = some k → (k = .cell ∨ k = .free) → ∃ c, cenv.cells.lookup y = some c := fun k hk hk' => by
        unfold Env.kindOf at hk
        rw [hsc] at hk
        rcases hk' with rfl | rfl
        · obtain ⟨c, e⟩ := mem_lookup (PySem.mem_of_lookup hk)
          exact absurd rfl (hcellN _ (PySem.mem_of_lookup hk))
        · obtain ⟨c, h1, _⟩ := look hk
          exact ⟨c, h1⟩
      rcases hy with hy | hy
      · exact key _ hy (.inl rfl)
      · exact key _ hy (.inr rfl)
    · show b ≠ cenv.locals
      rw [hL]; exact Nat.ne_of_lt (hfp b hb).2
    · exact (hfp b hb).1.2.2.2.2.1 y c (mem e).1 z
    · rcases (hfp b hb).1.2.2.2.1 with z | z
      · exact I.ok.noex b o e z
      · exact absurd (Nat.lt_of_lt_of_le (Heap.lt_size e) (Nat.le_trans I.ok.bsz z)) (Nat.lt_irrefl _)
    · rcases List.mem_cons.mp (I.stkSub b z) with z | z
      · exact (hfp b hb).1.2.1 z
      · exact (hfp b hb).1.2.2.1 z
  refine ⟨okB, rfl, hg, Un.kept kp, ⟨m, by rw [hL]; exact hns, fun i y av e1 e2 e3 => ?_⟩, fun y c e => ?_, ?_, fun y c e => ?_, fun p hp => ?_, I.hok.kept kp, by rw [wipe_length]; exact I.len⟩
  · obtain ⟨e2, hne⟩ := wipe_some e2
    have hfr : scope.names.lookup y = some .free ∧ (cenv.kindOf y = some .cell ∨ cenv.kindOf y = some .free) := by
      have key : ∀ k, cenv.scope.names.lookup y = some k → k = .local ∨ k = .cell ∨ k = .free → scope.names.lookup y = some .free ∧ (cenv.kindOf y = some .cell ∨ cenv.kindOf y = some .free) := fun k hk hk' => by
        have hk0 := hk
        rw [hsc] at hk
        have no : ¬ (k = .local ∨ k = .cell) := fun hh => by
          rcases ok.own _ (PySem.mem_of_lookup hk) hh with e' | e'
          · obtain ⟨p, hp, hpy⟩ := List.mem_map.mp e'
            have e3 := ok.ix p hp
            have : p.1 = y := hpy
            rw [this] at e3
            exact hne (List.mem_map.mpr ⟨p, hp, nodup_ix hN e3 e1⟩)
          · exact e' (List.mem_of_getElem? e1)
        rcases hk' with rfl | rfl | rfl
        · exact absurd (.inl rfl) no
        · exact absurd (.inr rfl) no
        · exact ⟨hk, .inr hk0⟩
      have e3 : Vis cenv.scope y := e3
      rcases e3 with e3 | e3 | e3
      · exact key _ e3 (.inl rfl)
      · exact key _ e3 (.inr (.inl rfl))
      · exact key _ e3 (.inr (.inr rfl))
    obtain ⟨m, hn, hl⟩ := I.loc
    have hvis : Vis X.env.scope y := (ok.free _ (PySem.mem_of_lookup hfr.1) rfl).elim (fun k => .inr (.inl k)) (fun k => .inr (.inr k))
    obtain ⟨w, r, q⟩ := hl i y av e1 e2 hvis
    refine ⟨w, r, .inr ⟨hfr.2, ?_⟩⟩
    obtain ⟨c, h1, h2⟩ := look hfr.1
    rcases q with ⟨k, _⟩ | ⟨_, c', e', z⟩
    · have k : X.env.scope.names.lookup y = some .local := k
      rcases ok.free _ (PySem.mem_of_lookup hfr.1) rfl with k' | k' <;> rw [show X.env.scope.names.lookup y = _ from k'] at k <;> cases k
    · rw [h2] at e'; cases e'
      exact ⟨c, h1, z.keeps kp⟩
  · obtain ⟨w, z⟩ := I.cell y c (mem e).1
    exact ⟨w, z.keeps kp⟩
  · show H cenv.locals = none
    rw [hL]; exact I.hok.fresh (Nat.le_refl _)
  · exact I.freeC y c (mem e).1
  · have e : p = (a, go) := by simpa using hp
    subst e
    refine ⟨ha, I.hok.fresh (Nat.le_of_lt hga), by show a ≠ cenv.locals; rw [hL]; exact Nat.ne_of_gt hga, fun z => ?_, hgd⟩
    rcases List.mem_cons.mp (I.stkSub a z) with z | z
    · have := I.lt
      rw [← z] at this
      exact absurd (Nat.lt_trans hga this) (Nat.lt_irrefl _)
    · exact I.nofs (Nat.le_of_lt hga) z
end
end FB

namespace FB
open PySem PySem.Spec PyProof.Rows L2 GenW
theorem over_comp {A : Around} {elt it acc : Value} {e : Expr} {gens : List Comprehension} {scope : Scope} {pos : Pos} {env : Env} : A.over (.compLoop (.GeneratorExp e gens scope pos) 0 it acc env) [] = A.deeper env := by
  first
    | rfl
    | (obtain ⟨hd, d, fr, gs, u⟩ := A; simp [Around.over, Around.deeper, marksOver, frameCount, unitsOf, envsOf, guardsOf, pushEnvs, pushGuards, Code.envs, Code.env?, Code.isFrame, Code.guards, Code.isGuard, Code.weight, Code.frames, Code.isCreation, Code.isCaller, Code.cUnits])
theorem over_compS {A : Around} {elt it acc : Value} {e : Expr} {gens : List Comprehension} {scope : Scope} {pos : Pos} {env : Env} : A.over (.compStart (.GeneratorExp e gens scope pos) 0 it acc env) [] = A.deeper env := by
  first
    | rfl
    | (obtain ⟨hd, d, fr, gs, u⟩ := A; simp [Around.over, Around.deeper, marksOver, frameCount, unitsOf, envsOf, guardsOf, pushEnvs, pushGuards, Code.envs, Code.env?, Code.isFrame, Code.guards, Code.isGuard, Code.weight, Code.frames, Code.isCreation, Code.isCaller, Code.cUnits])
/-- an item is handed out: a bool; the consumer ends at st -/
def yG (X : Cx) (st : Bool) (Q : VK) : Protocol := fun _ _ v s kap => ∃ (b : Bool) (H : Hp) (σ : L2.St), v = .bool b ∧ Inv X [] σ H s ∧ (if b = st then Q (.bl st) H else ∀ s' : Shared, s'.heap = s.heap → s'.os = s.os → AllBare s'.gens → kap (.send .none) s')
def pG (X : Cx) (st : Bool) (Q : VK) : Nat → Shared → Shared → Prop := fun _ _ s => ∃ (H : Hp) (σ : L2.St), Inv X [] σ H s ∧ Q (.bl (!st)) H
abbrev rG (X : Cx) (st : Bool) (Q : VK) : GenEnd := fun n s₀ r s => r = .ok .next ∧ pG X st Q n s₀ s
/-- the turns: a measure m, the turn i -/
def GStep (st : Bool) (J : It) (g : TG) (te : TE) (σ : L2.St) (vs : List Nat) (Q : VK) (W : Nat → Nat → Hp → Prop) : Prop := ∀ i m H, W i m H →
  (J.stop i H ∧ Q (.bl (!st)) H) ∨ (J.go i H ∧ ∃ Nx : Hp → Prop, (∀ H', Nx H' → ∃ m', m' < m ∧ W (i + 1) m' H') ∧ ∀ x H', J.yld i H x H' → g x (wipe σ vs) H' fun σ2 H2 => wipe σ2 vs = wipe σ vs ∧ te σ2 H2 fun v H3 => ∃ b : Bool, v = .bl b ∧ if b = st then Q (.bl st) H3 else Nx H3)
section
variable {X : Cx} {scope : Scope} {cl : List (Str × Addr)} {C : Addr} {code : Value} {fp : List Addr} {pn : List (Addr × Obj)} {s4 : Shared} {H4 : Hp} {st : Bool} {J : It} {g : TG} {te : TE} {σ : L2.St} {vs : List Nat} {Q : VK} {W : Nat → Nat → Hp → Prop}
  {elt iter : Expr} {x : Str} {px pos : Pos} {it : Addr} {tn : Nat → Heap → Prop}
theorem seg_gen (hc : X.calm = true) (hco : scope.isCoroutine = false) (T : Turn X.prog X.w X.K (.Name x px) J fp it tn)
    (hpn : ∀ b ∈ fp, ∀ p ∈ pn, p.1 ≠ b)
    (pg : PG (gCx X s4 H4 (genEnv scope cl C code builtinsNs X.env) fp pn) (.Name x px) g) (pe : PE (gCx X s4 H4 (genEnv scope cl C code builtinsNs X.env) fp pn) elt te)
    (step : GStep st J g te σ vs Q W) : ∀ (n i m : Nat) (H : Hp) (s₀ s : Shared), W i m H → m < n → Inv (gCx X s4 H4 (genEnv scope cl C code builtinsNs X.env) fp pn) [] (wipe σ vs) H s → tn i s.heap → (∀ b ∈ fp, H b = none) →
      Seg (model X.prog X.w) X.A.in1.in1 (rG (gCx X s4 H4 (genEnv scope cl C code builtinsNs X.env) fp pn) st Q) (yG (gCx X s4 H4 (genEnv scope cl C code builtinsNs X.env) fp pn) st Q) n s₀
        (.compLoop (.GeneratorExp elt [⟨.Name x px, iter, [], 0⟩] scope pos) 0 (.ref it) .none (genEnv scope cl C code builtinsNs X.env))
        ((model X.prog X.w).den (.compLoop (.GeneratorExp elt [⟨.Name x px, iter, [], 0⟩] scope pos) 0 (.ref it) .none (genEnv scope cl C code builtinsNs X.env))) [] s := by
  generalize hce : genEnv scope cl C code builtinsNs X.env = ce at pg pe ⊢
  have hce2 : ce.scope.isCoroutine = false := by rw [← hce]; exact hco
  have ov : X.A.in1.in1.over (.compLoop (.GeneratorExp elt [⟨.Name x px, iter, [], 0⟩] scope pos) 0 (.ref it) .none ce) [] = (gCx X s4 H4 ce fp pn).A := over_comp (elt := .none)
  have stat : ∀ {σ' : L2.St} {H' : Hp} {s' : Shared}, Inv (gCx X s4 H4 ce fp pn) [] σ' H' s' → (∀ b ∈ fp, H' b = none) → ∀ b ∈ fp, FpOk (gCx X s4 H4 ce fp pn) [] H' b := fun {σ' H' s'} I' hn b hb =>
    ⟨hn b hb, (I'.ok.exf b hb).1, I'.ok.exfs b hb, .inl hb, fun y c e => (I'.ok.exf b hb).2 y c e, fun p hp => hpn b hb p (by simpa using hp)⟩
  intro n
  induction n with
  | zero => intro i m H s₀ s _ hm; exact absurd hm (Nat.not_lt_zero _)
  | succ n ih =>
    intro i m H s₀ s hW hm I ht hn
    show Seg _ _ _ _ _ s₀ _ ((compTurn (.GeneratorExp elt [⟨.Name x px, iter, [], 0⟩] scope pos) 0 (.ref it) .none ce).onRaise (leaving ce)) [] s
    rw [compTurn_gen, Sem.onRaise_eq_wrap]
    refine seg_bind_wrap (wpAny_standAt ?_)
    rcases step i m H hW with ⟨stop, q⟩ | ⟨go, Nx, hNx, stp⟩
    · refine seg_bind_wrap ?_
      rw [ov]
      refine wpAny_mono (T.done (gCx X s4 H4 ce fp pn) rfl rfl rfl hc i [] s _ H (fun _ _ => False) I (stat I hn) ht stop) (fun r s1 h1 => ?_) (fun _ _ h => h.elim)
      obtain ⟨hr, I1⟩ := h1
      subst hr
      exact seg_end (.ok .next) ⟨rfl, H, _, I1, q⟩
    · refine seg_bind_wrap ?_
      rw [ov]
      refine wpAny_mono (T.item (gCx X s4 H4 ce fp pn) rfl rfl rfl hc i [] s _ H (fun _ _ => False) I (stat I hn) ht go) (fun r s1 h1 => ?_) (fun _ _ h => h.elim)
      obtain ⟨u, hr, h1⟩ := h1
      subst hr
      refine seg_bind_wrap ?_
      rw [ov]
      refine wpAny_mono h1 (fun _ s2 h2 => ?_) (fun _ _ h => h.elim)
      obtain ⟨xv, H2, I2, r2, y2, tn2, n2⟩ := h2
      have I2' := I2.pinned (stat I2 n2) (T.obj _ _ tn2)
      refine seg_bind_wrap ?_
      rw [ov]
      refine wpAny_mono (pg.run _ s2 _ H2 xv u _ I2' r2 (stp xv H2 y2)) (fun _ s3 h3 => ?_) (fun _ _ h => h.elim)
      obtain ⟨σ3, H3, I3, hw3, q3⟩ := h3
      refine seg_bind_wrap (wpAny_tests_nil ?_)
      simp only [if_true]
      have hy : ∀ v, yieldOut ce v = yieldValue v := fun v => by simp only [yieldOut, hce2, Bool.false_eq_true, if_false]
      simp only [hy]
      rw [Sem.bind_eq_wrap', Sem.bind_eq_wrap', Sem.wrap_wrap, Sem.wrap_wrap]
      refine seg_wrap ?_
      rw [ov]
      refine wpAny_mono (pe.run _ s3 σ3 H3 _ I3 q3) (fun y s5 h5 => ?_) (fun _ _ h => h.elim)
      obtain ⟨v, H5, I5, r5, b, rfl, q5⟩ := h5
      obtain rfl : y = Value.bool b := r5
      refine seg_at (seg_yield rfl rfl rfl ⟨b, H5, σ3, rfl, I5.unpinned (pins := []), ?_⟩)
      by_cases hb : b = st
      · rw [if_pos hb] at q5 ⊢
        exact q5
      · rw [if_neg hb] at q5 ⊢
        obtain ⟨m', hm', hW'⟩ := hNx H5 q5
        intro s6 e1 e2 e3
        have pin' : ∀ b ∈ fp, ∀ o, s2.heap.get? b = some o → s5.heap.get? b = some o ∧ H5 b = none := fun b hb o e =>
          let z := I5.pin (b, o) (List.mem_append_right _ (List.mem_append_right _ (mem_pinsAt hb e)))
          ⟨z.1, z.2.1⟩
        have hl : (wipe σ vs).length = σ3.length := by rw [← hw3, wipe_length]
        have I6 : Inv (gCx X s4 H4 ce fp pn) [] (wipe σ vs) H5 s6 := FB.Inv.woke ((I5.unpinned (pins := [])).weak hl (fun j v e => by
          rw [← hw3] at e
          exact (wipe_some e).1)) e1 e2 e3
        refine seg_again rfl (ih (i + 1) m' H5 s6 s6 hW' (by omega) I6 ?_ fun b hb => ?_)
        · rw [e1]
          exact T.keep _ _ _ tn2 fun b hb o e => (pin' b hb o e).1
        · obtain ⟨o, e, _⟩ := T.obj _ _ tn2 b hb
          exact (pin' b hb o e).2
theorem seg_gen0 (hc : X.calm = true) (hco : scope.isCoroutine = false) (T : Turn X.prog X.w X.K (.Name x px) J fp it tn)
    (hpn : ∀ b ∈ fp, ∀ p ∈ pn, p.1 ≠ b)
    (pg : PG (gCx X s4 H4 (genEnv scope cl C code builtinsNs X.env) fp pn) (.Name x px) g) (pe : PE (gCx X s4 H4 (genEnv scope cl C code builtinsNs X.env) fp pn) elt te)
    (step : GStep st J g te σ vs Q W) (n m : Nat) (H : Hp) (s₀ s : Shared) (hW : W 0 m H) (hm : m < n) (I : Inv (gCx X s4 H4 (genEnv scope cl C code builtinsNs X.env) fp pn) [] (wipe σ vs) H s) (ht : tn 0 s.heap) (hn : ∀ b ∈ fp, H b = none) :
      Seg (model X.prog X.w) X.A.in1.in1 (rG (gCx X s4 H4 (genEnv scope cl C code builtinsNs X.env) fp pn) st Q) (yG (gCx X s4 H4 (genEnv scope cl C code builtinsNs X.env) fp pn) st Q) n s₀
        (.compStart (.GeneratorExp elt [⟨.Name x px, iter, [], 0⟩] scope pos) 0 (.ref it) .none (genEnv scope cl C code builtinsNs X.env))
        ((model X.prog X.w).den (.compStart (.GeneratorExp elt [⟨.Name x px, iter, [], 0⟩] scope pos) 0 (.ref it) .none (genEnv scope cl C code builtinsNs X.env))) [] s := by
  have loop := seg_gen (iter := iter) (pos := pos) hc hco T hpn pg pe step n 0 m H s₀ s hW hm I ht hn
  generalize hce : genEnv scope cl C code builtinsNs X.env = ce at loop ⊢
  show Seg _ _ _ _ _ s₀ _ ((compStart (.GeneratorExp elt [⟨.Name x px, iter, [], 0⟩] scope pos) 0 (.ref it) .none ce).onRaise (leaving ce)) [] s
  unfold compStart
  rw [Sem.onRaise_eq_wrap]
  show Seg _ _ _ _ _ s₀ _ ((ask >>= _).wrap _ _ _ _) [] s
  refine seg_bind_wrap (wpAny_askSetting ?_)
  split
  · exact seg_again rfl loop
  · first
      | exact seg_bind_wrap (wpAny_rule (seg_bind_wrap (wpAny_standAt (seg_bind_wrap (T.self _ 0 s _ _ ht (seg_again rfl loop))))))
      | (refine seg_bind_wrap (wpAny_rule ?_); show Seg _ _ _ _ _ s₀ _ ((standAt iter.pos >>= _).wrap _ _ _ _) [] s; exact seg_bind_wrap (wpAny_standAt (seg_bind_wrap (T.self _ 0 s _ _ ht (seg_again rfl loop)))))
end
/-! ### the consumer -/
section
variable {P : Program} {w : World} {X : Cx} {st : Bool} {Q : VK} {A : Around} {R : Result → Shared → Prop} {a : Addr} {go : Obj} {g : Nat}
theorem next_gen (hp : X.prog = P) (hw : X.w = w) (hh : A.handled = none) (hd : A.depth < recursionLimit) (hpn : (a, go) ∈ X.pn) (hgo : ∀ h : Heap, h.get? a = some go → h.IsGen a g) {QQ : Option Value → Shared → Prop} {E : Value → Shared → Prop} (n : Nat) (s : Shared) (hg : s.heap.IsGen a g) (hl : s.heap.NoLimit)
    (hr : ∃ gs, s.gens[g]? = some gs ∧ gs.Goes (model P w) A.in1 (rG X st Q) (yG X st Q) n (.send .none) (s.setGen g .running))
    (hend : ∀ H σ s', Inv X [] σ H s' → Q (.bl (!st)) H → QQ none s')
    (hstop : ∀ H σ s', Inv X [] σ H s' → Q (.bl st) H → QQ (some (.bool st)) s')
    (hgoon : ∀ m H σ s', n = m + 1 → Inv X [] σ H s' → s'.heap.IsGen a g → s'.heap.NoLimit → (∃ gs, s'.gens[g]? = some gs ∧ gs.Goes (model P w) A.in1 (rG X st Q) (yG X st Q) m (.send .none) (s'.setGen g .running)) → QQ (some (.bool (!st))) s') :
    wpAny (model P w) A (pyNext (.ref a)) QQ E s := by
  obtain ⟨gs, hgs, hG⟩ := hr
  have hgl : g < s.gens.size := (Array.getElem?_eq_some_iff.mp hgs).1
  refine wpAny_gsz (n := g + 1) hgl (wpAny_pyNext_genexpQ (P := pG X st Q) hh hl hd hg hgs hG (fun v s₁ gs' hb hv => ?_) (fun s₁ hp h' hk => ?_))
  · intro hsz
    rw [setGen_size] at hsz
    obtain ⟨b, H, σ, rfl, I, q⟩ := hv
    have I1 : Inv X [] σ H (s₁.setGen g gs') := FB.Inv.woke I rfl rfl (allBare_setGen I.bare hb)
    by_cases e : b = st
    · rw [if_pos e] at q
      rw [e]
      exact hstop H σ _ I1 q
    · rw [if_neg e] at q
      have eb : b = !st := by cases b <;> cases st <;> first | rfl | exact absurd rfl e
      rw [eb]
      cases n with
      | zero => exact (q s₁ rfl rfl I.bare).elim
      | succ m =>
        have hx : s₁.heap.get? a = some go := (I.pin (a, go) (List.mem_append_left _ hpn)).1
        refine hgoon m H σ _ rfl I1 (hgo _ hx) I.nolimit ⟨gs', setGen_at (by omega), q _ rfl rfl (allBare_setGen I1.bare rfl)⟩
  · intro _
    obtain ⟨H, σ, I, q⟩ := hp
    refine hend H σ _ ?_ q
    have I1 : Inv X [] σ H (s₁.setGen g .finished) := FB.Inv.woke I rfl rfl (allBare_setGen I.bare rfl)
    exact I1.kept (t' := s₁.toks) hk
theorem any_loopG {X : Cx} (hp : X.prog = P) (hw : X.w = w) (hh : A.handled = none) (hd : A.depth < recursionLimit) (hpn : (a, go) ∈ X.pn) (hgo : ∀ h : Heap, h.get? a = some go → h.IsGen a g)
    (hres : ∀ b H σ s', Inv X [] σ H s' → Q (.bl b) H → R (.ok (.ret (.bool b))) s') : ∀ (n : Nat) (s : Shared), s.heap.IsGen a g → s.heap.NoLimit →
      (∃ gs, s.gens[g]? = some gs ∧ gs.Goes (model P w) A.in1.in1 (rG X true Q) (yG X true Q) n (.send .none) (s.setGen g .running)) →
      codeAny (model P w) A (.builtin "any.loop" ⟨[.ref a], []⟩) R s := by
  intro n
  induction n with
  | zero =>
    intro s hg hl hr
    refine codeAny_builtin F.entry_any_loop ?_
    rw [Around.under_plainId F.plain_any_loop _]
    show wpAny _ A.in1 (pyNext (.ref a) >>= _) _ _ s
    refine wpAny_bind (next_gen (A := A.in1) hp hw hh hd hpn hgo 0 s hg hl hr (fun H σ s' I q => ?_) (fun H σ s' I q => ?_) (fun m H σ s' e => ?_))
    · exact wpAny_bind (wpAny_rule (wpAny_pure (hres _ H σ s' I q)))
    · refine wpAny_bind (wpAny_holding (wpAny_truthy_bool ?_))
      refine wpAny_bind (wpAny_letGo ?_)
      simp only [if_true]
      exact wpAny_bind (wpAny_rule (wpAny_pure (hres _ H σ s' I q)))
    · cases e
  | succ n ih =>
    intro s hg hl hr
    refine codeAny_builtin F.entry_any_loop ?_
    rw [Around.under_plainId F.plain_any_loop _]
    show wpAny _ A.in1 (pyNext (.ref a) >>= _) _ _ s
    refine wpAny_bind (next_gen (A := A.in1) hp hw hh hd hpn hgo (n + 1) s hg hl hr (fun H σ s' I q => ?_) (fun H σ s' I q => ?_) (fun m H σ s' e I hg' hl' hr' => ?_))
    · exact wpAny_bind (wpAny_rule (wpAny_pure (hres _ H σ s' I q)))
    · refine wpAny_bind (wpAny_holding (wpAny_truthy_bool ?_))
      refine wpAny_bind (wpAny_letGo ?_)
      simp only [if_true]
      exact wpAny_bind (wpAny_rule (wpAny_pure (hres _ H σ s' I q)))
    · cases e
      refine wpAny_bind (wpAny_holding (wpAny_truthy_bool ?_))
      refine wpAny_bind (wpAny_letGo ?_)
      simp only [Bool.not_true, Bool.false_eq_true, if_false]
      exact wpAny_pure ⟨plainId_quiet F.plain_any_loop _, ih s' hg' hl' hr'⟩
theorem all_loopG {X : Cx} (hp : X.prog = P) (hw : X.w = w) (hh : A.handled = none) (hd : A.depth < recursionLimit) (hpn : (a, go) ∈ X.pn) (hgo : ∀ h : Heap, h.get? a = some go → h.IsGen a g)
    (hres : ∀ b H σ s', Inv X [] σ H s' → Q (.bl b) H → R (.ok (.ret (.bool b))) s') : ∀ (n : Nat) (s : Shared), s.heap.IsGen a g → s.heap.NoLimit →
      (∃ gs, s.gens[g]? = some gs ∧ gs.Goes (model P w) A.in1.in1 (rG X false Q) (yG X false Q) n (.send .none) (s.setGen g .running)) →
      codeAny (model P w) A (.builtin "all.loop" ⟨[.ref a], []⟩) R s := by
  intro n
  induction n with
  | zero =>
    intro s hg hl hr
    refine codeAny_builtin F.entry_all_loop ?_
    rw [Around.under_plainId F.plain_all_loop _]
    show wpAny _ A.in1 (pyNext (.ref a) >>= _) _ _ s
    refine wpAny_bind (next_gen (A := A.in1) hp hw hh hd hpn hgo 0 s hg hl hr (fun H σ s' I q => ?_) (fun H σ s' I q => ?_) (fun m H σ s' e => ?_))
    · exact wpAny_bind (wpAny_rule (wpAny_pure (hres _ H σ s' I q)))
    · refine wpAny_bind (wpAny_holding (wpAny_truthy_bool ?_))
      refine wpAny_bind (wpAny_letGo ?_)
      simp only [Bool.false_eq_true, if_false]
      exact wpAny_bind (wpAny_rule (wpAny_pure (hres _ H σ s' I q)))
    · cases e
  | succ n ih =>
    intro s hg hl hr
    refine codeAny_builtin F.entry_all_loop ?_
    rw [Around.under_plainId F.plain_all_loop _]
    show wpAny _ A.in1 (pyNext (.ref a) >>= _) _ _ s
    refine wpAny_bind (next_gen (A := A.in1) hp hw hh hd hpn hgo (n + 1) s hg hl hr (fun H σ s' I q => ?_) (fun H σ s' I q => ?_) (fun m H σ s' e I hg' hl' hr' => ?_))
    · exact wpAny_bind (wpAny_rule (wpAny_pure (hres _ H σ s' I q)))
    · refine wpAny_bind (wpAny_holding (wpAny_truthy_bool ?_))
      refine wpAny_bind (wpAny_letGo ?_)
      simp only [Bool.false_eq_true, if_false]
      exact wpAny_bind (wpAny_rule (wpAny_pure (hres _ H σ s' I q)))
    · cases e
      refine wpAny_bind (wpAny_holding (wpAny_truthy_bool ?_))
      refine wpAny_bind (wpAny_letGo ?_)
      simp only [Bool.not_false, if_true]
      exact wpAny_pure ⟨plainId_quiet F.plain_all_loop _, ih s' hg' hl' hr'⟩
end
end FB

namespace FB
open PySem PySem.Spec PyProof.Rows L2 GenW
/-- any, all of a generator expression; st: the bool at which the walk ends -/
def tGenB (st : Bool) (P : Addr) (wi : TI) (g : TG) (te : TE) (vs : List Nat) : TE := fun σ H Q => wi σ H fun J H1 => H1 P = some (TabX P) ∧ ∃ W : Nat → Nat → Hp → Prop, (∃ m, W 0 m H1) ∧ GStep st J g te σ vs Q W
section
variable {X : Cx} {pins : List (Addr × Obj)} {σ : L2.St} {H : Hp} {s : Shared} {st : Bool} {c P : Addr} {elt iter : Expr} {x : Str} {px gpos : Pos} {scope : Scope} {own : List (Str × Nat)} {wi : TI} {g : TG} {te : TE} {k : Nat} {Q : VK} {Q' : Value → Shared → Prop}
theorem room_gen {cenv : Env} (hr : Room (k + 1) X.A) : Room k (gA X cenv) := ⟨hr.hd, by have := hr.dp; show X.A.depth + 1 + 3 * k + 5 < _; omega, by have := hr.un; show X.A.units + 1 + 1 + 3 + 16 * k + 200 < _; omega⟩
theorem gen_core (hr : Room (k + 1) X.A) (hc : X.calm = true) (hN : X.N.Nodup) (TB : LamX.TabB X.base X.mg c P) (hcode : X.env.code = .ref c) (ok : BlkOk X.N X.env.scope scope own) (hsc : genC scope = true)
    (hi : PI X (.Name x px) iter wi) (hg : ∀ (s : Shared) (H : Hp) (C : Addr) (cl : List (Str × Addr)) (code : Value) (fp : List Addr) (pn : List (Addr × Obj)), PG (gCx X s H (genEnv scope cl C code builtinsNs X.env) fp pn) (.Name x px) g)
    (he : ∀ (s : Shared) (H : Hp) (C : Addr) (cl : List (Str × Addr)) (code : Value) (fp : List Addr) (pn : List (Addr × Obj)), Room k (gA X (genEnv scope cl C code builtinsNs X.env)) → PE (gCx X s H (genEnv scope cl C code builtinsNs X.env) fp pn) elt te)
    (hs : ∀ v, genFold iter X.env v = pure v) (I : Inv X pins σ H s) (h : tGenB st P wi g te (own.map (·.2)) σ H Q)
    (hQ : ∀ (XG : Cx) (a : Addr) (go : Obj) (gi n : Nat) (s5 : Shared), XG.prog = X.prog → XG.w = X.w → (a, go) ∈ XG.pn → (∀ h : Heap, h.get? a = some go → h.IsGen a gi) → s5.heap.IsGen a gi → s5.heap.NoLimit →
      (∃ gs, s5.gens[gi]? = some gs ∧ gs.Goes (model X.prog X.w) X.A.in1.in1 (rG XG st Q) (yG XG st Q) n (.send .none) (s5.setGen gi .running)) →
      (∀ b H' σ' s', Inv XG [] σ' H' s' → Q (.bl b) H' → EP X pins σ Q (.bool b) s') → Q' (.ref a) s5) :
    wpAny (model X.prog X.w) X.A (eval (.GeneratorExp elt [⟨.Name x px, iter, [], 0⟩] scope gpos) X.env) Q' X.xe s := by
  have hsc2 : scope.isCoroutine = false ∧ (∀ y ∈ scope.names, y.2 ≠ .cell) ∧ scope.names.lookup (".0" : Str) = some NameKind.local := by
    unfold genC at hsc
    simp only [Bool.and_eq_true, List.all_eq_true, decide_eq_true_eq, Bool.not_eq_true'] at hsc
    exact ⟨hsc.1.1, hsc.1.2, hsc.2⟩
  obtain ⟨hco, hcell, hdot⟩ := hsc2
  have hfree : ∀ y ∈ scope.names, y.2 = .free → ∃ c, X.env.cells.lookup y.1 = some c := fun y hy e => by
    rcases ok.free y hy e with k | k
    · exact I.ok.has _ (.inl k)
    · exact I.ok.has _ (.inr k)
  refine wpAny_GeneratorExp_make hco (closure_ok hfree) hcell hdot ok.kind (by have := hr.dp; omega) ?_ hs
  refine thn (hi.run pins s σ H _ I h) fun v s1 h1 => thn h1 fun itv s2 h2 => ?_
  obtain ⟨it, fp, tn, J, H2, rfl, I2, T, st2, f2, hP, W, ⟨m0, w0⟩, step⟩ := h2
  obtain ⟨ps, hPs, ht⟩ := (I2.hok P _ hP).1
  have sz : ∀ b ∈ fp, b < s2.heap.objs.size := fun b hb => by
    obtain ⟨o, e, _⟩ := T.obj _ _ st2 b hb
    exact Heap.lt_size e
  have cd : PySem.W.CodeHd s2.heap c P := TB.code.keeps fun b u e => I2.bk b u e
  have cont : ∀ (code : Value) (h3 : Heap) (tk : Nat) (ps' : Array Value), Heap.ExtBut P s2.heap h3 → s2.heap.objs.size ≤ h3.objs.size → h3.get? P = some { cls := .none, data := .fields ps' } → TriplesOk ps'.toList →
      wpAny (model X.prog X.w) X.A (builtinsFor X.env.globals X.env.builtins) (fun bi s₄ =>
        ∀ h', h'.Ns s₄.heap.objs.size (fun y => if y = ".0" then some (.ref it) else none) → Heap.SameBut s₄.heap.objs.size (s₄.heap.push { cls := .type "frame", data := .dict #[] }) h' →
          Q' (.ref h'.objs.size) { s₄ with
            gens := s₄.gens.push (.fresh (.compStart (.GeneratorExp elt [⟨.Name x px, iter, [], 0⟩] scope gpos) 0 (.ref it) .none (genEnv scope (cloFrom X.env.cells scope.names []) s₄.heap.objs.size code bi X.env))),
            toks := s₄.toks + 1 + 1 + 1,
            heap := h'.push { cls := .type "generator", data := .fields #[.int s₄.gens.size 0, .str "<genexpr>" (s₄.toks + 1), .str (X.env.qual ++ "<genexpr>") (s₄.toks + 1 + 1)] } }) X.xe { s2 with heap := h3, toks := tk } := by
    intro code h3 tk ps' hx hsz hP3 ht3
    obtain ⟨bm, ob, e1, e2, e3, e4, e5, e6, e7, e8⟩ := TB.bm
    have keep3 : ∀ b u, b ≠ P → s2.heap.get? b = some u → h3.get? b = some u := fun b u hb e => hx b u hb e
    refine wpAny_builtinsFor (m := X.mg) (by rw [I2.ok.glob]; exact (I2.mod.glob.keeps I2.bk).extBut hx TB.gP) e1 e2 (keep3 _ _ e4 (I2.bk _ _ e5)) e6 e7 e8 ?_
    have I3 : Inv X pins σ H2 { s2 with heap := h3, toks := tk } := inv_tabX I2 hP keep3 hP3 ht3
    generalize hs3 : ({ s2 with heap := h3, toks := tk } : Shared) = s3 at I3 ⊢
    have e3h : s3.heap = h3 := by rw [← hs3]
    have nfp : ∀ b ∈ fp, H2 b = none := fun b hb => (f2 b hb).1
    have neP : ∀ b ∈ fp, b ≠ P := fun b hb z => by
      have := nfp b hb
      rw [z, hP] at this
      cases this
    have f3 : ∀ b ∈ fp, FpOk X pins H2 b ∧ b < s3.heap.objs.size := fun b hb => ⟨f2 b hb, by rw [e3h]; exact Nat.lt_of_lt_of_le (sz b hb) hsz⟩
    have st3 : tn 0 s3.heap := T.keep _ _ _ st2 fun b hb o e => by rw [e3h]; exact keep3 b o (neP b hb) e
    intro h' hns hsb
    have hsz' : h'.objs.size = s3.heap.objs.size + 1 := by rw [hsb.1, Heap.size_push]
    generalize hgo : ({ cls := .type "generator", data := .fields #[.int s3.gens.size 0, .str "<genexpr>" (s3.toks + 1), .str (X.env.qual ++ "<genexpr>") (s3.toks + 1 + 1)] } : Obj) = go
    have keep' : ∀ b o, s3.heap.get? b = some o → h'.get? b = some o := fun b o e => hsb.extBut b o (Nat.ne_of_lt (Heap.lt_size e)) (Heap.get?_push_of_some _ e)
    have keep5 : ∀ b o, s3.heap.get? b = some o → (h'.push go).get? b = some o := fun b o e => Heap.get?_push_of_some _ (keep' b o e)
    have ha : (h'.push go).get? h'.objs.size = some go := Heap.get?_push_size _ (by rw [← hgo]; rfl)
    have hgd : ∀ v, go.data ≠ .cell v := fun v z => by rw [← hgo] at z; cases z
    have hga : s3.heap.objs.size < h'.objs.size := by omega
    have hfr : (.fresh (.compStart (.GeneratorExp elt [⟨.Name x px, iter, [], 0⟩] scope gpos) 0 (.ref it) .none (genEnv scope (cloFrom X.env.cells scope.names []) s3.heap.objs.size code builtinsNs X.env)) : GenState).bare = true := rfl
    have I5 := gen_start (h5 := h'.push go) (a := h'.objs.size) (go := go) (g' := s3.gens.push (.fresh (.compStart (.GeneratorExp elt [⟨.Name x px, iter, [], 0⟩] scope gpos) 0 (.ref it) .none (genEnv scope (cloFrom X.env.cells scope.names []) s3.heap.objs.size code builtinsNs X.env)))) (tk := s3.toks + 1 + 1 + 1) (code := code)
      I3 ok hN f3 (hns.push go) keep5 ha hga hgd (I3.bare.push hfr) hr.hd hcell
    have isg : ∀ h : Heap, h.get? h'.objs.size = some go → h.IsGen h'.objs.size s3.gens.size := fun h e => ⟨go, _, _, e, by rw [← hgo], by rw [← hgo], by rw [← hgo]⟩
    have hpn : ∀ b ∈ fp, ∀ p ∈ [(h'.objs.size, go)], p.1 ≠ b := fun b hb p hp => by
      have e : p = (h'.objs.size, go) := by simpa using hp
      rw [e]
      exact Nat.ne_of_gt (Nat.lt_trans (f3 b hb).2 hga)
    refine hQ (gCx X s3 H2 (genEnv scope (cloFrom X.env.cells scope.names []) s3.heap.objs.size code builtinsNs X.env) fp [(h'.objs.size, go)]) h'.objs.size go s3.gens.size (m0 + 1) _ rfl rfl List.mem_cons_self isg (isg _ ha) I5.nolimit ⟨_, Array.getElem?_push_size .., rfl, ?_⟩ ?_
    · have I6 := FB.Inv.woke (s' := ({ s3 with gens := s3.gens.push (.fresh (.compStart (.GeneratorExp elt [⟨.Name x px, iter, [], 0⟩] scope gpos) 0 (.ref it) .none (genEnv scope (cloFrom X.env.cells scope.names []) s3.heap.objs.size code builtinsNs X.env))), toks := s3.toks + 1 + 1 + 1, heap := h'.push go } : Shared).setGen s3.gens.size .running) I5 rfl rfl (allBare_setGen I5.bare rfl)
      exact seg_gen0 hc hco T hpn (hg _ _ _ _ _ _ _) (he _ _ _ _ _ _ _ (room_gen hr)) step (m0 + 1) m0 H2 _ _ w0 (Nat.lt_succ_self _) I6 (T.keep _ _ _ st3 fun b hb o e => keep5 b o e) nfp
    · intro b H' σ' s' I' q
      refine ⟨.bl b, H', I3.call' (ch := fp) I'.os I'.base I'.hok I'.bare fun b hb => ⟨(f3 b hb).1.2.2.2.1, (f3 b hb).1.2.1, (f3 b hb).1.2.2.2.2.1, (f3 b hb).1.2.2.2.2.2⟩, rfl, q⟩
  refine ⟨I2.nolimit, ?_⟩
  cases hf : codeAmong gpos ps.toList with
  | none =>
    refine wpAny_genexprCodeX hcode (cd.code hPs ht) (cd.tab hPs) hf fun c' h' tk hx hge hlt hco' _ htab' _ => ?_
    obtain ⟨o1, vs, f1, tf, fl, tg, inF, tx, tt, op, _, _, _, _, _, _, _, _, _, htr, _⟩ := hco'
    exact cont _ h' tk _ hx (Nat.le_trans hge (Nat.le_of_lt hlt)) htab'.2 htr
  | some cv =>
    refine wpAny_genexprCode_hit hcode (cd.code hPs ht) hf ?_
    exact cont cv s2.heap s2.toks ps (Heap.ExtBut.refl _ _) (Nat.le_refl _) hPs ht
theorem pe_anyG {p pos : Pos} (hr : Room (k + 1) X.A) (hc : X.calm = true) (hN : X.N.Nodup) (hgl : Gl X "any") (hm : X.mg "any" = none) (TB : LamX.TabB X.base X.mg c P) (hcode : X.env.code = .ref c) (hi : PI X (.Name x px) iter wi) (ok : BlkOk X.N X.env.scope scope own) (hsc : genC scope = true)
    (hg : ∀ (s : Shared) (H : Hp) (C : Addr) (cl : List (Str × Addr)) (code : Value) (fp : List Addr) (pn : List (Addr × Obj)), PG (gCx X s H (genEnv scope cl C code builtinsNs X.env) fp pn) (.Name x px) g)
    (he : ∀ (s : Shared) (H : Hp) (C : Addr) (cl : List (Str × Addr)) (code : Value) (fp : List Addr) (pn : List (Addr × Obj)), Room k (gA X (genEnv scope cl C code builtinsNs X.env)) → PE (gCx X s H (genEnv scope cl C code builtinsNs X.env) fp pn) elt te)
    (hs : ∀ v, genFold iter X.env v = pure v := by intro _; rfl)
    (he' : starEach [.GeneratorExp elt [⟨.Name x px, iter, [], 0⟩] scope gpos] X.env = (false, eval (.GeneratorExp elt [⟨.Name x px, iter, [], 0⟩] scope gpos) X.env) :: starEach [] X.env := by rfl) :
    PE X (.Call (.Name "any" p) [.GeneratorExp elt [⟨.Name x px, iter, [], 0⟩] scope gpos] [] pos) (tGenB true P wi g te (own.map (·.2))) := by
  refine ⟨fun pins s σ H Q I h => ?_⟩
  refine wpAny_Call_Name_kw (ld_blt I hgl hm boot_any ?_)
  refine PyProof.Rows.callWith_builtin1 ?_ he' (by rfl)
  rw [he']
  show wpAny _ _ (spliced ((false, eval (.GeneratorExp elt [⟨.Name x px, iter, [], 0⟩] scope gpos) X.env) :: backTo pos (starEach [] X.env))) _ _ s
  refine Calls.spliced_cons (gen_core hr hc hN TB hcode ok hsc hi hg he hs I h fun XG a go gi n s5 hp hw hpn hgo hg5 hl5 hr5 hres => ?_)
  refine Calls.spliced_nil ?_
  refine call_function_tree F.kind_any F.plain_any F.entry_any (F.args_any1 _) ?_
  unfold Builtin.«any»
  refine wpAny_bind (m := oneArg "any" _) (wpAny_pure ?_)
  refine wpAny_bind (wpAny_pyIter_gen hg5 ?_)
  exact wpAny_pure ⟨plainId_quiet F.plain_any_loop _, any_loopG hp hw hr.hd (by have := hr.dp; show X.A.depth < _; omega) hpn hgo (fun b H' σ' s' I' q => hres b H' σ' s' I' q) n s5 hg5 hl5 hr5⟩
theorem pe_allG {p pos : Pos} (hr : Room (k + 1) X.A) (hc : X.calm = true) (hN : X.N.Nodup) (hgl : Gl X "all") (hm : X.mg "all" = none) (TB : LamX.TabB X.base X.mg c P) (hcode : X.env.code = .ref c) (hi : PI X (.Name x px) iter wi) (ok : BlkOk X.N X.env.scope scope own) (hsc : genC scope = true)
    (hg : ∀ (s : Shared) (H : Hp) (C : Addr) (cl : List (Str × Addr)) (code : Value) (fp : List Addr) (pn : List (Addr × Obj)), PG (gCx X s H (genEnv scope cl C code builtinsNs X.env) fp pn) (.Name x px) g)
    (he : ∀ (s : Shared) (H : Hp) (C : Addr) (cl : List (Str × Addr)) (code : Value) (fp : List Addr) (pn : List (Addr × Obj)), Room k (gA X (genEnv scope cl C code builtinsNs X.env)) → PE (gCx X s H (genEnv scope cl C code builtinsNs X.env) fp pn) elt te)
    (hs : ∀ v, genFold iter X.env v = pure v := by intro _; rfl)
    (he' : starEach [.GeneratorExp elt [⟨.Name x px, iter, [], 0⟩] scope gpos] X.env = (false, eval (.GeneratorExp elt [⟨.Name x px, iter, [], 0⟩] scope gpos) X.env) :: starEach [] X.env := by rfl) :
    PE X (.Call (.Name "all" p) [.GeneratorExp elt [⟨.Name x px, iter, [], 0⟩] scope gpos] [] pos) (tGenB false P wi g te (own.map (·.2))) := by
  refine ⟨fun pins s σ H Q I h => ?_⟩
  refine wpAny_Call_Name_kw (ld_blt I hgl hm (show bootBuiltins "all" = some (.builtin "all") by decide +kernel) ?_)
  refine PyProof.Rows.callWith_builtin1 ?_ he' (by rfl)
  rw [he']
  show wpAny _ _ (spliced ((false, eval (.GeneratorExp elt [⟨.Name x px, iter, [], 0⟩] scope gpos) X.env) :: backTo pos (starEach [] X.env))) _ _ s
  refine Calls.spliced_cons (gen_core hr hc hN TB hcode ok hsc hi hg he hs I h fun XG a go gi n s5 hp hw hpn hgo hg5 hl5 hr5 hres => ?_)
  refine Calls.spliced_nil ?_
  refine call_function_tree F.kind_all F.plain_all F.entry_all (F.args_all1 _) ?_
  unfold Builtin.«all»
  refine wpAny_bind (m := oneArg "all" _) (wpAny_pure ?_)
  refine wpAny_bind (wpAny_pyIter_gen hg5 ?_)
  exact wpAny_pure ⟨plainId_quiet F.plain_all_loop _, all_loopG hp hw hr.hd (by have := hr.dp; show X.A.depth < _; omega) hpn hgo (fun b H' σ' s' I' q => hres b H' σ' s' I' q) n s5 hg5 hl5 hr5⟩
end
end FB

namespace FB
open PySem PySem.Spec PyProof.Rows L2
/-! ### the end of a law with tables -/
abbrev Tabs (cs : List (Addr × Addr)) (H : Hp) : Prop := ∀ p ∈ cs, H p.2 = some (TabX p.2)
abbrev emptyTab : Obj := { cls := .none, data := .fields #[] }
section
variable {P : Program} {w : World} {K : PySem.W.Frag} {mg mb : Str → Option Value} {k : Nat} {fa a : Addr} {cs : List (Addr × Addr)} {fd : FuncData} {x : Str} {sp : Sp} {s₁ : Shared} {vs : List Value} {ns : List Int}
/-- the heap at the law's entry: the script (if it is not written), the tables -/
def heap0 (K : PySem.W.Frag) (a : Addr) (o : Obj) (xs : List V) (cs : List (Addr × Addr)) : Hp := fun b => if b ∈ cs.map (·.2) then some (TabX b) else if b = a ∧ K.lookup a = none then some (.frz o (.lst xs)) else none
theorem law_callX (KX : K.In s₁.heap) (gN : s₁.heap.Ns mainGlobals mg) (bN : s₁.heap.Ns builtinsNs mb) (bB : ∀ x : Str, x ≠ "__name__" → mb x = bootBuiltins x) (lim : s₁.heap.NoLimit) (g0 : s₁.gens = #[])
    (hT : ∀ p ∈ cs, s₁.heap.get? p.2 = some emptyTab) (nT : ∀ p ∈ cs, K.lookup p.2 = none) (cH : ∀ p ∈ cs, PySem.W.CodeHd s₁.heap p.1 p.2)
    (bM : ∃ (bm : Addr) (ob : Obj), mg "__builtins__" = some (.ref bm) ∧ bm ≠ builtinsNs ∧ s₁.heap.get? bm = some ob ∧ ob.cls = .type "module" ∧ ob.dict = some builtinsNs ∧ ob.data = .plain)
    (ha : s₁.heap.get? a = some { cls := .type "list", data := .seq vs.toArray }) (hi : IntsAre vs ns) (hl : ns.length ≤ sizeLine) (hr : Room k callerA)
    (F : ∀ base : Heap, K.In base → base.Ns mainGlobals mg → (∀ p ∈ cs, LamX.TabB base mg p.1 p.2) → FnOk P w K mg base CX0 k fa fd [x] sp) (bd : ∀ (s : Shared) (u : Value), BindsTo s fd ⟨[u], []⟩ [(x, u)])
    (hsp : ∀ H : Hp, Tabs cs H → SqL K H a (ns.map V.int) → sp [.ref a] H (fun v H' => v = .bl true ∧ Tabs cs H') fun _ _ _ => False) :
    codeAny (model P w) callerA (.call (.ref fa) ⟨[.ref a], []⟩) (fun r s' => r = .ok (.ret (.bool true)) ∧ OldK s₁.heap s'.heap ∧ s'.os = s₁.os ∧ AllBare s'.gens) s₁ := by
  have rv := vals_ints hi
  have lenV := hi.length
  have tabAt : ∀ b, b ∈ cs.map (·.2) → s₁.heap.get? b = some emptyTab := fun b hb => by
    obtain ⟨p, hp, e⟩ := List.mem_map.mp hb
    exact e ▸ hT p hp
  have inT : ∀ p ∈ cs, p.2 ∈ cs.map (·.2) := fun p hp => List.mem_map.mpr ⟨p, hp, rfl⟩
  have aT : a ∉ cs.map (·.2) := fun z => by
    have q := congrArg Obj.data (Option.some.inj ((tabAt a z).symm.trans ha))
    cases q
  generalize hH : heap0 K a { cls := .type "list", data := .seq vs.toArray } (ns.map V.int) cs = H
  have H_tab : Tabs cs H := fun p hp => by rw [← hH]; exact if_pos (inT p hp)
  have H_is : ∀ b u, H b = some u → (b ∈ cs.map (·.2) ∧ u = TabX b) ∨ (b = a ∧ K.lookup a = none ∧ u = .frz { cls := .type "list", data := .seq vs.toArray } (.lst (ns.map V.int))) := fun b u e => by
    rw [← hH] at e
    unfold heap0 at e
    split at e
    · rename_i hb
      exact .inl ⟨hb, (Option.some.inj e).symm⟩
    · split at e
      · rename_i hb
        exact .inr ⟨hb.1, hb.2, (Option.some.inj e).symm⟩
      · cases e
  have hok : HOk P w H s₁.heap := fun b u e => by
    rcases H_is b u e with ⟨hb, rfl⟩ | ⟨rfl, _, rfl⟩
    · exact tabX_ok (tabAt b hb) trivial
    · exact ⟨ha, by rw [List.length_map]; exact hl, vs, _, rv, ha⟩
  have hS : SqL K H a (ns.map V.int) := by
    cases hk : K.lookup a with
    | none => exact .inl (.inr ⟨{ cls := .type "list", data := .seq vs.toArray }, by rw [← hH]; exact (if_neg aT).trans (if_pos ⟨rfl, hk⟩)⟩)
    | some o =>
      have e := KX a o hk
      rw [ha] at e
      cases e
      exact .inr ⟨_, vs.toArray, _, hk, rfl, rfl, rfl, by rw [List.size_toArray, lenV]; exact hl, by simpa using rv⟩
  -- nothing but a list or an empty table is tracked
  have free : ∀ {b : Addr} {o : Obj}, s₁.heap.get? b = some o → (∀ us n, o.data ≠ .seq us n) → o.data ≠ .fields #[] → H b = none := fun {b o} e h1 h2 => by
    cases q : H b with
    | none => rfl
    | some u =>
      rcases H_is b u q with ⟨hb, _⟩ | ⟨rfl, _, _⟩
      · rw [tabAt b hb] at e
        exact absurd (congrArg Obj.data (Option.some.inj e)).symm h2
      · rw [ha] at e
        exact absurd (congrArg Obj.data (Option.some.inj e)).symm (h1 _ _)
  have nsH : ∀ {b : Addr} {m : Str → Option Value}, s₁.heap.Ns b m → (hidT s₁.heap H).Ns b m := fun {b m} ⟨o, es, ep, e, d, r⟩ =>
    ⟨o, es, ep, hidT_get e (free e (fun us n z => by rw [d] at z; cases z) fun z => by rw [d] at z; cases z), d, r⟩
  have KH : K.In (hidT s₁.heap H) := fun b o e => hidT_get (KX b o e) (by
    cases q : H b with
    | none => rfl
    | some u =>
      rcases H_is b u q with ⟨hb, _⟩ | ⟨rfl, hk, _⟩
      · obtain ⟨p, hp, ep⟩ := List.mem_map.mp hb
        rw [← ep, nT p hp] at e
        cases e
      · rw [hk] at e
        cases e)
  have TB : ∀ p ∈ cs, LamX.TabB (hidT s₁.heap H) mg p.1 p.2 := fun p hp => by
    have hTp := hT p hp
    refine ⟨?_, ?_, fun z => ?_⟩
    · obtain ⟨o, us, file, tf, flags, tg, inF, text, tt, e1, r1, r2, r3, rr⟩ := cH p hp
      refine ⟨o, us, file, tf, flags, tg, inF, text, tt, hidT_get e1 (free e1 (fun us' n z => by rw [r2] at z; cases z) fun z => ?_), r1, r2, r3, rr⟩
      rw [r2] at z
      cases z
      simp at r3
    · obtain ⟨bm, ob, b1, b2, b3, b4, b5, b6⟩ := bM
      refine ⟨bm, ob, b1, b2, fun q => ?_, fun q => ?_, hidT_get b3 (free b3 (fun us n z => by rw [b6] at z; cases z) fun z => by rw [b6] at z; cases z), b4, b5, b6⟩
      · obtain ⟨o, es, ep, e, d, _⟩ := gN
        rw [q, e] at b3
        cases b3
        rw [d] at b6
        cases b6
      · rw [q, hTp] at b3
        cases b3
        cases b6
    · obtain ⟨o, es, ep, e, d, _⟩ := gN
      rw [z, hTp] at e
      cases e
      cases d
  have e0 : Env0 P w K mg (hidT s₁.heap H) callerA [] s₁ H := ⟨rfl, ⟨KH, nsH gN, ⟨mb, nsH bN, bB⟩, let ⟨mc, h1, h2⟩ := lim; ⟨mc, nsH h1, h2⟩⟩, fun b o e => of_hidT e, Nat.le_of_eq (hidT_size _ _), trivial, fun b hb => absurd (show b ∈ ([] : List Addr) from hb) (by simp), hok, .of_eq g0⟩
  refine codeAny_mono ((F _ KH (nsH gN) TB).run callerA [] s₁ H ⟨[.ref a], []⟩ [.ref a] [.ref a] _ _ hr e0 (bd s₁ (.ref a)) (.cons rfl .nil) (hsp H H_tab hS)) fun r s' h => ?_
  cases r with
  | error e => exact False.elim h
  | ok fl =>
    cases fl with
    | next => exact False.elim h
    | brk => exact False.elim h
    | cont => exact False.elim h
    | ret u =>
      obtain ⟨v, H', os, bare, un, hok', r', q⟩ := h
      obtain ⟨rfl, hT'⟩ := q
      obtain rfl : u = Value.bool true := r'
      have stays : ∀ b o, b ∉ cs.map (·.2) → s₁.heap.get? b = some o → s'.heap.get? b = some o := fun b o nb e => by
        cases q : H b with
        | none => exact un.keep b o e q (fun z => absurd (show b ∈ ([] : List Addr) from z) (by simp)) (by simp)
        | some u =>
          rcases H_is b u q with ⟨hb, _⟩ | ⟨_, _, rfl⟩
          · exact absurd hb nb
          · have z2 := un.frzs b _ _ q
            obtain ⟨e1, _⟩ := hok b _ q
            obtain ⟨e2, _⟩ := hok' b _ z2
            rw [e] at e1
            cases e1
            exact e2
      have grown : ∀ p ∈ cs, ∃ more : Array Value, s'.heap.get? p.2 = some { cls := .none, data := .fields more } := fun p hp => by
        obtain ⟨ps, e, _⟩ := (hok' p.2 _ (hT' p hp)).1
        exact ⟨ps, e⟩
      refine ⟨rfl, ⟨fun b o e => ?_, fun b o e => ?_⟩, os, bare⟩
      · by_cases hb : b ∈ cs.map (·.2)
        · obtain ⟨p, hp, rfl⟩ := List.mem_map.mp hb
          obtain ⟨more, hm⟩ := grown p hp
          rw [hT p hp] at e
          cases e
          exact .inr (.inl ⟨((cH p hp).tab (hT p hp)).isCodeTable, rfl, #[], more, rfl, by rw [Array.empty_append]; exact hm⟩)
        · exact .inl (stays b o hb e)
      · by_cases hb : b ∈ cs.map (·.2)
        · obtain ⟨p, hp, rfl⟩ := List.mem_map.mp hb
          obtain ⟨more, hm⟩ := grown p hp
          exact ⟨_, hm⟩
        · exact ⟨o, stays b o hb e⟩
/-- what is known of the law's promise at the head's heap -/
def LawX (l : PySem.W.OpenLaw) (w : World) (K : PySem.W.Frag) (k n : Nat) (x : Str) (mg : Str → Option Value) (fa : Addr) (h : Heap) : Prop :=
  ∃ (fd : FuncData) (cs : List (Addr × Addr)) (sp : Sp), (∀ p ∈ cs, h.get? p.2 = some emptyTab) ∧ (∀ p ∈ cs, K.lookup p.2 = none) ∧ (∀ p ∈ cs, PySem.W.CodeHd h p.1 p.2) ∧ (∀ (s : Shared) (u : Value), BindsTo s fd ⟨[u], []⟩ [(x, u)]) ∧
    (∀ (H : Hp) (a : Addr) (ns : List Int), ns.length ≤ n → (∀ z ∈ ns, Builtin.Int.intBits z ≤ 1048576) → Tabs cs H → SqL K H a (ns.map V.int) → sp [.ref a] H (fun v H' => v = .bl true ∧ Tabs cs H') fun _ _ _ => False) ∧
    ∀ base : Heap, K.In base → base.Ns mainGlobals mg → (∀ p ∈ cs, LamX.TabB base mg p.1 p.2) → FnOk l.prog w K mg base CX0 k fa fd [x] sp
theorem walk_ofX {l : PySem.W.OpenLaw} {n k : Nat} {q : Program} {loose : List Str} {XP : (Str → Option Value) → Heap → Prop} {YP : World → Heap → Prop} {d : DefRec} {K : Params → PySem.W.Frag} {x : Str}
    (hn : l.most = some n) (hn2 : n ≤ sizeLine) (hdf : d.params.defaults = []) (hr : Room k callerA) (hY : ∀ (w : World) (h : Heap), YP w h → (K w.params).In h)
    (F : ∀ (w : World) (mg : Str → Option Value) (fa : Addr) (h : Heap), YP w h → (K w.params).In h → h.Ns mainGlobals mg → mg d.name = some (.ref fa) → LawX l w (K w.params) k n x mg fa h) :
    PySem.W.WalkO q loose XP YP l.row.toRowW d [] (fun f vs => PySem.call f vs) := by
  refine Att.attach_callB hn hdf fun w s₀ s₁ mg mb fa o pm cd doc a vs ns G Y ho hd hcd hmg hobj hints hlen hbits hg => ?_
  obtain ⟨fd, cs, sp, h1, h2, h3, hb, hsp, hF⟩ := F w mg fa _ Y (hY w _ Y) G.T.g hmg
  exact law_callX (hY w _ Y) G.T.g G.T.b G.T.builtins G.T.nolimit hg h1 h2 h3 G.T.bmain hobj hints (Nat.le_trans hlen hn2) hr hF hb (fun H hH hS => hsp H a ns hlen hbits hH hS)
end
end FB
namespace FB
open PySem PySem.Spec PyProof.Rows L2
/-! ### defs and methods with a known code object -/
theorem funC_mk {K : PySem.W.Frag} {x qual : Str} {st : Stmt} {f c : Addr} {oc : Value} {od an : Option Addr} {osl : Array (Option Value)} {kV doc pm ct : Value} (l : K.lookup f = some ⟨oc, od, .func (PySem.W.fnOf x qual (defArgs st) (defBody st) (defScope st) .none kV doc pm an (.ref c) ct), osl⟩)
    (cd : PySem.W.codeIn K (.ref c) qual = true) (kp : PySem.W.keepIn K (.ref f) = true) : FunC K x qual st f (PySem.W.fnOf x qual (defArgs st) (defBody st) (defScope st) .none kV doc pm an (.ref c) ct) c := ⟨⟨oc, od, kV, doc, pm, an, ct, osl, rfl, l, cd⟩, kp⟩
def spLawX (K : PySem.W.Frag) (cs : List (Addr × Addr)) : Sp := fun vs H Q _ => ∃ (a : Addr) (ns : List Int), vs = [.ref a] ∧ SqL K H a (ns.map V.int) ∧ ns.length ≤ 63 ∧ Tabs cs H ∧ ∀ H' : Hp, Tabs cs H' → Q (.bl true) H'
end FB

namespace FB
open PySem PySem.Spec PyProof.Rows L2
def DefAtC (K : PySem.W.Frag) (mg : Str → Option Value) (x : Str) (st : Stmt) (ps : List Str) (c : Addr) : Prop :=
  ∃ f fd, FunC K x x st f fd c ∧ mg x = some (.ref f) ∧ L2.Binds K fd ps []
theorem DefAtC.ok {P : Program} {w : World} {K : PySem.W.Frag} {mg : Str → Option Value} {base : Heap} {k : Nat} {x : Str} {st : Stmt} {ps : List Str} {sp : Sp} {c : Addr} (A : DefAtC K mg x st ps c)
    (h : ∀ f fd, FunC K x x st f fd c → FnOk P w K mg base CX0 k f fd ps sp) : DefOk P w K mg base k x ps sp := by
  obtain ⟨f, fd, F, hm, hb⟩ := A
  exact ⟨f, fd, h f fd F, hm, F.kp, hb⟩
end FB

namespace FB
open PySem PySem.Spec PyProof.Rows L2
theorem cr_anyK {X : Cx} {K : PySem.W.Frag} (hK : X.K = K) (hc : X.calm = true) : CallR X (.builtin "any") (rAny K) := by
  subst hK
  exact cr_any hc
theorem cr_allK {X : Cx} {K : PySem.W.Frag} (hK : X.K = K) (hc : X.calm = true) : CallR X (.builtin "all") (rAll K) := by
  subst hK
  exact cr_all hc
theorem pi_listK {X : Cx} {K : PySem.W.Frag} {tg l : Expr} {tl : TE} (hK : X.K = K) (hl : PE X l tl) : PI X tg l (iList K tl) := by
  subst hK
  exact pi_list hl
theorem pi_tupK {X : Cx} {K : PySem.W.Frag} {tg l : Expr} {tl : TE} (hK : X.K = K) (hl : PE X l tl) : PI X tg l (iTup K tl) := by
  subst hK
  exact pi_tup hl
theorem any_congr {α : Type} {p q : α → Bool} : ∀ {l : List α}, (∀ x ∈ l, p x = q x) → l.any p = l.any q
  | [], _ => rfl
  | x :: r, h => by
    rw [List.any_cons, List.any_cons, h x (by simp), any_congr (l := r) fun y hy => h y (by simp [hy])]
/-! ### any, all over a list, a tuple -/
section
variable {K : PySem.W.Frag} {a : Addr} {xs : List V} {g : TG} {te : TE} {σ : L2.St} {vs : List Nat} {Q : VK} {st : Bool} {H : Hp}
theorem ge_list (Pv : Nat → Hp → Prop) (h0 : Pv 0 H) (hl : ∀ i H, i ≤ xs.length → Pv i H → SqL K H a xs)
    (hs : ∀ i x H, xs[i]? = some x → Pv i H → g x (wipe σ vs) H fun σ2 H2 => wipe σ2 vs = wipe σ vs ∧ te σ2 H2 fun v H3 => ∃ b : Bool, v = .bl b ∧ if b = st then Q (.bl st) H3 else Pv (i + 1) H3) (hd : ∀ H, Pv xs.length H → Q (.bl (!st)) H) :
    ∃ W : Nat → Nat → Hp → Prop, (∃ m, W 0 m H) ∧ GStep st (Itl K a) g te σ vs Q W := by
  refine ⟨fun i m H => m = xs.length - i ∧ i ≤ xs.length ∧ Pv i H, ⟨_, rfl, Nat.zero_le _, h0⟩, ?_⟩
  rintro i m H ⟨rfl, hi, p⟩
  have q := hl i H hi p
  by_cases hlt : i < xs.length
  · refine .inr ⟨⟨xs, _, q, List.getElem?_eq_getElem hlt⟩, Pv (i + 1), fun H' p' => ⟨xs.length - (i + 1), by omega, rfl, hlt, p'⟩, fun x H' y => ?_⟩
    obtain ⟨rfl, y⟩ := y
    exact hs i x _ (y xs q) p
  · have e : i = xs.length := by omega
    subst e
    exact .inl ⟨⟨xs, q, Nat.le_refl _⟩, hd H p⟩
theorem ge_tup (Pv : Nat → Hp → Prop) (h0 : Pv 0 H) (hl : ∀ i H, i ≤ xs.length → Pv i H → SqT K H a xs)
    (hs : ∀ i x H, xs[i]? = some x → Pv i H → g x (wipe σ vs) H fun σ2 H2 => wipe σ2 vs = wipe σ vs ∧ te σ2 H2 fun v H3 => ∃ b : Bool, v = .bl b ∧ if b = st then Q (.bl st) H3 else Pv (i + 1) H3) (hd : ∀ H, Pv xs.length H → Q (.bl (!st)) H) :
    ∃ W : Nat → Nat → Hp → Prop, (∃ m, W 0 m H) ∧ GStep st (Itt K a) g te σ vs Q W := by
  refine ⟨fun i m H => m = xs.length - i ∧ i ≤ xs.length ∧ Pv i H, ⟨_, rfl, Nat.zero_le _, h0⟩, ?_⟩
  rintro i m H ⟨rfl, hi, p⟩
  have q := hl i H hi p
  by_cases hlt : i < xs.length
  · refine .inr ⟨⟨xs, _, q, List.getElem?_eq_getElem hlt⟩, Pv (i + 1), fun H' p' => ⟨xs.length - (i + 1), by omega, rfl, hlt, p'⟩, fun x H' y => ?_⟩
    obtain ⟨rfl, y⟩ := y
    exact hs i x _ (y xs q) p
  · have e : i = xs.length := by omega
    subst e
    exact .inl ⟨⟨xs, q, Nat.le_refl _⟩, hd H p⟩
end
end FB
namespace FB
open PySem PySem.Spec PyProof.Rows L2
/-! ### lists of texts as data -/
theorem dpall_strs {K : PySem.W.Frag} {H : Hp} : ∀ ks : List Str, DpAll K H (ks.map V.str) (ks.map PyData.str)
  | [] => .nil
  | k :: r => .cons (.str k) (dpall_strs r)
theorem lay_strs : ∀ ks : List Str, (∀ k ∈ ks, KeyOr k) → PyData.canLayAll0 (ks.map PyData.str) = true ∧ PyData.depthAll (ks.map PyData.str) ≤ 1
  | [], _ => ⟨by simp [PyData.canLayAll0], by simp [PyData.depthAll]⟩
  | k :: r, h => by
    obtain ⟨h1, h2⟩ := lay_strs r fun y hy => h y (by simp [hy])
    refine ⟨?_, ?_⟩
    · rw [List.map_cons, PyData.canLayAll0, h1]
      simp [PyData.canLay0, (h k (by simp)).ok]
    · rw [List.map_cons, PyData.depthAll]
      have : (PyData.str k).depth = 0 := by simp [PyData.depth]
      omega
theorem shaped_strs {ks : List Str} (h : ∀ k ∈ ks, KeyOr k) : SeqAt.shaped (.list (ks.map PyData.str)) = true := by
  obtain ⟨h1, h2⟩ := lay_strs ks h
  unfold SeqAt.shaped
  rw [PyData.canLay0, h1, decide_eq_true (show (PyData.list (ks.map PyData.str)).depth ≤ 64 by rw [PyData.depth]; omega)]
  rfl
end FB

namespace FB
open PySem PySem.Spec PyProof.Rows L2
def top (i : Nat) : Stmt := PySem.Challenge.pw_farbooks_k05_spans_that_clash.main.body.getD i (.Pass ⟨0, 0, 0, 0⟩)
abbrev s_has_key : Stmt := top 2
theorem sc_has_key : FnScope ["span", "key", "low", "high"] ["span", "key"] (defScope s_has_key) := ⟨rfl, rfl, rfl, by decide +kernel, rfl, by decide +kernel, by decide +kernel⟩
abbrev s_clashes : Stmt := top 3
theorem sc_clashes : FnScope ["spans", "span", "other"] ["spans", "span"] (defScope s_clashes) := ⟨rfl, rfl, rfl, by decide +kernel, rfl, by decide +kernel, by decide +kernel⟩
abbrev s_share_key : Stmt := top 4
theorem sc_share_key : FnScope ["one", "other", "first"] ["one", "other"] (defScope s_share_key) := ⟨rfl, rfl, rfl, by decide +kernel, rfl, by decide +kernel, by decide +kernel⟩
abbrev s_drawn : Stmt := top 6
theorem sc_drawn : FnScope ["_law_script", "_law_cells"] ["_law_script"] (defScope s_drawn) := ⟨rfl, rfl, rfl, by decide +kernel, rfl, by decide +kernel, by decide +kernel⟩
abbrev s_pick : Stmt := top 7
theorem sc_pick : FnScope ["_law_draw", "_law_many", "_law_cells", "_law_value", "_law_k", "_law_m"] ["_law_draw", "_law_many"] (defScope s_pick) := ⟨rfl, rfl, rfl, by decide +kernel, rfl, by decide +kernel, by decide +kernel⟩
abbrev s_key : Stmt := top 8
theorem sc_key : FnScope ["_law_draw", "_law_way", "_law_k"] ["_law_draw"] (defScope s_key) := ⟨rfl, rfl, rfl, by decide +kernel, rfl, by decide +kernel, by decide +kernel⟩
abbrev s_spans : Stmt := top 9
theorem sc_spans : FnScope ["_law_draw", "_law_most", "_law_keys", "_law_k", "_law_key_here", "_law_spans_here", "_law_all_of_them", "_law_low", "_law_high"] ["_law_draw", "_law_most"] (defScope s_spans) := ⟨rfl, rfl, rfl, by decide +kernel, rfl, by decide +kernel, by decide +kernel⟩
abbrev s_has : Stmt := top 10
theorem sc_has : FnScope ["_law_span", "_law_key_here"] ["_law_span", "_law_key_here"] (defScope s_has) := ⟨rfl, rfl, rfl, by decide +kernel, rfl, by decide +kernel, by decide +kernel⟩
abbrev s_least : Stmt := top 11
theorem sc_least : FnScope ["_law_span"] ["_law_span"] (defScope s_least) := ⟨rfl, rfl, rfl, by decide +kernel, rfl, by decide +kernel, by decide +kernel⟩
abbrev s_asked : Stmt := top 12
theorem sc_asked : FnScope ["_law_draw", "_law_spans_here", "_law_keys", "_law_low", "_law_high", "_law_k", "_law_key_here"] ["_law_draw", "_law_spans_here"] (defScope s_asked) := ⟨rfl, rfl, rfl, by decide +kernel, rfl, by decide +kernel, by decide +kernel⟩
abbrev s_meet : Stmt := top 13
theorem sc_meet : FnScope ["_law_spans_here", "_law_span", "_law_other"] ["_law_spans_here", "_law_span"] (defScope s_meet) := ⟨rfl, rfl, rfl, by decide +kernel, rfl, by decide +kernel, by decide +kernel⟩
abbrev s_law : Stmt := top 14
theorem sc_law : FnScope ["_law_script", "_law_draw", "_law_spans_here", "_law_keys", "_law_span", "_law_handed", "_law_found", "_law_both", "_law_key_here", "_law_other"] ["_law_script"] (defScope s_law) := ⟨rfl, rfl, rfl, by decide +kernel, rfl, by decide +kernel, by decide +kernel⟩
structure Blt (mg : Str → Option Value) : Prop where
  any : mg "any" = none
  bool : mg "bool" = none
  int : mg "int" = none
  isinstance : mg "isinstance" = none
  len : mg "len" = none
  list : mg "list" = none
  max : mg "max" = none
  range : mg "range" = none
  sorted : mg "sorted" = none
  zip : mg "zip" = none
end FB

namespace FB
open PySem PySem.Spec PyProof.Rows L2
structure Txt (mg : Str → Option Value) : Prop where
  LEAST_KEY : ∃ t, mg "LEAST_KEY" = some (.str "a" t)
end FB

namespace FB
open PySem PySem.Spec PyProof.Rows L2
section
variable {P : Program} {w : World} {K : PySem.W.Frag} {mg : Str → Option Value} {base : Heap}
theorem ok_has_key {f : Addr} {fd : FuncData} (F : Fun K "has_key" "has_key" s_has_key f fd) : FnOk P w K mg base CX0 1 f fd ["span", "key"] (spHas K) := by
  refine F.ok sc_has_key (fun vs H Q E h => ?_) (fun cdv A outer s H vs Q E hr h => ?_)
  · obtain ⟨p, l, h, k, rfl, _⟩ := h
    rfl
  · obtain ⟨p, l, h, k, rfl, hT, q⟩ := h
    refine ⟨_, pss_cons (ps_asg (pv 0) (pg_tup rfl (pgs_cons (pg_name (i := 2) sc_has_key.nd rfl (Or.inl rfl)) (pgs_cons (pg_name (i := 3) sc_has_key.nd rfl (Or.inl rfl)) pgs_nil))))
    (pss_one (ps_ret (pe_and (pe_cmpR op_le_str (pv 2) (pv 1) (nomark _)) (pe_one (pe_or (pe_cmpR op_eq (pv 3) pe_str (nomark _)) (pe_one (pe_cmpR op_lt_str (pv 1) (pv 3) (nomark _)))))))), ?_⟩
    refine ⟨_, rfl, p, _, rfl, hT, rfl, _, _, rfl, _, _, rfl, rfl, ?_⟩
    refine ⟨_, rfl, _, rfl, _, _, rfl, rfl, _, rfl, ite2 (fun e1 => ?_) (fun e1 => ?_)⟩
    · refine ⟨_, rfl, rfl, _, rfl, ite2 (fun e2 => ?_) (fun e2 => ?_)⟩
      · have e : hasB l h k = true := by
          unfold hasB ltS
          rw [e1, e2]
          rfl
        rw [e] at q
        exact q
      · have e : hasB l h k = decide (k.cps.toList < h.cps.toList) := by
          unfold hasB ltS
          rw [e1, Bool.eq_false_iff.mpr e2]
          rfl
        rw [e] at q
        exact ⟨_, rfl, _, rfl, _, _, rfl, rfl, q⟩
    · have e : hasB l h k = false := by
        unfold hasB ltS
        rw [Bool.eq_false_iff.mpr e1]
        rfl
      rw [e] at q
      exact q
end
end FB

namespace FB
open PySem PySem.Spec PyProof.Rows L2
section
variable {P : Program} {w : World} {K : PySem.W.Frag} {mg : Str → Option Value} {base : Heap}
theorem ok_has {f : Addr} {fd : FuncData} (F : Fun K "_law_has" "_law_has" s_has f fd) : FnOk P w K mg base CX0 1 f fd ["_law_span", "_law_key_here"] (spHas K) := by
  refine F.ok sc_has (fun vs H Q E h => ?_) (fun cdv A outer s H vs Q E hr h => ?_)
  · obtain ⟨p, l, h, k, rfl, _⟩ := h
    rfl
  · obtain ⟨p, l, h, k, rfl, hT, q⟩ := h
    refine ⟨_, pss_one (ps_ret (pe_and (pe_not (pe_cmpR op_lt_str (pv 1) (pe_ix ix_tup (pv 0) pe_int (fun _ _ => rfl)) (nomark _))) (pe_one (pe_or (pe_cmpR op_eq (pe_ix ix_tup (pv 0) pe_int (fun _ _ => rfl)) pe_str (nomark _)) (pe_one (pe_cmpR op_lt_str (pv 1) (pe_ix ix_tup (pv 0) pe_int (fun _ _ => rfl)) (nomark _))))))), ?_⟩
    refine ⟨_, rfl, _, rfl, p, _, _, _, rfl, rfl, hT, atI_nat (j := 0) rfl, _, _, rfl, rfl, _, rfl, _, rfl, ite2 (fun e1 => ?_) (fun e1 => ?_)⟩
    · refine ⟨_, rfl, p, _, _, _, rfl, rfl, hT, atI_nat (j := 1) rfl, rfl, _, rfl, ite2 (fun e2 => ?_) (fun e2 => ?_)⟩
      · have e : hasB l h k = true := by
          unfold hasB ltS
          rw [e1, e2]
          rfl
        rw [e] at q
        exact q
      · have e : hasB l h k = decide (k.cps.toList < h.cps.toList) := by
          unfold hasB ltS
          rw [e1, Bool.eq_false_iff.mpr e2]
          rfl
        rw [e] at q
        exact ⟨_, rfl, _, rfl, p, _, _, _, rfl, rfl, hT, atI_nat (j := 1) rfl, _, _, rfl, rfl, q⟩
    · have e : hasB l h k = false := by
        unfold hasB ltS
        rw [Bool.eq_false_iff.mpr e1]
        rfl
      rw [e] at q
      exact q
end
end FB

namespace FB
open PySem PySem.Spec PyProof.Rows L2
section
variable {P : Program} {w : World} {K : PySem.W.Frag} {mg : Str → Option Value} {base : Heap}
theorem ok_least {f : Addr} {fd : FuncData} (F : Fun K "_law_least" "_law_least" s_least f fd) (B : Blt mg) : FnOk P w K mg base CX0 1 f fd ["_law_span"] (spLeast K) := by
  refine F.ok sc_least (fun vs H Q E h => ?_) (fun cdv A outer s H vs Q E hr h => ?_)
  · obtain ⟨p, l, h, rfl, _⟩ := h
    rfl
  · obtain ⟨p, l, h, rfl, hT, q⟩ := h
    refine ⟨_, pss_one (ps_ret (pe_ix ix_list (pe_lst (pa_cons (pe_ix ix_tup (pv 0) pe_int (fun _ _ => rfl)) (pa_cons pe_str pa_nil))) (pe_callTy call_int1 (by rfl) B.int (by decide +kernel) (pa_cons (pe_cmpR op_eq (pe_ix ix_tup (pv 0) pe_int (fun _ _ => rfl)) pe_str (nomark _)) pa_nil)) (fun _ _ => rfl))), ?_⟩
    refine ⟨_, rfl, p, _, _, _, rfl, rfl, hT, atI_nat (j := 0) rfl, by show 2 ≤ sizeLine; decide, fun x nx => ?_⟩
    have s1 := same_new (o := .lst [V.str l, V.str "a"]) nx
    refine ⟨_, rfl, p, _, _, _, rfl, rfl, same_tup s1 hT, atI_nat (j := 0) rfl, rfl, .inr ⟨_, rfl, ?_⟩⟩
    by_cases e : l = ""
    · have e1 : decide (V.str l = V.str "") = true := decide_eq_true (by rw [e])
      have e2 : leastS l = "a" := if_pos e
      rw [e1]
      refine ⟨x, _, _, _, rfl, rfl, SqL.of upd_same, atI_nat (j := 1) rfl, ?_⟩
      have q' := q _ s1
      rw [e2] at q'
      exact q'
    · have e1 : decide (V.str l = V.str "") = false := decide_eq_false fun z => e (V.str.inj z)
      have e2 : leastS l = l := if_neg e
      rw [e1]
      refine ⟨x, _, _, _, rfl, rfl, SqL.of upd_same, atI_nat (j := 0) rfl, ?_⟩
      have q' := q _ s1
      rw [e2] at q'
      exact q'
end
end FB

namespace FB
open PySem PySem.Spec PyProof.Rows L2
/-! ### spans that share a key -/
def shareB (p q : Sp2) : Bool := hasB p.1 p.2 (maxS (maxS p.1 q.1) "a") && hasB q.1 q.2 (maxS (maxS p.1 q.1) "a")
def meetB (p q : Sp2) : Bool := hasB p.1 p.2 (leastS q.1) || hasB q.1 q.2 (leastS p.1)
structure SpanOk (p : Sp2) : Prop where
  lo : KeyOr p.1
  hi : KeyOr p.2
  own : hasB p.1 p.2 (leastS p.1) = true
theorem least_key {l : Str} (h : KeyOr l) : IsKey (leastS l) := by
  unfold leastS
  split
  · exact a_key
  · rename_i e
    exact isKey_of h e
theorem max_least {a b : Str} (ha : KeyOr a) (hb : KeyOr b) : maxS (maxS a b) "a" = maxS (leastS a) (leastS b) := by
  by_cases ea : a = ""
  · subst ea
    by_cases eb : b = ""
    · subst eb
      decide +kernel
    · have kb := isKey_of hb eb
      have e1 : maxS "" b = b := if_pos (empty_lt eb)
      rw [e1, max_a hb]
      show leastS b = maxS "a" (leastS b)
      have e2 : leastS b = b := if_neg eb
      rw [e2]
      unfold maxS
      split
      · rfl
      · rename_i h
        apply Decidable.byContradiction
        intro hne
        exact h (ltS_tri (key_ge_a kb) fun e => hne e.symm)
  · have ka := isKey_of ha ea
    have e2 : leastS a = a := if_neg ea
    by_cases eb : b = ""
    · subst eb
      have e1 : maxS a "" = a := if_neg (by rw [no_lt_empty]; decide)
      rw [e1, e2]
      rfl
    · have e3 : leastS b = b := if_neg eb
      rw [e2, e3]
      have km : KeyOr (maxS a b) := by
        unfold maxS
        split
        · exact hb
        · exact ha
      have nm : maxS a b ≠ "" := by
        unfold maxS
        split
        · exact eb
        · exact ea
      rw [max_a km]
      exact if_neg nm
theorem has_below {p : Sp2} (hp : KeyOr p.1) {k : Str} (hk : IsKey k) (h : ltS k (leastS p.1) = true) : hasB p.1 p.2 k = false := by
  by_cases e : p.1 = ""
  · have e2 : leastS p.1 = "a" := if_pos e
    rw [e2, key_ge_a hk] at h
    cases h
  · have e2 : leastS p.1 = p.1 := if_neg e
    rw [e2] at h
    exact has_no1 h
theorem share_meet {p q : Sp2} (hp : SpanOk p) (hq : SpanOk q) : shareB p q = meetB p q := by
  unfold shareB meetB
  rw [max_least hp.lo hq.lo]
  have kp := least_key hp.lo
  have kq := least_key hq.lo
  by_cases h : ltS (leastS p.1) (leastS q.1) = true
  · have e : maxS (leastS p.1) (leastS q.1) = leastS q.1 := if_pos h
    rw [e, hq.own, has_below hq.lo kp h]
    simp
  · have e : maxS (leastS p.1) (leastS q.1) = leastS p.1 := if_neg h
    rw [e, hp.own]
    by_cases e2 : leastS q.1 = leastS p.1
    · have := hq.own
      rw [e2] at this ⊢
      rw [this, hp.own]
      rfl
    · rw [has_below hp.lo kq (ltS_tri (Bool.eq_false_iff.mpr h) e2)]
      simp
theorem has_parts {l h k : Str} (e : hasB l h k = true) : ltS k l = false ∧ (h = "" ∨ ltS k h = true) := by
  unfold hasB at e
  rw [Bool.and_eq_true, Bool.or_eq_true] at e
  obtain ⟨e1, e2⟩ := e
  refine ⟨by simpa using e1, ?_⟩
  rcases e2 with e2 | e2
  · exact .inl (V.str.inj (of_decide_eq_true e2))
  · exact .inr e2
theorem le_trans_lt {a b c : Str} (h : ltS b a = false) (h' : ltS b c = true) : ltS a c = true := by
  rcases lt_of_nlt h h' with e | e
  · exact e
  · rw [e]; exact h'
theorem least_le {l k : Str} (h : ltS k l = false) (hk : IsKey k) : ltS k (leastS l) = false := by
  unfold leastS
  split
  · exact key_ge_a hk
  · exact h
theorem least_ge (l : Str) : ltS (leastS l) l = false := by
  unfold leastS
  split
  · rename_i e
    rw [e]
    exact no_lt_empty _
  · exact ltS_irrefl _
theorem nlt_trans {a b c : Str} (h : ltS b a = false) (h' : ltS c b = false) : ltS c a = false := by
  cases e : ltS c a with
  | false => rfl
  | true =>
    by_cases e2 : a = b
    · rw [← e2, e] at h'
      cases h'
    · have := ltS_trans e (ltS_tri h e2)
      rw [this] at h'
      cases h'
theorem share_of_key {p q : Sp2} (hp : SpanOk p) (hq : SpanOk q) {k : Str} (hk : IsKey k) (h1 : hasB p.1 p.2 k = true) (h2 : hasB q.1 q.2 k = true) : shareB p q = true := by
  obtain ⟨a1, a2⟩ := has_parts h1
  obtain ⟨b1, b2⟩ := has_parts h2
  have c1 := least_le a1 hk
  have c2 := least_le b1 hk
  have cm : ltS k (maxS (leastS p.1) (leastS q.1)) = false := by
    unfold maxS
    split
    · exact c2
    · exact c1
  have up : ∀ {h : Str}, (h = "" ∨ ltS k h = true) → (h = "" ∨ ltS (maxS (leastS p.1) (leastS q.1)) h = true) := fun {h} z => z.imp id fun z => le_trans_lt cm z
  have m1 : ltS (maxS (leastS p.1) (leastS q.1)) (leastS p.1) = false := by
    unfold maxS
    split
    · rename_i e
      exact ltS_asymm e
    · exact ltS_irrefl _
  have m2 : ltS (maxS (leastS p.1) (leastS q.1)) (leastS q.1) = false := by
    unfold maxS
    split
    · exact ltS_irrefl _
    · rename_i e
      exact Bool.eq_false_iff.mpr e
  unfold shareB
  rw [max_least hp.lo hq.lo, has_yes (nlt_trans (least_ge _) m1) (up a2), has_yes (nlt_trans (least_ge _) m2) (up b2)]
  rfl
theorem span_ok {l h : Str} (hl : KeyOr l) (hh : KeyOr h) (hn : (l, h) ≠ (("" : Str), ("a" : Str))) (up : h = "" ∨ ltS l h = true) : SpanOk (l, h) := by
  refine ⟨hl, hh, ?_⟩
  show hasB l h (leastS l) = true
  by_cases e : l = ""
  · subst e
    refine has_yes (no_lt_empty _) ?_
    by_cases e2 : h = ""
    · exact .inl e2
    · refine .inr (ltS_tri (key_ge_a (isKey_of hh e2)) fun e3 => hn ?_)
      have e3 : ("a" : Str) = h := e3
      rw [← e3]
  · have e2 : leastS l = l := if_neg e
    rw [e2]
    exact has_yes (ltS_irrefl _) up
theorem SpanList.oks {zs : List Sp3} (h : SpanList zs) : ∀ z ∈ zs, SpanOk z.2 := fun z hz => by
  have hk := h.keys z hz
  have g := (good_spans h).up z.2 (List.mem_map.mpr ⟨z, hz, rfl⟩)
  obtain ⟨_, _, _, _, hn, _⟩ := h
  exact span_ok hk.1 hk.2 (hn z hz) g
def spShare (K : PySem.W.Frag) : Sp := fun vs H Q _ => ∃ (p q : Addr) (x y : Sp2), vs = [.ref p, .ref q] ∧ SqT K H p [.str x.1, .str x.2] ∧ SqT K H q [.str y.1, .str y.2] ∧ Q (.bl (shareB x y)) H
def spClash (K : PySem.W.Frag) (P : Addr) : Sp := fun vs H Q _ => ∃ (a q : Addr) (zs : List Sp3) (y : Sp2), vs = [.ref a, .ref q] ∧ SpansAt H a zs ∧ SqT K H q [.str y.1, .str y.2] ∧ H P = some (TabX P) ∧ Q (.bl ((zs.map (·.2)).any fun z => shareB z y)) H
section
variable {P : Program} {w : World} {K : PySem.W.Frag} {mg : Str → Option Value} {base : Heap}
theorem ok_share_key {f : Addr} {fd : FuncData} (F : Fun K "share_key" "share_key" s_share_key f fd) (B : Blt mg) (T : Txt mg) (D_has_key : DefOk P w K mg base 1 "has_key" ["span", "key"] (spHas K)) : FnOk P w K mg base CX0 2 f fd ["one", "other"] (spShare K) := by
  obtain ⟨tL, h_LEAST_KEY⟩ := T.LEAST_KEY
  refine F.ok sc_share_key (fun vs H Q E h => ?_) (fun cdv A outer s H vs Q E hr h => ?_)
  · obtain ⟨p, q, x, y, rfl, _⟩ := h
    rfl
  · obtain ⟨p, q, x, y, rfl, hx, hy, q0⟩ := h
    refine ⟨_, pss_cons (ps_set (i := 2) sc_share_key.nd rfl (Or.inl rfl) (pe_callB (call_max3S rfl) (by rfl) B.max (by decide +kernel) (pa_cons (pe_ix ix_tup (pv 0) pe_int (fun _ _ => rfl)) (pa_cons (pe_ix ix_tup (pv 1) pe_int (fun _ _ => rfl)) (pa_cons (pe_glob (v := .str "a") rfl h_LEAST_KEY ⟨_, rfl⟩) pa_nil)))))
    (pss_one (ps_ret (pe_and (pe_def D_has_key (hr.mono (by omega)) (by rfl) (pa_cons (pv 0) (pa_cons (pv 2) pa_nil))) (pe_one (pe_def D_has_key (hr.mono (by omega)) (by rfl) (pa_cons (pv 1) (pa_cons (pv 2) pa_nil))))))), ?_⟩
    refine ⟨_, rfl, p, _, _, _, rfl, rfl, hx, atI_nat (j := 0) rfl, _, rfl, q, _, _, _, rfl, rfl, hy, atI_nat (j := 0) rfl, _, _, _, rfl, ?_⟩
    refine ⟨_, rfl, _, rfl, p, x.1, x.2, _, rfl, hx, _, rfl, ite2 (fun e1 => ?_) (fun e1 => ?_)⟩
    · refine ⟨_, rfl, _, rfl, q, y.1, y.2, _, rfl, hy, ?_⟩
      have e : shareB x y = hasB y.1 y.2 (maxS (maxS x.1 y.1) "a") := by
        unfold shareB
        rw [e1]
        rfl
      rw [e] at q0
      exact q0
    · have e : shareB x y = false := by
        unfold shareB
        rw [Bool.eq_false_iff.mpr e1]
        rfl
      rw [e] at q0
      exact q0
theorem ok_clashes {f c Pt : Addr} {fd : FuncData} (F : FunC K "clashes" "clashes" s_clashes f fd c) (B : Blt mg) (TB_clashes : LamX.TabB base mg c Pt) (D_share_key : DefOk P w K mg base 2 "share_key" ["one", "other"] (spShare K)) : FnOk P w K mg base CX0 4 f fd ["spans", "span"] (spClash K Pt) := by
  refine F.ok sc_clashes (fun vs H Q E h => ?_) (fun A outer s H vs Q E hr h => ?_)
  · obtain ⟨a, q, zs, y, rfl, _⟩ := h
    rfl
  · obtain ⟨a, q, zs, y, rfl, hZ, hy, hT, q0⟩ := h
    refine ⟨_, pss_one (ps_ret (pe_anyG (k := 2) (own := [("other", 2)]) (g := gName 2) (hr.mono (by omega)) rfl sc_clashes.nd (by rfl) B.any TB_clashes rfl (pi_list (pv 0)) (blkOk_by (own := [("other", 2)]) (N := ["spans", "span", "other"]) (sc := defScope s_clashes) (by decide +kernel)) (by decide +kernel) (fun _ _ _ _ _ _ _ => pg_name (i := 2) sc_clashes.nd rfl (Or.inl rfl)) (fun _ _ _ _ _ _ _ hr => pe_def D_share_key (hr.mono (by omega)) (by rfl) (pa_cons (pv 2) (pa_cons (pv 1) pa_nil))))), ?_⟩
    refine ⟨_, rfl, a, rfl, ⟨_, SqL.of hZ.ls⟩, hT, ge_list (xs := zs.map fun z => V.ref z.1) (fun i H' => H' = H ∧ ∀ z ∈ zs.take i, shareB z.2 y = false) ⟨rfl, fun z hz => by simp at hz⟩ (fun i H' _ h => by rw [h.1]; exact SqL.of hZ.ls) ?_ ?_⟩
    · rintro i x H' hi ⟨rfl, hno⟩
      rw [List.getElem?_map] at hi
      obtain ⟨z, hz, rfl⟩ := Option.map_eq_some_iff.mp hi
      have hm : z ∈ zs := List.mem_of_getElem? hz
      refine ⟨rfl, _, rfl, _, rfl, z.1, q, z.2, y, rfl, SqT.of (hZ.tp z hm), hy, _, rfl, ite2 (fun e => ?_) (fun e => ?_)⟩
      · have e2 : ((zs.map (·.2)).any fun z => shareB z y) = true := List.any_eq_true.mpr ⟨z.2, List.mem_map.mpr ⟨z, hm, rfl⟩, e⟩
        rw [e2] at q0
        exact q0
      · refine ⟨rfl, fun u hu => ?_⟩
        rw [List.take_add_one, hz] at hu
        rcases List.mem_append.mp hu with hu | hu
        · exact hno u hu
        · rw [show u = z by simpa using hu]
          exact Bool.eq_false_iff.mpr e
    · rintro H' ⟨rfl, hno⟩
      rw [List.length_map, List.take_length] at hno
      have e2 : ((zs.map (·.2)).any fun z => shareB z y) = false := by
        rw [List.any_eq_false]
        intro u hu
        obtain ⟨z, hz, rfl⟩ := List.mem_map.mp hu
        rw [hno z hz]
        decide
      rw [e2] at q0
      exact q0
end
end FB

namespace FB
open PySem PySem.Spec PyProof.Rows L2
section
variable {P : Program} {w : World} {K : PySem.W.Frag} {mg : Str → Option Value} {base : Heap}
theorem ok_pick {f : Addr} {fd : FuncData} (F : Fun K "_law_pick" "_law_pick" s_pick f fd) (B : Blt mg) : FnOk P w K mg base CX0 1 f fd ["_law_draw", "_law_many"] spPick := by
  refine F.ok sc_pick (fun vs H Q E h => ?_) (fun cdv A outer s H vs Q E hr h => ?_)
  · obtain ⟨d, c, cs, n, m, rfl, _⟩ := h
    rfl
  · obtain ⟨d, c, cs, n, m, rfl, ⟨a, l, x, g, hd, hc, h0, h64, ha0, han⟩, hm, hm2, hn, q⟩ := h
    have hu := hu_of hr
    refine ⟨_, pss_cons (ps_set (i := 2) sc_pick.nd rfl (Or.inl rfl) (pe_dget hu (pv 0) pe_str (fun _ _ => rfl)))
    (pss_cons (ps_if (pt_val (pe_dget hu (pv 0) pe_str (fun _ _ => rfl)))
      (pss_cons (ps_set (i := 3) sc_pick.nd rfl (Or.inl rfl) (pe_op op_mod (pe_dget hu (pv 0) pe_str (fun _ _ => rfl)) (pv 1)))
      (pss_cons (ps_dput hu (pv 0) pe_str (pe_op op_fdiv (pe_dget hu (pv 0) pe_str (fun _ _ => rfl)) (pv 1)) rfl)
      (pss_cons (ps_dput hu (pv 0) pe_str (pe_op op_sub (pe_dget hu (pv 0) pe_str (fun _ _ => rfl)) pe_int) rfl)
      (pss_cons (ps_if (pt_cmpR op_eq (pe_dget hu (pv 0) pe_str (fun _ _ => rfl)) pe_int (nomark _))
        (pss_cons (ps_dput hu (pv 0) pe_str (pe_op op_add (pe_dget hu (pv 0) pe_str (fun _ _ => rfl)) pe_int) rfl)
        (pss_cons (ps_dput hu (pv 0) pe_str (pe_ix ix_list (pv 2) (pe_op op_mod (pe_dget hu (pv 0) pe_str (fun _ _ => rfl)) (pe_callB call_len_seq (by rfl) B.len (by decide +kernel) (pa_cons (pv 2) pa_nil))) (fun _ _ => rfl)) rfl)
        (pss_one (ps_dput hu (pv 0) pe_str pe_int rfl)))) pss_nil)
      (pss_one (ps_ret (pv 3))))))) pss_nil)
    (pss_cons (ps_dput hu (pv 0) pe_str (pe_op op_add (pe_dget hu (pv 0) pe_str (fun _ _ => rfl)) pe_int) rfl)
    (pss_cons (ps_set (i := 4) sc_pick.nd rfl (Or.inl rfl) (pe_dget hu (pv 0) pe_str (fun _ _ => rfl)))
    (pss_cons (ps_set (i := 5) sc_pick.nd rfl (Or.inl rfl) (pe_op op_mod (pe_op op_mul (pe_op op_add (pe_op op_add (pe_op op_mod (pe_ix ix_list (pv 2) (pe_op op_mod (pv 4) (pe_callB call_len_seq (by rfl) B.len (by decide +kernel) (pa_cons (pv 2) pa_nil))) (fun _ _ => rfl)) pe_int) (pe_op op_mul (pe_op op_mul (pv 4) (pv 4)) pe_int)) pe_int) pe_int) pe_int))
    (pss_cons (ps_set (i := 5) sc_pick.nd rfl (Or.inl rfl) (pe_op op_mod (pe_op op_mul (pv 5) (pv 5)) pe_int))
    (pss_one (ps_ret (pe_op op_mod (pe_op op_fdiv (pv 5) pe_int) (pv 1))))))))), ?_⟩
    have ncd : c ≠ d := ne_of hc hd (by intro z; cases z)
    obtain ⟨H0, rfl⟩ : ∃ H0, H = upd H0 d (.dK (drawKvs c a l x g)) := ⟨H, (upd_self hd).symm⟩
    have hc' : ∀ o, (upd H0 d o) c = some (.lst (cs.map V.int)) := fun o => by
      rw [upd_ne ncd] at hc ⊢
      exact hc
    have hsq : ∀ o, SqL K (upd H0 d o) c (cs.map V.int) := fun o => SqL.of (hc' o)
    have hlen : (0 : Int) < ((cs.map V.int).length : Int) := by
      rw [List.length_map]
      omega
    have kp : ∀ o o', Keep d (upd H0 d o) (upd H0 d o') := fun o o' b y e nb => by
      rw [upd_ne nb] at e ⊢
      exact e
    refine ⟨_, rfl, d, _, rfl, dg_cells, ?_⟩
    refine ⟨_, rfl, d, _, rfl, dg_digits, _, rfl, ?_⟩
    cases g with
    | true =>
      refine iteT ?_
      refine ⟨_, rfl, d, _, rfl, dg_number, _, rfl, _, _, rfl, rfl, hm, ?_⟩
      refine ⟨_, rfl, d, _, rfl, dg_number, _, rfl, _, _, rfl, rfl, ⟨hm, hm2⟩, _, rfl, d, _, rfl, dp_number, ?_⟩
      refine ⟨_, rfl, d, _, rfl, dg_left, _, _, rfl, rfl, _, rfl, d, _, rfl, dp_left, ?_⟩
      refine ⟨_, rfl, d, _, rfl, dg_left, rfl, _, rfl, ?_⟩
      have v0 := Int.emod_nonneg x (by omega : m ≠ 0)
      have v1 := Int.emod_lt_of_pos x hm
      refine ite2 (fun _ => ?_) (fun _ => ?_)
      · refine ⟨_, rfl, d, _, rfl, dg_at, _, _, rfl, rfl, _, rfl, d, _, rfl, dp_at, ?_⟩
        obtain ⟨z, hz⟩ := at_mod h0 (a + 1)
        refine ⟨_, rfl, _, rfl, d, _, rfl, dg_at, _, rfl, c, _, rfl, .inl (hsq _), _, _, rfl, rfl, hlen, c, _, _, _, rfl, rfl, hsq _, hz, _, rfl, d, _, rfl, dp_number, ?_⟩
        refine ⟨_, rfl, d, _, rfl, dp_left, ?_⟩
        exact ⟨_, rfl, q _ _ v0 v1 ⟨_, _, _, _, upd_same, hc' _, h0, h64, by omega, by omega⟩ (kp _ _)⟩
      · exact ⟨_, rfl, q _ _ v0 v1 ⟨_, _, _, _, upd_same, hc' _, h0, h64, by omega, by omega⟩ (kp _ _)⟩
    | false =>
      refine iteF ?_
      refine ⟨_, rfl, d, _, rfl, dg_at, _, _, rfl, rfl, _, rfl, d, _, rfl, dp_at, ?_⟩
      refine ⟨_, rfl, d, _, rfl, dg_at, ?_⟩
      obtain ⟨z, hz⟩ := at_mod h0 (a + 1)
      refine ⟨_, rfl, _, rfl, _, rfl, c, _, rfl, .inl (hsq _), _, _, rfl, rfl, hlen, c, _, _, _, rfl, rfl, hsq _, hz, _, _, rfl, rfl, (by show (0 : Int) < 2147483629; decide), _, rfl, _, rfl, _, _, rfl, rfl, .inl ⟨by omega, by omega⟩, _, _, rfl, rfl, .inr ⟨by decide, by decide⟩, _, _, rfl, rfl, _, _, rfl, rfl, _, _, rfl, rfl, .inr ⟨by decide, by decide⟩, _, _, rfl, rfl, (by show (0 : Int) < 2147483647; decide), ?_⟩
      generalize (z % 2147483629 + (a + 1) * (a + 1) * 7919 + 11) * 48271 = y
      have y0 := Int.emod_nonneg y (by decide : (2147483647 : Int) ≠ 0)
      have y1 := Int.emod_lt_of_pos y (by decide : (0 : Int) < 2147483647)
      refine ⟨_, rfl, _, rfl, _, _, rfl, rfl, .inl ⟨by omega, by omega⟩, _, _, rfl, rfl, (by show (0 : Int) < 1999999973; decide), ?_⟩
      exact ⟨_, rfl, _, _, rfl, rfl, ⟨by decide, by decide⟩, _, rfl, _, _, rfl, rfl, hm, q _ _ (Int.emod_nonneg _ (by omega)) (Int.emod_lt_of_pos _ hm) ⟨_, _, _, _, upd_same, hc' _, h0, h64, by omega, by omega⟩ (kp _ _)⟩
end
end FB

namespace FB
open PySem PySem.Spec PyProof.Rows L2
section
variable {P : Program} {w : World} {K : PySem.W.Frag} {mg : Str → Option Value} {base : Heap}
theorem ok_drawn {f : Addr} {fd : FuncData} (F : Fun K "_law_drawn" "_law_drawn" s_drawn f fd) (B : Blt mg) : FnOk P w K mg base CX0 1 f fd ["_law_script"] (spDrawn K) := by
  refine F.ok sc_drawn (fun vs H Q E h => ?_) (fun cdv A outer s H vs Q E hr h => ?_)
  · obtain ⟨a, ns, rfl, _⟩ := h
    rfl
  · obtain ⟨a, ns, rfl, hS, hl, q⟩ := h
    refine ⟨_, pss_cons (ps_set (i := 1) sc_drawn.nd rfl (Or.inl rfl) (pe_op op_cat (pe_callTy call_list_of (by rfl) B.list (by decide +kernel) (pa_cons (pv 0) pa_nil)) (pe_op op_rep (pe_lst (pa_cons pe_int pa_nil)) (pe_callTy call_int1 (by rfl) B.int (by decide +kernel) (pa_cons (pe_cmpR (op_eqD hr.units) (pv 0) (pe_lst pa_nil) (nomark _)) pa_nil)))))
    (pss_one (ps_ret (pe_disp (pps_cons pe_str (pv 1) (pps_cons pe_str pe_int (pps_cons pe_str pe_int (pps_cons pe_str (pe_op op_fdiv (pe_ix ix_list (pv 1) pe_int (fun _ _ => rfl)) pe_int) (pps_cons pe_str (pe_cmpR op_eq (pe_op op_mod (pe_ix ix_list (pv 1) pe_int (fun _ _ => rfl)) pe_int) pe_int (nomark _)) pps_nil))))) (by rfl) (by rfl) (fun z => by cases z) (by decide)))), ?_⟩
    refine ⟨_, rfl, a, _, rfl, .inl hS, fun l1 n1 => ?_⟩
    have s1 := same_new (o := .lst (ns.map V.int)) n1
    refine ⟨by show 1 ≤ sizeLine; decide, fun l2 n2 => ?_⟩
    have s2 := same_new (o := .lst [V.int 0]) n2
    refine ⟨_, rfl, Nat.zero_le _, fun l3 n3 => ?_⟩
    have s3 := same_new (o := .lst []) n3
    refine ⟨.list (ns.map PyData.int), .list [], .lst ((s1.trans (s2.trans s3)).seq hS) (dpall_int ns), .lst (SqL.of upd_same) .nil, shaped_ints ns, rfl, ?_⟩
    refine .inr ⟨_, rfl, ?_⟩
    have hb : ns = [] → PyData.eqv (.list (ns.map PyData.int)) (.list []) = true := fun e => by
      subst e
      rfl
    generalize PyData.eqv (.list (ns.map PyData.int)) (.list []) = b at hb
    have h2 : upd (upd (upd H l1 (.lst (ns.map V.int))) l2 (.lst [V.int 0])) l3 (.lst []) l2 = some (.lst [V.int 0]) := s3 _ _ upd_same
    have h1 : upd (upd (upd H l1 (.lst (ns.map V.int))) l2 (.lst [V.int 0])) l3 (.lst []) l1 = some (.lst (ns.map V.int)) := s3 _ _ (s2 _ _ upd_same)
    have hk : [V.int 0].length * (if b = true then (1 : Int) else 0).toNat ≤ sizeLine := by
      cases b <;> decide
    refine ⟨l2, _, _, rfl, rfl, h2, by cases b <;> decide, by cases b <;> decide, hk, fun l4 n4 => ?_⟩
    have s4 := same_new (o := .lst (List.replicate (if b = true then (1 : Int) else 0).toNat [V.int 0]).flatten) n4
    have ecs : ns.map V.int ++ (List.replicate (if b = true then (1 : Int) else 0).toNat [V.int 0]).flatten = (ns ++ List.replicate (if b = true then (1 : Int) else 0).toNat 0).map V.int := by
      cases b <;> simp
    have el : (ns.map V.int).length + (List.replicate (if b = true then (1 : Int) else 0).toNat [V.int 0]).flatten.length ≤ sizeLine := by
      have h : 64 ≤ sizeLine := by decide
      cases b <;> simp <;> omega
    refine ⟨l1, l4, _, _, rfl, rfl, s4 _ _ h1, upd_same, el, fun c nc => ?_⟩
    rw [ecs]
    have hlen : 0 < (ns ++ List.replicate (if b = true then (1 : Int) else 0).toNat 0).length ∧ (ns ++ List.replicate (if b = true then (1 : Int) else 0).toNat 0).length ≤ 64 := by
      rw [List.length_append, List.length_replicate]
      cases ns with
      | nil =>
        rw [hb rfl]
        decide
      | cons x r =>
        rw [List.length_cons] at hl ⊢
        omega
    generalize (ns ++ List.replicate (if b = true then (1 : Int) else 0).toNat 0) = cs at hlen
    have s5 := same_new (o := .lst (cs.map V.int)) nc
    have sm := s1.trans (s2.trans (s3.trans (s4.trans s5)))
    have hc5 : upd (upd (upd (upd (upd H l1 (.lst (ns.map V.int))) l2 (.lst [V.int 0])) l3 (.lst [])) l4 (.lst (List.replicate (if b = true then (1 : Int) else 0).toNat [V.int 0]).flatten)) c (.lst (cs.map V.int)) c = some (.lst (cs.map V.int)) := upd_same
    generalize upd (upd (upd (upd (upd H l1 (.lst (ns.map V.int))) l2 (.lst [V.int 0])) l3 (.lst [])) l4 (.lst (List.replicate (if b = true then (1 : Int) else 0).toNat [V.int 0]).flatten)) c (.lst (cs.map V.int)) = H5 at sm hc5
    obtain ⟨x, r, rfl⟩ : ∃ x r, cs = x :: r := by
      cases cs with
      | nil => exact absurd hlen.1 (by decide)
      | cons x r => exact ⟨x, r, rfl⟩
    refine fun d nd => ?_
    have s6 := same_new (o := .dK []) nd
    have hx : atI ((x :: r).map V.int) 0 = some (.int x) := atI_nat (j := 0) rfl
    refine ⟨_, rfl, _, rfl, c, _, _, _, rfl, rfl, SqL.of (s6 _ _ hc5), hx, _, _, rfl, rfl, ⟨by decide, by decide⟩, _, rfl, c, _, _, _, rfl, rfl, SqL.of (s6 _ _ hc5), hx, _, _, rfl, rfl, (by show (0 : Int) < 2; decide), rfl, upd_same, drawKvs c 0 60 (x / 2) (decide (V.int (x % 2) = V.int 0)), rfl, (by show 5 ≤ 15; decide), ?_⟩
    rw [merge_draw, upd_upd]
    have s7 := same_new (o := .dK (drawKvs c 0 60 (x / 2) (decide (V.int (x % 2) = V.int 0)))) nd
    exact q d c (x :: r) _ (sm.trans s7) (sm.free nd) ⟨0, 60, _, _, upd_same, s7 _ _ hc5, hlen.1, hlen.2, by decide, by decide⟩
end
end FB

namespace FB
open PySem PySem.Spec PyProof.Rows L2
def abc : Str := "abcdefghijklmnopqrstuvwxyz"
theorem abc_at : ∀ j : Nat, j < 26 → abc.cps.toList[j]? = some (97 + j) := by decide +kernel
theorem letter {v : Int} (h0 : 0 ≤ v) (h1 : v < 26) : ∃ c : Nat, atI abc.cps.toList v = some c ∧ 97 ≤ c ∧ c ≤ 122 := by
  obtain ⟨j, rfl⟩ : ∃ j : Nat, v = (j : Int) := ⟨v.toNat, (Int.toNat_of_nonneg h0).symm⟩
  exact ⟨97 + j, atI_nat (abc_at j (by omega)), by omega, by omega⟩
theorem abc_len : abc.length ≤ sizeLine := by decide +kernel
def menu : List Str := ["a", "b", "aa", "ab", "m", "mm", "z", "zzzzzzzz", "azzzzzzz", "aaaaaaaa"]
theorem menu_keys : ∀ z ∈ menu, IsKey z := by
  unfold IsKey
  decide +kernel
theorem at_list {α : Type} {xs : List α} {v : Int} (h0 : 0 ≤ v) (h1 : v < (xs.length : Int)) : ∃ x ∈ xs, atI xs v = some x := by
  obtain ⟨j, rfl⟩ : ∃ j : Nat, v = (j : Int) := ⟨v.toNat, (Int.toNat_of_nonneg h0).symm⟩
  have hj : j < xs.length := by omega
  exact ⟨xs[j], List.getElem_mem hj, atI_nat (List.getElem?_eq_getElem hj)⟩
def Letter (y : Str) : Prop := ∃ c : Nat, y = ⟨#[c]⟩ ∧ 97 ≤ c ∧ c ≤ 122
theorem key_k {c : Nat} (h : 97 ≤ c) (h2 : c ≤ 122) : IsKey (("k" : Str) ++ ⟨#[c]⟩) := by
  have e : ("k" : Str) ++ (⟨#[c]⟩ : Str) = ⟨#[107, c]⟩ := by rfl
  rw [e]
  refine ⟨by show 0 < 2; decide, by show 2 ≤ 8; decide, fun x hx => ?_⟩
  have : x = 107 ∨ x = c := by simpa using hx
  omega
theorem join_letters : ∀ ys : List Str, (∀ y ∈ ys, Letter y) → (Str.join ⟨#[]⟩ ys).length = ys.length ∧ ∀ c ∈ (Str.join ⟨#[]⟩ ys).cps.toList, 97 ≤ c ∧ c ≤ 122
  | [], _ => ⟨rfl, fun c hc => by simp [Str.join, Str.empty] at hc⟩
  | y :: r, h => by
    obtain ⟨c, rfl, h1, h2⟩ := h y (by simp)
    obtain ⟨e1, e2⟩ := join_letters r fun y hy => h y (by simp [hy])
    have ej : Str.join ⟨#[]⟩ (⟨#[c]⟩ :: r) = (⟨#[c]⟩ : Str) ++ Str.join ⟨#[]⟩ r := join_nil_cons _ _
    rw [ej]
    have ec : ((⟨#[c]⟩ : Str) ++ Str.join ⟨#[]⟩ r).cps = #[c] ++ (Str.join ⟨#[]⟩ r).cps := rfl
    refine ⟨?_, fun x hx => ?_⟩
    · show ((⟨#[c]⟩ : Str) ++ Str.join ⟨#[]⟩ r).cps.size = _
      rw [ec]
      have : (Str.join ⟨#[]⟩ r).cps.size = r.length := e1
      simp [this]
      omega
    · rw [ec] at hx
      have : x = c ∨ x ∈ (Str.join ⟨#[]⟩ r).cps.toList := by simpa using hx
      rcases this with q | q
      · omega
      · exact e2 x q
theorem sum_letters : ∀ ys : List Str, (∀ y ∈ ys, Letter y) → (ys.map (·.length)).sum = ys.length
  | [], _ => rfl
  | y :: r, h => by
    obtain ⟨c, rfl, _⟩ := h y (by simp)
    have ih := sum_letters r fun y hy => h y (by simp [hy])
    rw [List.map_cons, List.sum_cons, ih, List.length_cons]
    show 1 + r.length = r.length + 1
    omega
theorem txt_join (ys : List Str) : Txt.join ("" : Str) ys = Str.join ⟨#[]⟩ ys := by
  have h := join_plain_closes ("" : Str) ys
  exact (beq_iff_eq.mp h)
section
variable {P : Program} {w : World} {K : PySem.W.Frag} {mg : Str → Option Value} {base : Heap}
theorem ok_key {f : Addr} {fd : FuncData} (F : Fun K "_law_key" "_law_key" s_key f fd) (B : Blt mg) (D_pick : DefOk P w K mg base 1 "_law_pick" ["_law_draw", "_law_many"] spPick) : FnOk P w K mg base CX0 2 f fd ["_law_draw"] spKey := by
  refine F.ok sc_key (fun vs H Q E h => ?_) (fun cdv A outer s H vs Q E hr h => ?_)
  · obtain ⟨d, c0, cs, n, rfl, _⟩ := h
    rfl
  · obtain ⟨d, c0, cs, n, rfl, hD, hn, q⟩ := h
    refine ⟨_, pss_cons (ps_set (i := 1) sc_key.nd rfl (Or.inl rfl) (pe_def D_pick (hr.mono (by omega)) (by rfl) (pa_cons (pv 0) (pa_cons pe_int pa_nil))))
    (pss_cons (ps_if (pt_cmpR op_eq (pv 1) pe_int (nomark _))
      (pss_one (ps_ret (pe_ix ix_list (pe_lst (pa_cons pe_str (pa_cons pe_str (pa_cons pe_str (pa_cons pe_str (pa_cons pe_str (pa_cons pe_str (pa_cons pe_str (pa_cons pe_str (pa_cons pe_str (pa_cons pe_str pa_nil))))))))))) (pe_def D_pick (hr.mono (by omega)) (by rfl) (pa_cons (pv 0) (pa_cons pe_int pa_nil))) (fun _ _ => rfl)))) pss_nil)
    (pss_cons (ps_if (pt_cmpR op_eq (pv 1) pe_int (nomark _))
      (pss_one (ps_ret (pe_op op_add_str pe_str (pe_ix ix_str pe_str (pe_def D_pick (hr.mono (by omega)) (by rfl) (pa_cons (pv 0) (pa_cons pe_int pa_nil))) (fun _ _ => rfl))))) pss_nil)
    (pss_one (ps_ret (pe_join pe_str (pe_lc (own := [("_law_k", 2)]) (g := gName 2) (tt := tYes) rfl sc_key.nd (pi_range1 (by rfl) B.range (pa_cons (pe_op op_add pe_int (pe_def D_pick (hr.mono (by omega)) (by rfl) (pa_cons (pv 0) (pa_cons pe_int pa_nil)))) pa_nil)) (blkOk_by (own := [("_law_k", 2)]) (N := ["_law_draw", "_law_way", "_law_k"]) (sc := defScope s_key) (by decide +kernel)) (fun _ _ _ _ _ => pg_name (i := 2) sc_key.nd rfl (Or.inl rfl)) (fun _ _ _ _ _ => pts_nil) (fun _ _ _ _ _ => pe_ix ix_str pe_str (pe_def D_pick (hr.mono (by omega)) (by rfl) (pa_cons (pv 0) (pa_cons pe_int pa_nil))) (fun _ _ => rfl)))))))), ?_⟩
    refine ⟨_, rfl, d, c0, cs, n, 3, rfl, hD, by decide, by decide, by omega, fun v H1 v0 v1 D1 k1 => ?_⟩
    obtain ⟨kvs1, hd1⟩ := D1.is
    refine ⟨_, rfl, rfl, _, rfl, ite2 (fun e => ?_) (fun e => ?_)⟩
    · refine ⟨by show 10 ≤ sizeLine; decide, fun l nl => ?_⟩
      have s2 := same_new (o := .lst (menu.map V.str)) nl
      refine ⟨_, rfl, d, c0, cs, n + 1, 10, rfl, D1.same s2, by decide, by decide, by omega, fun v2 H2 w0 w1 D2 k2 => ?_⟩
      obtain ⟨z', hz', ha⟩ := at_list (xs := menu.map V.str) w0 (by show v2 < 10; exact w1)
      obtain ⟨z, hz, rfl⟩ := List.mem_map.mp hz'
      have nld : l ≠ d := (ne_of_none hd1 nl).symm
      refine ⟨l, _, _, _, rfl, rfl, SqL.of (k2 _ _ upd_same nld), ha, ?_⟩
      exact q z H2 (menu_keys z hz) (D2.mono (by omega)) (k1.trans ((keep_same s2).trans k2))
    · refine ⟨_, rfl, rfl, _, rfl, ite2 (fun e => ?_) (fun e => ?_)⟩
      · refine ⟨_, rfl, d, c0, cs, n + 1, 26, rfl, D1, by decide, by decide, by omega, fun v2 H2 w0 w1 D2 k2 => ?_⟩
        obtain ⟨c, hc, c1, c2⟩ := letter w0 w1
        refine ⟨abc, _, c, rfl, rfl, abc_len, hc, _, _, rfl, rfl, by show 1 + 1 ≤ sizeLine; decide, ?_⟩
        exact q _ H2 (key_k c1 c2) (D2.mono (by omega)) (k1.trans k2)
      · refine ⟨⟨_, rfl⟩, _, rfl, d, c0, cs, n + 1, 8, rfl, D1, by decide, by decide, by omega, fun v2 H2 w0 w1 D2 k2 => ?_⟩
        obtain ⟨kvs2, hd2⟩ := D2.is
        refine ⟨_, _, rfl, rfl, _, rfl, by omega, by omega, fun D nD => lc_range (lo := 0) (n := (1 + v2).toNat) (fun i H' => ∃ ys : List Str, ys.length = i ∧ (∀ y ∈ ys, Letter y) ∧ H' D = some (.lst (ys.map V.str)) ∧ DrawAt H' d c0 cs (n + 2 + i) ∧ Keep d H2 H') ?_ ?_ ?_⟩
        · exact ⟨[], rfl, fun y hy => by simp at hy, upd_same, D2.same (same_new nD), keep_same (same_new nD)⟩
        · rintro i H' hi ⟨ys, hl, hy, hDl, D', k'⟩
          have nDd : D ≠ d := (ne_of_none hd2 nD).symm
          refine ⟨rfl, ?_⟩
          refine ⟨_, rfl, d, c0, cs, n + 2 + i, 26, rfl, D', by decide, by decide, by omega, fun v3 H3 x0 x1 D3 k3 => ?_⟩
          obtain ⟨c, hc, c1, c2⟩ := letter x0 x1
          have hD3 := k3 _ _ hDl nDd
          refine ⟨abc, _, c, rfl, rfl, abc_len, hc, _, hD3, small1000 (by rw [List.length_map]; omega), ys ++ [⟨#[c]⟩], by rw [List.length_append, hl]; rfl, fun y my => ?_, ?_, ?_, ?_⟩
          · rcases List.mem_append.mp my with m | m
            · exact hy y m
            · exact ⟨c, by simpa using m, c1, c2⟩
          · rw [upd_same, List.map_append]
            rfl
          · exact D3.upd nDd (D2.neC nD)
          · exact keep_mut (k'.trans k3) nD
        · rintro H' ⟨ys, hl, hy, hDl, D', k'⟩
          refine ⟨_, D, ys, rfl, rfl, .inl (SqL.of hDl), by rw [sum_letters ys hy]; show ys.length + ys.length * 0 ≤ _; omega, ?_⟩
          rw [txt_join]
          obtain ⟨e1, e2⟩ := join_letters ys hy
          exact q _ H' ⟨by rw [e1]; omega, by rw [e1]; omega, e2⟩ (D'.mono (by omega)) (k1.trans (k2.trans k'))
end
end FB

namespace FB
open PySem PySem.Spec PyProof.Rows L2
section
variable {P : Program} {w : World} {K : PySem.W.Frag} {mg : Str → Option Value} {base : Heap}
theorem ok_spans {f : Addr} {fd : FuncData} (F : Fun K "_law_spans" "_law_spans" s_spans f fd) (B : Blt mg) (D_pick : DefOk P w K mg base 1 "_law_pick" ["_law_draw", "_law_many"] spPick) (D_key : DefOk P w K mg base 2 "_law_key" ["_law_draw"] spKey) :
    FnOk P w K mg base CX0 3 f fd ["_law_draw", "_law_most"] spSpans := by
  refine F.ok sc_spans (fun vs H Q E h => ?_) (fun cdv A outer s H vs Q E hr h => ?_)
  · obtain ⟨d, c, cs, n, m, rfl, _⟩ := h
    rfl
  · obtain ⟨d, c, cs, n, m, rfl, hD, hn, hm0, hm1, q⟩ := h
    refine ⟨_, pss_cons (ps_set (i := 2) sc_spans.nd rfl (Or.inl rfl) (pe_lst pa_nil))
    (pss_cons (ps_for PassesOwn.never rfl (pi_range1 (by rfl) B.range (pa_cons (pe_def D_pick (hr.mono (by omega)) (by rfl) (pa_cons (pv 0) (pa_cons (pv 1) pa_nil))) pa_nil)) (pg_name (i := 3) sc_spans.nd rfl (Or.inl rfl))
      (pss_cons (ps_set (i := 4) sc_spans.nd rfl (Or.inl rfl) (pe_def D_key (hr.mono (by omega)) (by rfl) (pa_cons (pv 0) pa_nil)))
      (pss_one (ps_if (pt_cmpR op_notIn_seq (pv 4) (pv 2) (by rfl))
        (pss_one (ps_expr (pe_bm PySem.F.plainAttrs_list PySem.F.slot_list_append PySem.F.type_list_append mt_append (pv 2) (pa_cons (pv 4) pa_nil)))) pss_nil))))
    (pss_cons (ps_set (i := 2) sc_spans.nd rfl (Or.inl rfl) (pe_op op_cat (pe_op op_cat (pe_lst (pa_cons pe_str pa_nil)) (pe_callB cr_sortedS (by rfl) B.sorted (by decide +kernel) (pa_cons (pv 2) pa_nil))) (pe_lst (pa_cons pe_str pa_nil))))
    (pss_cons (ps_set (i := 5) sc_spans.nd rfl (Or.inl rfl) (pe_lst pa_nil))
    (pss_cons (ps_set (i := 6) sc_spans.nd rfl (Or.inl rfl) (pe_cmpR op_eq (pe_def D_pick (hr.mono (by omega)) (by rfl) (pa_cons (pv 0) (pa_cons pe_int pa_nil))) pe_int (nomark _)))
    (pss_cons (ps_for PassesOwn.never rfl (pi_zip (by rfl) B.zip (pa_cons (pv 2) (pa_cons (pe_slice sl_list (pv 2) (po_some pe_int) po_none) pa_nil))) (pg_tup rfl (pgs_cons (pg_name (i := 7) sc_spans.nd rfl (Or.inl rfl)) (pgs_cons (pg_name (i := 8) sc_spans.nd rfl (Or.inl rfl)) pgs_nil)))
      (pss_one (ps_if (PW.pt (pw_and (pt_cmpR (op_neD hr.units) (pe_tup (pa_cons (pv 7) (pa_cons (pv 8) pa_nil))) (pe_tup (pa_cons pe_str (pa_cons pe_str pa_nil))) (nomark _)) (pw_and1 (PW.pt (pw_or (pt_val (pv 6)) (pw_or1 (pt_cmpR op_gt (pe_def D_pick (hr.mono (by omega)) (by rfl) (pa_cons (pv 0) (pa_cons pe_int pa_nil))) pe_int (nomark _))))))))
        (pss_one (ps_expr (pe_bm PySem.F.plainAttrs_list PySem.F.slot_list_append PySem.F.type_list_append mt_append (pv 5) (pa_cons (pe_tup (pa_cons (pv 7) (pa_cons (pv 8) pa_nil))) pa_nil)))) pss_nil)))
    (pss_one (ps_ret (pv 5)))))))), ?_⟩
    refine ⟨Nat.zero_le _, fun kl nkl => ?_⟩
    have s1 := same_new (o := .lst []) nkl
    have nkd : kl ≠ d := hD.ne nkl
    have nkc : kl ≠ c := hD.neC nkl
    refine ⟨_, rfl, _, rfl, d, c, cs, n, m, rfl, hD.same s1, hm0, by omega, by omega, fun v H2 v0 v1 D2 k2 => ?_⟩
    refine ⟨v, rfl, by omega, by omega, for_range (lo := 0) (n := v.toNat) (fun i σ H' => ∃ v3 v4, ∃ ks : List Str, σ = [some (.ref d), some (.int m), some (.ref kl), v3, v4, none, none, none, none] ∧ ks.length ≤ i ∧ (∀ k ∈ ks, IsKey k) ∧ ks.Nodup ∧ H' kl = some (.lst (ks.map V.str)) ∧ DrawAt H' d c cs (n + 1 + 11 * i) ∧ Keep d H H') ?_ ?_ ?_⟩
    · exact ⟨none, none, [], rfl, Nat.zero_le _, fun k hk => by simp at hk, List.nodup_nil, k2 _ _ upd_same nkd, D2, (keep_same s1).trans k2⟩
    · rintro i σ H' hi ⟨v3, v4, ks, rfl, hl, hk, nd, hkl, D', k'⟩
      refine ⟨_, rfl, d, c, cs, n + 1 + 11 * i, rfl, D', by omega, fun z H3 hz D3 k3 => ?_⟩
      have hkl3 := k3 _ _ hkl nkd
      refine ⟨_, rfl, _, rfl, kl, _, rfl, .inl (SqL.of hkl3), rfl, flat_strs ks, _, rfl, ite2 (fun e => ?_) (fun e => ?_)⟩
      · have e1 : (!inV (.str z) (ks.map V.str)) = true := e
        rw [inV_str] at e1
        have hno : z ∉ ks := by
          intro h
          rw [decide_eq_true h] at e1
          cases e1
        refine ⟨_, rfl, .inl ⟨rfl, _, SqL.of hkl3⟩, _, rfl, kl, _, _, rfl, rfl, hkl3, small1000 (by rw [List.length_map]; omega), _, _, ks ++ [z], rfl, by rw [List.length_append]; show ks.length + 1 ≤ _; omega, fun x hx => ?_, ?_, ?_, ?_, ?_⟩
        · rcases List.mem_append.mp hx with h | h
          · exact hk x h
          · rw [show x = z by simpa using h]
            exact hz
        · rw [List.nodup_append]
          exact ⟨nd, by simp, fun a ha b hb e => hno (by rw [show b = z by simpa using hb] at e; rw [← e]; exact ha)⟩
        · rw [upd_same, List.map_append]
          rfl
        · exact (D3.upd nkd nkc).mono (by omega)
        · exact keep_mut (k'.trans k3) nkl
      · exact ⟨_, _, ks, rfl, by omega, hk, nd, hkl3, D3.mono (by omega), k'.trans k3⟩
    · rintro σ H3 ⟨v3, v4, ks, rfl, hl, hk, nd, hkl, D3, k3⟩
      -- keys = [''] + sorted(keys) + ['']
      refine ⟨by show 1 ≤ sizeLine; decide, fun l1 n1 => ?_⟩
      have t1 := same_new (o := .lst [V.str ""]) n1
      refine ⟨_, rfl, kl, ks, rfl, SqL.of (t1 _ _ hkl), by omega, fun ys p perm srt np => ?_⟩
      have t2 := same_new (o := .lst (ys.map V.str)) np
      have hyl : ys.length ≤ 20 := by
        rw [perm.length_eq]
        omega
      have hys : ∀ k ∈ ys, IsKey k := fun k h => hk k (perm.mem_iff.mp h)
      have hst := strict_of_sorted ys srt (perm.nodup_iff.mpr nd)
      refine ⟨l1, p, _, _, rfl, rfl, t2 _ _ upd_same, upd_same, by rw [List.length_map]; show 1 + ys.length ≤ sizeLine; exact Nat.le_trans (show 1 + ys.length ≤ 100 by omega) (by decide), fun l2 n2 => ?_⟩
      have t3 := same_new (o := .lst ([V.str ""] ++ ys.map V.str)) n2
      refine ⟨by show 1 ≤ sizeLine; decide, fun l3 n3 => ?_⟩
      have t4 := same_new (o := .lst [V.str ""]) n3
      refine ⟨l2, l3, _, _, rfl, rfl, t4 _ _ upd_same, upd_same, by rw [List.length_append, List.length_map]; show 1 + ys.length + 1 ≤ sizeLine; exact Nat.le_trans (show 1 + ys.length + 1 ≤ 100 by omega) (by decide), fun l4 n4 => ?_⟩
      have t5 := same_new (o := .lst ([V.str ""] ++ ys.map V.str ++ [V.str ""])) n4
      have t15 := t1.trans (t2.trans (t3.trans (t4.trans t5)))
      have efull : [V.str ""] ++ ys.map V.str ++ [V.str ""] = ((("" : Str) :: (ys ++ [("" : Str)])).map V.str) := by simp
      rw [efull] at t5 t15 ⊢
      have h4 : upd (upd (upd (upd (upd H3 l1 (.lst [V.str ""])) p (.lst (ys.map V.str))) l2 (.lst ([V.str ""] ++ ys.map V.str))) l3 (.lst [V.str ""])) l4 (.lst ((("" : Str) :: (ys ++ [("" : Str)])).map V.str)) l4 = some (.lst ((("" : Str) :: (ys ++ [("" : Str)])).map V.str)) := upd_same
      generalize upd (upd (upd (upd (upd H3 l1 (.lst [V.str ""])) p (.lst (ys.map V.str))) l2 (.lst ([V.str ""] ++ ys.map V.str))) l3 (.lst [V.str ""])) l4 (.lst ((("" : Str) :: (ys ++ [("" : Str)])).map V.str)) = H4 at t15 h4
      have hfl : (("" : Str) :: (ys ++ [("" : Str)])).length = ys.length + 2 := by simp
      have D4 := D3.same t15
      have k4 := k3.trans (keep_same t15)
      have hfk := full_keys hys
      generalize hfull : (("" : Str) :: (ys ++ [("" : Str)])) = full at h4 hfl hfk
      -- spans_here = []
      refine ⟨Nat.zero_le _, fun sl nsl => ?_⟩
      have u1 := same_new (o := .lst []) nsl
      have nsd : sl ≠ d := D4.ne nsl
      have nsc : sl ≠ c := D4.neC nsl
      have ns4 : sl ≠ l4 := (ne_of_none h4 nsl).symm
      have nslH : H sl = none := keep_free k4 (by obtain ⟨kk, hkk⟩ := D4.is; exact ⟨_, hkk⟩) nsl
      refine ⟨_, rfl, d, c, cs, n + 1 + 11 * v.toNat, 2, rfl, D4.same u1, by decide, by decide, by omega, fun v5 H5 _ _ D5 k5 => ?_⟩
      refine ⟨rfl, ?_⟩
      have h45 := k5 _ _ (u1 _ _ h4) (by intro z; subst z; obtain ⟨kk, hkk⟩ := D4.is; rw [hkk] at h4; cases h4)
      have hs5 := k5 _ _ (upd_same (H := H4) (a := sl) (o := .lst [])) nsd
      -- zip(keys, keys[1:])
      refine ⟨_, rfl, _, rfl, _, rfl, l4, _, rfl, SqL.of h45, fun cc ncc => ?_⟩
      have w1 := same_new (o := .lst (cutV (full.map V.str) (some 1) none)) ncc
      rw [cut1] at w1 ⊢
      have D6 := D5.same w1
      have h46 := w1 _ _ h45
      have hs6 := w1 _ _ hs5
      have hc6 : upd H5 cc (.lst ((full.map V.str).drop 1)) cc = some (.lst ((full.map V.str).drop 1)) := upd_same
      have k6 := (keep_mut (o := .lst []) k4 nslH)
      have k6 := (keep_mut (o := .lst []) k4 nslH).trans (k5.trans (keep_same w1))
      have nscc : sl ≠ cc := ne_of_none hs5 ncc
      have ncd : cc ≠ d := D5.ne ncc
      have n4d : l4 ≠ d := by intro z; subst z; obtain ⟨kk, hkk⟩ := D4.is; rw [hkk] at h4; cases h4
      generalize upd H5 cc (.lst ((full.map V.str).drop 1)) = H6 at D6 h46 hs6 hc6 k6
      obtain ⟨Pv, hPv⟩ : ∃ Pv : Nat → L2.St → Hp → Prop, ∀ i σ H', Pv i σ H' ↔ ∃ y7 y8, ∃ zs : List Sp3, σ = [some (.ref d), some (.int m), some (.ref l4), v3, v4, some (.ref sl), some (.bl (decide (V.int v5 = V.int 0))), y7, y8] ∧ (zs.map (·.2)).Sublist ((nexts full).take i) ∧ (∀ z ∈ zs, z.2 ≠ (("" : Str), ("a" : Str))) ∧ zs.length ≤ i ∧ SpansAt H' sl zs ∧ H' l4 = some (.lst (full.map V.str)) ∧ H' cc = some (.lst ((full.map V.str).drop 1)) ∧ DrawAt H' d c cs (n + 2 + 11 * v.toNat + i) ∧ Keep d H H' := ⟨_, fun _ _ _ => Iff.rfl⟩
      refine ⟨l4, cc, _, _, rfl, SqL.of h46, SqL.of hc6, for_zipG (xs := full.map V.str) (ys := (full.map V.str).drop 1) (ys.length + 1) (by rw [List.length_map]; omega) (by rw [List.length_drop, List.length_map]; omega) (.inr (by rw [List.length_drop, List.length_map]; omega)) Pv ?_ ?_ ?_ ?_⟩
      · exact (hPv _ _ _).mpr ⟨none, none, [], rfl, by simp, fun z hz => by simp at hz, Nat.le_refl _, ⟨hs6, fun z hz => by simp at hz⟩, h46, hc6, D6.mono (by omega), k6⟩
      · intro i σ H' hp
        obtain ⟨_, _, _, _, _, _, _, _, a1, a2, _, _⟩ := (hPv _ _ _).mp hp
        exact ⟨SqL.of a1, SqL.of a2⟩
      · intro i x y T σ H' hx hy hp nT
        obtain ⟨y7, y8, zs, rfl, hsub, hno, hzl, hZ, a1, a2, D', k'⟩ := (hPv _ _ _).mp hp
        rw [List.getElem?_map] at hx
        rw [List.getElem?_drop, List.getElem?_map, Nat.add_comm 1 i] at hy
        obtain ⟨x, hx', rfl⟩ := Option.map_eq_some_iff.mp hx
        obtain ⟨y, hy', rfl⟩ := Option.map_eq_some_iff.mp hy
        have hg := nexts_get full i x y hx' hy'
        have hil : i < ys.length + 1 := by
          have := (List.getElem?_eq_some_iff.mp hy').1
          omega
        have etake : (nexts full).take (i + 1) = (nexts full).take i ++ [(x, y)] := by
          rw [List.take_add_one, hg]
          rfl
        refine ⟨T, _, rfl, SqT.of upd_same, rfl, _, _, rfl, _, _, rfl, rfl, ?_⟩
        have x1 := same_new (o := .tup [V.str x, V.str y]) nT
        -- nothing is put
        have els : ∀ H7, SpansAt H7 sl zs → H7 l4 = some (.lst (full.map V.str)) → H7 cc = some (.lst ((full.map V.str).drop 1)) → DrawAt H7 d c cs (n + 2 + 11 * v.toNat + (i + 1)) → Keep d H H7 →
            Pv (i + 1) [some (.ref d), some (.int m), some (.ref l4), v3, v4, some (.ref sl), some (.bl (decide (V.int v5 = V.int 0))), some (.str x), some (.str y)] H7 := fun H7 b1 b2 b3 b4 b5 =>
          (hPv _ _ _).mpr ⟨_, _, zs, rfl, by rw [etake]; exact hsub.trans (List.sublist_append_left _ _), hno, by omega, b1, b2, b3, b4, b5⟩
        have app : ∀ H7, (x, y) ≠ (("" : Str), ("a" : Str)) → SpansAt H7 sl zs → H7 l4 = some (.lst (full.map V.str)) → H7 cc = some (.lst ((full.map V.str).drop 1)) → DrawAt H7 d c cs (n + 2 + 11 * v.toNat + (i + 1)) → Keep d H H7 → ∀ t, H7 t = none →
            Pv (i + 1) [some (.ref d), some (.int m), some (.ref l4), v3, v4, some (.ref sl), some (.bl (decide (V.int v5 = V.int 0))), some (.str x), some (.str y)] (upd (upd H7 t (.tup [.str x, .str y])) sl (.lst (zs.map (fun z => V.ref z.1) ++ [.ref t]))) := fun H7 hxy b1 b2 b3 b4 b5 t nt => by
          have st := same_new (o := .tup [V.str x, V.str y]) nt
          refine (hPv _ _ _).mpr ⟨_, _, zs ++ [(t, x, y)], rfl, ?_, ?_, ?_, ⟨?_, ?_⟩, ?_, ?_, ?_, ?_⟩
          · rw [etake, List.map_append]
            exact hsub.append (List.Sublist.refl _)
          · intro z hz
            rcases List.mem_append.mp hz with h | h
            · exact hno z h
            · rw [show z = (t, x, y) by simpa using h]
              exact hxy
          · rw [List.length_append]
            show zs.length + 1 ≤ i + 1
            omega
          · rw [upd_same, List.map_append]
            rfl
          · intro z hz
            have hz' : upd H7 t (.tup [.str x, .str y]) z.1 = some (.tup [.str z.2.1, .str z.2.2]) := by
              rcases List.mem_append.mp hz with h | h
              · exact st _ _ (b1.tp z h)
              · rw [show z = (t, x, y) by simpa using h]
                exact upd_same
            rw [upd_ne (ne_of hz' (st _ _ b1.ls) (by intro z; cases z))]
            exact hz'
          · rw [upd_ne ns4.symm]
            exact st _ _ b2
          · rw [upd_ne nscc.symm]
            exact st _ _ b3
          · exact (b4.same st).upd nsd nsc
          · exact keep_mut (b5.trans (keep_same st)) nslH
        have hlen : (zs.map (fun z => V.ref z.1)).length < sizeLine := by
          rw [List.length_map]
          exact small1000 (by omega)
        -- (low, high) != ('', 'a')
        refine ⟨_, rfl, _, rfl, by show 2 ≤ sizeLine; decide, fun t1 n1 => ?_⟩
        have x2 := same_new (o := .tup [V.str x, V.str y]) n1
        refine ⟨by show 2 ≤ sizeLine; decide, fun t2 n2 => ?_⟩
        have x3 := same_new (o := .tup [V.str "", V.str "a"]) n2
        refine ⟨.tuple [.str x, .str y], .tuple [.str "", .str "a"], .tup (SqT.of (x3 _ _ upd_same)) (.cons (.str _) (.cons (.str _) .nil)), .tup (SqT.of upd_same) (.cons (.str _) (.cons (.str _) .nil)), shaped2 (hfk x (List.mem_of_getElem? hx')) (hfk y (List.mem_of_getElem? hy')), shaped2 (.inl rfl) key_a, _, rfl, ?_⟩
        have xs := x1.trans (x2.trans x3)
        generalize upd (upd (upd H' T (.tup [V.str x, V.str y])) t1 (.tup [V.str x, V.str y])) t2 (.tup [V.str "", V.str "a"]) = H7 at xs
        have b1 := hZ.same xs
        have b2 := xs _ _ a1
        have b3 := xs _ _ a2
        have b4 := (D'.same xs).mono (show n + 2 + 11 * v.toNat + i ≤ n + 2 + 11 * v.toNat + (i + 1) by omega)
        have b5 := k'.trans (keep_same xs)
        refine ite2 (fun e1 => ?_) (fun e1 => ?_)
        · have hxy : (x, y) ≠ (("" : Str), ("a" : Str)) := fun z => by
            have e2 : x = "" := congrArg Prod.fst z
            have e3 : y = "a" := congrArg Prod.snd z
            subst e2 e3
            revert e1
            decide +kernel
          refine ⟨_, rfl, _, rfl, ite2 (fun e2 => ?_) (fun e2 => ?_)⟩
          · exact ⟨_, rfl, .inl ⟨rfl, _, SqL.of b1.ls⟩, _, rfl, _, rfl, by show 2 ≤ sizeLine; decide, fun t nt => ⟨sl, _, _, rfl, rfl, (same_new nt) _ _ b1.ls, hlen, app H7 hxy b1 b2 b3 b4 b5 t nt⟩⟩
          · refine ⟨_, rfl, d, c, cs, n + 2 + 11 * v.toNat + i, 3, rfl, D'.same xs, by decide, by decide, by omega, fun v6 H8 _ _ D8 k8 => ?_⟩
            have c1 : SpansAt H8 sl zs := b1.keep k8 (b4.is)
            have c2 := k8 _ _ b2 n4d
            have c3 := k8 _ _ b3 ncd
            refine ⟨_, _, rfl, rfl, _, rfl, ite2 (fun e3 => ?_) (fun e3 => ?_)⟩
            · exact ⟨_, rfl, .inl ⟨rfl, _, SqL.of c1.ls⟩, _, rfl, _, rfl, by show 2 ≤ sizeLine; decide, fun t nt => ⟨sl, _, _, rfl, rfl, (same_new nt) _ _ c1.ls, hlen, app H8 hxy c1 c2 c3 D8 (b5.trans k8) t nt⟩⟩
            · exact els H8 c1 c2 c3 D8 (b5.trans k8)
        · exact els H7 b1 b2 b3 b4 b5
      · intro σ H7 hp
        obtain ⟨y7, y8, zs, rfl, hsub, hno, hzl, hZ, a1, a2, D', k'⟩ := (hPv _ _ _).mp hp
        refine ⟨_, rfl, ?_⟩
        refine q sl zs H7 ⟨ys, hys, hst, ?_, hno, by omega⟩ hZ (D'.mono (by omega)) k' nslH
        rw [hfull]
        exact hsub.trans (List.take_sublist _ _)
end
end FB

namespace FB
open PySem PySem.Spec PyProof.Rows L2
abbrev ends2 (z : Sp3) : List Str := [z.2.1, z.2.2].filter fun x => !decide (V.str x = V.str "")
theorem ends2_len (z : Sp3) : (ends2 z).length ≤ 2 := List.length_filter_le _ _
theorem flat_len : ∀ zs : List Sp3, (zs.map ends2).flatten.length ≤ 2 * zs.length
  | [] => by simp
  | z :: r => by
    have := flat_len r
    have := ends2_len z
    rw [List.map_cons, List.flatten_cons, List.length_append, List.length_cons]
    omega
section
variable {P : Program} {w : World} {K : PySem.W.Frag} {mg : Str → Option Value} {base : Heap}
theorem ok_asked {f : Addr} {fd : FuncData} (F : Fun K "_law_asked" "_law_asked" s_asked f fd) (B : Blt mg) (D_pick : DefOk P w K mg base 1 "_law_pick" ["_law_draw", "_law_many"] spPick) (D_key : DefOk P w K mg base 2 "_law_key" ["_law_draw"] spKey) :
    FnOk P w K mg base CX0 3 f fd ["_law_draw", "_law_spans_here"] spAsked := by
  refine F.ok sc_asked (fun vs H Q E h => ?_) (fun cdv A outer s H vs Q E hr h => ?_)
  · obtain ⟨d, c, cs, n, a, zs, rfl, _⟩ := h
    rfl
  · obtain ⟨d, c, cs, n, a, zs, rfl, hD, hn, hZ, hzl, q⟩ := h
    refine ⟨_, pss_cons (ps_setLc (i := 2) (own := [("_law_k", 5)]) (g := gName 5) (tt := tYes) rfl sc_asked.nd rfl rfl (sw_true rfl rfl rfl (by decide +kernel)) (pi_range1 (by rfl) B.range (pa_cons (pe_op op_add pe_int (pe_def D_pick (hr.mono (by omega)) (by rfl) (pa_cons (pv 0) (pa_cons pe_int pa_nil)))) pa_nil)) (blkOk_by (own := [("_law_k", 5)]) (N := ["_law_draw", "_law_spans_here", "_law_keys", "_law_low", "_law_high", "_law_k", "_law_key_here"]) (sc := defScope s_asked) (by decide +kernel)) (fun _ _ _ _ _ => pg_name (i := 5) sc_asked.nd rfl (Or.inl rfl)) (fun _ _ _ _ _ => pts_nil) (fun _ _ _ _ _ => pe_def D_key (hr.mono (by omega)) (by rfl) (pa_cons (pv 0) pa_nil)))
    (pss_cons (ps_for PassesOwn.never rfl (pi_list (pv 1)) (pg_tup rfl (pgs_cons (pg_name (i := 3) sc_asked.nd rfl (Or.inl rfl)) (pgs_cons (pg_name (i := 4) sc_asked.nd rfl (Or.inl rfl)) pgs_nil)))
      (pss_one (ps_expr (pe_bm PySem.F.plainAttrs_list PySem.F.slot_list_extend PySem.F.type_list_extend mt_extend (pv 2) (pa_cons (pe_lc (own := [("_law_key_here", 6)]) (g := gName 6) rfl sc_asked.nd (pi_tup (pe_tup (pa_cons (pv 3) (pa_cons (pv 4) pa_nil)))) (blkOk_by (own := [("_law_key_here", 6)]) (N := ["_law_draw", "_law_spans_here", "_law_keys", "_law_low", "_law_high", "_law_k", "_law_key_here"]) (sc := defScope s_asked) (by decide +kernel)) (fun _ _ _ _ _ => pg_name (i := 6) sc_asked.nd rfl (Or.inl rfl)) (fun _ _ _ _ _ => pts_one (pt_cmpR op_ne (pv 6) pe_str (nomark _))) (fun _ _ _ _ _ => pv 6)) pa_nil)))))
    (pss_one (ps_ret (pv 2)))), ?_⟩
    refine ⟨_, rfl, d, c, cs, n, 6, rfl, hD, by decide, by decide, by omega, fun v H1 v0 v1 D1 k1 => ?_⟩
    refine ⟨_, _, rfl, rfl, _, rfl, by omega, by omega, fun D nD => ?_⟩
    have nDd : D ≠ d := D1.ne nD
    have nDc : D ≠ c := D1.neC nD
    have nDH : H D = none := keep_free k1 (by obtain ⟨kk, hkk⟩ := D1.is; exact ⟨_, hkk⟩) nD
    refine lc_range (lo := 0) (n := (1 + v).toNat) (fun i H' => ∃ ys : List Str, ys.length = i ∧ (∀ y ∈ ys, IsKey y) ∧ H' D = some (.lst (ys.map V.str)) ∧ DrawAt H' d c cs (n + 1 + 11 * i) ∧ Keep d H H') ?_ ?_ ?_
    · exact ⟨[], rfl, fun y hy => by simp at hy, upd_same, D1.same (same_new nD), keep_mut k1 nDH⟩
    · rintro i H' hi ⟨ys, hl, hy, hDl, D', k'⟩
      refine ⟨rfl, ?_⟩
      refine ⟨_, rfl, d, c, cs, n + 1 + 11 * i, rfl, D', by omega, fun z H3 hz D3 k3 => ?_⟩
      refine ⟨_, k3 _ _ hDl nDd, small1000 (by rw [List.length_map]; omega), ys ++ [z], by rw [List.length_append, hl]; rfl, fun y my => ?_, ?_, ?_, ?_⟩
      · rcases List.mem_append.mp my with m | m
        · exact hy y m
        · rw [show y = z by simpa using m]
          exact hz
      · rw [upd_same, List.map_append]
        rfl
      · exact (D3.upd nDd nDc).mono (by omega)
      · exact keep_mut (k'.trans k3) nDH
    · rintro H2 ⟨ds, hdl, hds, hDl, D2, k2⟩
      refine ⟨_, rfl, a, rfl, ⟨_, SqL.of (hZ.keep k2 hD.is).ls⟩, for_list (K := K) (a := a) (xs := zs.map fun z => V.ref z.1) (fun i σ H' => ∃ v3 v4, σ = [some (.ref d), some (.ref a), some (.ref D), v3, v4, none, none] ∧ H' D = some (.lst ((ds ++ ((zs.take i).map ends2).flatten).map V.str)) ∧ DrawAt H' d c cs (n + 100) ∧ Keep d H H') ?_ ?_ ?_ ?_⟩
      · exact ⟨none, none, rfl, by simpa using hDl, D2.mono (by omega), k2⟩
      · rintro i σ H' _ ⟨_, _, _, _, _, k'⟩
        exact SqL.of (hZ.keep k' hD.is).ls
      · rintro i x σ H' hi ⟨v3, v4, rfl, hDl', D', k'⟩
        rw [List.getElem?_map] at hi
        obtain ⟨z, hz, rfl⟩ := Option.map_eq_some_iff.mp hi
        have hm : z ∈ zs := List.mem_of_getElem? hz
        have hZ' := hZ.keep k' hD.is
        refine ⟨z.1, _, rfl, SqT.of (hZ'.tp z hm), rfl, _, _, rfl, _, _, rfl, rfl, ?_⟩
        refine ⟨_, rfl, .inl ⟨rfl, _, SqL.of hDl'⟩, _, rfl, _, rfl, by show 2 ≤ sizeLine; decide, fun tt ntt => ?_⟩
        have s1 := same_new (o := .tup [V.str z.2.1, V.str z.2.2]) ntt
        refine ⟨tt, rfl, ⟨_, SqT.of upd_same⟩, fun D2 nD2 => ?_⟩
        refine lc_tup (K := K) (a := tt) (xs := [V.str z.2.1, V.str z.2.2]) (fun i H'' => H'' D2 = some (.lst ((([z.2.1, z.2.2].take i).filter fun x => !decide (V.str x = V.str "")).map V.str)) ∧ Same (upd H' tt (.tup [V.str z.2.1, V.str z.2.2])) H'') ?_ ?_ ?_ ?_
        · exact ⟨upd_same, same_new nD2⟩
        · rintro i H'' _ ⟨_, sm⟩
          exact SqT.of (sm _ _ upd_same)
        · rintro j x H'' hj ⟨hD2, sm⟩
          have hj' : ([z.2.1, z.2.2].map V.str)[j]? = some x := hj
          rw [List.getElem?_map] at hj'
          obtain ⟨y, hy, rfl⟩ := Option.map_eq_some_iff.mp hj'
          have et : [z.2.1, z.2.2].take (j + 1) = [z.2.1, z.2.2].take j ++ [y] := by
            rw [List.take_add_one, hy]
            rfl
          refine ⟨rfl, _, rfl, rfl, _, rfl, ite2 (fun e => ?_) (fun e => ?_)⟩
          · refine ⟨_, rfl, _, hD2, small1000 (by rw [List.length_map]; exact Nat.le_trans (List.length_filter_le _ _) (by rw [List.length_take]; show min j 2 ≤ 1000; omega)), ?_, fun b o h => ?_⟩
            · rw [upd_same, et, List.filter_append, List.map_append]
              have e1 : [y].filter (fun x => !decide (V.str x = V.str "")) = [y] := by simp only [List.filter_cons, List.filter_nil, e, if_true]
              rw [e1]
              rfl
            · rw [upd_ne (ne_of_none h nD2)]
              exact sm b o h
          · refine ⟨?_, sm⟩
            rw [hD2, et, List.filter_append]
            have e1 : [y].filter (fun x => !decide (V.str x = V.str "")) = [] := by simp only [List.filter_cons, List.filter_nil, if_neg e]
            rw [e1, List.append_nil]
        · rintro H'' ⟨hD2, sm⟩
          have sH := s1.trans sm
          have e2 : (([z.2.1, z.2.2].take 2).filter fun x => !decide (V.str x = V.str "")) = ends2 z := rfl
          have hD2 : H'' D2 = some (.lst ((ends2 z).map V.str)) := hD2
          have hlen : ((ds ++ ((zs.take i).map ends2).flatten).map V.str).length + ((ends2 z).map V.str).length ≤ sizeLine := by
            have f1 := flat_len (zs.take i)
            have f2 := ends2_len z
            rw [List.length_take] at f1
            rw [List.length_map, List.length_map, List.length_append]
            exact Nat.le_trans (show ds.length + ((zs.take i).map ends2).flatten.length + (ends2 z).length ≤ 100 by omega) (by decide)
          refine ⟨D, D2, _, _, rfl, rfl, sH _ _ hDl', hD2, hlen, _, _, rfl, ?_, ?_, ?_⟩
          · rw [upd_same, List.take_add_one, hz]
            have e3 : (ds ++ ((zs.take i ++ (some z).toList).map ends2).flatten) = (ds ++ ((zs.take i).map ends2).flatten) ++ ends2 z := by
              rw [List.map_append, List.flatten_append, List.append_assoc]
              show ds ++ (((zs.take i).map ends2).flatten ++ (ends2 z ++ [])) = _
              rw [List.append_nil]
            rw [e3, List.map_append (l₂ := ends2 z)]
          · exact (D'.same sH).upd nDd nDc
          · exact keep_mut (k'.trans (keep_same sH)) nDH
      · rintro σ H' ⟨v3, v4, rfl, hDl', D', k'⟩
        rw [List.length_map, List.take_length] at hDl'
        have f1 := flat_len zs
        refine ⟨_, rfl, q D _ H' ⟨ds, hds, rfl⟩ ?_ hDl' (D'.mono (by omega)) k' nDH⟩
        rw [List.length_append]
        exact (show ds.length + (zs.map ends2).flatten.length ≤ 100 by omega)
end
end FB

namespace FB
open PySem PySem.Spec PyProof.Rows L2
def spMeet (K : PySem.W.Frag) : Sp := fun vs H Q _ => ∃ (a q : Addr) (zs : List Sp3) (y : Sp2), vs = [.ref a, .ref q] ∧ SpansAt H a zs ∧ H q = some (.tup [.str y.1, .str y.2]) ∧ ∀ H', Same H H' → Q (.bl ((zs.map (·.2)).any fun z => meetB z y)) H'
theorem keep_of {d : Addr} {H H' : Hp} (k : Keep d H H') {b : Addr} {o : HO} (h : H b = some o) (hd : ∃ kvs, H d = some (.dK kvs)) (ho : ∀ kvs, o ≠ .dK kvs) : H' b = some o := by
  obtain ⟨kvs, hd⟩ := hd
  exact k b o h (ne_of h hd (ho kvs))
section
variable {P : Program} {w : World} {K : PySem.W.Frag} {mg : Str → Option Value} {base : Heap}
theorem ok_meet {f : Addr} {fd : FuncData} (F : Fun K "_law_meet" "_law_meet" s_meet f fd) (D_has : DefOk P w K mg base 1 "_law_has" ["_law_span", "_law_key_here"] (spHas K)) (D_least : DefOk P w K mg base 1 "_law_least" ["_law_span"] (spLeast K)) : FnOk P w K mg base CX0 2 f fd ["_law_spans_here", "_law_span"] (spMeet K) := by
  refine F.ok sc_meet (fun vs H Q E h => ?_) (fun cdv A outer s H vs Q E hr h => ?_)
  · obtain ⟨a, q, zs, y, rfl, _⟩ := h
    rfl
  · obtain ⟨a, q, zs, y, rfl, hZ, hy, q0⟩ := h
    refine ⟨_, pss_cons (ps_for PassesOwn.never rfl (pi_list (pv 0)) (pg_name (i := 2) sc_meet.nd rfl (Or.inl rfl))
      (pss_one (ps_if (PW.pt (pw_or (pt_val (pe_def D_has (hr.mono (by omega)) (by rfl) (pa_cons (pv 2) (pa_cons (pe_def D_least (hr.mono (by omega)) (by rfl) (pa_cons (pv 1) pa_nil)) pa_nil)))) (pw_or1 (pt_val (pe_def D_has (hr.mono (by omega)) (by rfl) (pa_cons (pv 1) (pa_cons (pe_def D_least (hr.mono (by omega)) (by rfl) (pa_cons (pv 2) pa_nil)) pa_nil)))))))
        (pss_one (ps_ret pe_bl)) pss_nil)))
    (pss_one (ps_ret pe_bl)), ?_⟩
    refine ⟨_, rfl, a, rfl, ⟨_, SqL.of hZ.ls⟩, for_list (K := K) (a := a) (xs := zs.map fun z => V.ref z.1) (fun i σ H' => ∃ v, σ = [some (.ref a), some (.ref q), v] ∧ Same H H' ∧ ∀ z ∈ zs.take i, meetB z.2 y = false) ⟨none, rfl, Same.refl _, fun z hz => by simp at hz⟩ (fun i σ H' _ ⟨_, _, sm, _⟩ => SqL.of (sm _ _ hZ.ls)) ?_ ?_⟩
    · rintro i x σ H' hi ⟨v, rfl, sm, hno⟩
      rw [List.getElem?_map] at hi
      obtain ⟨z, hz, rfl⟩ := Option.map_eq_some_iff.mp hi
      have hm : z ∈ zs := List.mem_of_getElem? hz
      have hzt := sm _ _ (hZ.tp z hm)
      have hyt := sm _ _ hy
      have yes : meetB z.2 y = true → ((zs.map (·.2)).any fun z => meetB z y) = true := fun e => List.any_eq_true.mpr ⟨z.2, List.mem_map.mpr ⟨z, hm, rfl⟩, e⟩
      refine ⟨_, rfl, _, rfl, q, y.1, y.2, rfl, SqT.of hyt, fun H1 s1 => ⟨z.1, z.2.1, z.2.2, _, rfl, SqT.of (s1 _ _ hzt), _, rfl, ite2 (fun e => ?_) (fun e => ?_)⟩⟩
      · have q1 := q0 H1 (sm.trans s1)
        rw [yes (by unfold meetB; rw [show hasB z.2.1 z.2.2 (leastS y.1) = true from e]; rfl)] at q1
        exact q1
      · refine ⟨_, rfl, _, rfl, z.1, z.2.1, z.2.2, rfl, SqT.of (s1 _ _ hzt), fun H2 s2 => ⟨q, y.1, y.2, _, rfl, SqT.of (s2 _ _ (s1 _ _ hyt)), _, rfl, ite2 (fun e2 => ?_) (fun e2 => ?_)⟩⟩
        · have q1 := q0 H2 (sm.trans (s1.trans s2))
          rw [yes (by unfold meetB; rw [show hasB y.1 y.2 (leastS z.2.1) = true from e2]; simp)] at q1
          exact q1
        · refine ⟨_, rfl, sm.trans (s1.trans s2), fun u hu => ?_⟩
          rw [List.take_add_one, hz] at hu
          rcases List.mem_append.mp hu with hu | hu
          · exact hno u hu
          · rw [show u = z by simpa using hu]
            unfold meetB
            rw [Bool.eq_false_iff.mpr (show ¬ hasB z.2.1 z.2.2 (leastS y.1) = true from e), Bool.eq_false_iff.mpr (show ¬ hasB y.1 y.2 (leastS z.2.1) = true from e2)]
            rfl
    · rintro σ H' ⟨v, rfl, sm, hno⟩
      rw [List.length_map, List.take_length] at hno
      have e2 : ((zs.map (·.2)).any fun z => meetB z y) = false := by
        rw [List.any_eq_false]
        intro u hu
        obtain ⟨z, hz, rfl⟩ := List.mem_map.mp hu
        rw [hno z hz]
        decide
      have q1 := q0 H' sm
      rw [e2] at q1
      exact q1
theorem ok_law {f c1 P1 : Addr} {fd : FuncData} (F : Fun K "law" "law" s_law f fd) (B : Blt mg) (T : Txt mg) (A_has_key : DefAt K mg "has_key" s_has_key ["span", "key"]) (A_share_key : DefAt K mg "share_key" s_share_key ["one", "other"]) (A_clashes : DefAtC K mg "clashes" s_clashes ["spans", "span"] c1)
    (A_drawn : DefAt K mg "_law_drawn" s_drawn ["_law_script"]) (A_pick : DefAt K mg "_law_pick" s_pick ["_law_draw", "_law_many"]) (A_key : DefAt K mg "_law_key" s_key ["_law_draw"]) (A_spans : DefAt K mg "_law_spans" s_spans ["_law_draw", "_law_most"])
    (A_has : DefAt K mg "_law_has" s_has ["_law_span", "_law_key_here"]) (A_least : DefAt K mg "_law_least" s_least ["_law_span"]) (A_asked : DefAt K mg "_law_asked" s_asked ["_law_draw", "_law_spans_here"]) (A_meet : DefAt K mg "_law_meet" s_meet ["_law_spans_here", "_law_span"]) (TB1 : LamX.TabB base mg c1 P1) : FnOk P w K mg base CX0 5 f fd ["_law_script"] (spLawX K [(c1, P1)]) := by
  have D_has_key : DefOk P w K mg base 1 "has_key" ["span", "key"] (spHas K) := A_has_key.ok fun _ _ F => ok_has_key F
  have D_share_key : DefOk P w K mg base 2 "share_key" ["one", "other"] (spShare K) := A_share_key.ok fun _ _ F => ok_share_key F B T D_has_key
  have D_clashes : DefOk P w K mg base 4 "clashes" ["spans", "span"] (spClash K P1) := A_clashes.ok fun _ _ F => ok_clashes F B TB1 D_share_key
  have D_has : DefOk P w K mg base 1 "_law_has" ["_law_span", "_law_key_here"] (spHas K) := A_has.ok fun _ _ F => ok_has F
  have D_least : DefOk P w K mg base 1 "_law_least" ["_law_span"] (spLeast K) := A_least.ok fun _ _ F => ok_least F B
  have D_meet : DefOk P w K mg base 2 "_law_meet" ["_law_spans_here", "_law_span"] (spMeet K) := A_meet.ok fun _ _ F => ok_meet F D_has D_least
  have D_pick : DefOk P w K mg base 1 "_law_pick" ["_law_draw", "_law_many"] spPick := A_pick.ok fun _ _ F => ok_pick F B
  have D_drawn : DefOk P w K mg base 1 "_law_drawn" ["_law_script"] (spDrawn K) := A_drawn.ok fun _ _ F => ok_drawn F B
  have D_key : DefOk P w K mg base 2 "_law_key" ["_law_draw"] spKey := A_key.ok fun _ _ F => ok_key F B D_pick
  have D_spans : DefOk P w K mg base 3 "_law_spans" ["_law_draw", "_law_most"] spSpans := A_spans.ok fun _ _ F => ok_spans F B D_pick D_key
  have D_asked : DefOk P w K mg base 3 "_law_asked" ["_law_draw", "_law_spans_here"] spAsked := A_asked.ok fun _ _ F => ok_asked F B D_pick D_key
  refine F.ok sc_law (fun vs H Q E h => ?_) (fun cdv A outer s H vs Q E hr h => ?_)
  · obtain ⟨a, ns, rfl, _⟩ := h
    rfl
  · obtain ⟨a, ns, rfl, hS, hl, hTb, q⟩ := h
    have hT0 : H P1 = some (TabX P1) := hTb (c1, P1) (by simp)
    have q' : ∀ H', H' P1 = some (TabX P1) → Q (.bl true) H' := fun H' h => q H' fun p hp => by
      rw [show p = (c1, P1) by simpa using hp]
      exact h
    clear hTb q
    refine ⟨_, pss_cons (ps_set (i := 1) sc_law.nd rfl (Or.inl rfl) (pe_def D_drawn (hr.mono (by omega)) (by rfl) (pa_cons (pv 0) pa_nil)))
    (pss_cons (ps_set (i := 2) sc_law.nd rfl (Or.inr rfl) (pe_def D_spans (hr.mono (by omega)) (by rfl) (pa_cons (pv 1) (pa_cons pe_int pa_nil))))
    (pss_cons (ps_set (i := 3) sc_law.nd rfl (Or.inl rfl) (pe_def D_asked (hr.mono (by omega)) (by rfl) (pa_cons (pv 1) (pa_cons (pv 2) pa_nil))))
    (pss_cons (ps_for PassesOwn.never rfl (pi_list (pe_def D_spans (hr.mono (by omega)) (by rfl) (pa_cons (pv 1) (pa_cons pe_int pa_nil)))) (pg_name (i := 4) sc_law.nd rfl (Or.inr rfl))
      (pss_cons (ps_set (i := 5) sc_law.nd rfl (Or.inl rfl) (pe_callTy call_list_of (by rfl) B.list (by decide +kernel) (pa_cons (pv 2) pa_nil)))
      (pss_cons (ps_set (i := 6) sc_law.nd rfl (Or.inl rfl) (pe_def D_clashes (hr.mono (by omega)) (by rfl) (pa_cons (pv 5) (pa_cons (pv 4) pa_nil))))
      (pss_cons (ps_if (PW.pt (pw_or (pt_not (pt_val (pe_callB call_isi (by rfl) B.isinstance (by decide +kernel) (pa_cons (pv 6) (pa_cons (pe_bltn (v := .ty "bool") (by rfl) B.bool (by decide +kernel) rfl) pa_nil))))) (pw_or (pt_cmpR op_ne (pv 6) (pe_def D_meet (hr.mono (by omega)) (by rfl) (pa_cons (pv 2) (pa_cons (pv 4) pa_nil))) (nomark _)) (pw_or1 (pt_cmpR (op_neD hr.units) (pv 5) (pv 2) (nomark _))))))
        (pss_one (ps_ret pe_bl)) pss_nil)
      (pss_cons (ps_setLc (i := 7) (own := [("_law_key_here", 8)]) (g := gName 8) rfl sc_law.nd rfl rfl (sw_true rfl rfl rfl (by decide +kernel)) (pi_list (pv 3)) (blkOk_by (own := [("_law_key_here", 8)]) (N := ["_law_script", "_law_draw", "_law_spans_here", "_law_keys", "_law_span", "_law_handed", "_law_found", "_law_both", "_law_key_here", "_law_other"]) (sc := defScope s_law) (by decide +kernel)) (fun _ _ _ _ _ => pg_name (i := 8) sc_law.nd rfl (Or.inr rfl)) (fun _ _ _ _ _ => pts_one (PW.pt (pw_and (pt_val (pe_def D_has (hr.mono (by omega)) (by rfl) (pa_cons (pv 4) (pa_cons (pv 8) pa_nil)))) (pw_and1 (pt_val (pe_callB (cr_anyK (K := K) rfl rfl) (by rfl) B.any (by decide +kernel) (pa_cons (pe_lc (own := [("_law_other", 9)]) (g := gName 9) (tt := tYes) rfl sc_law.nd (pi_listK (K := K) rfl (pv 2)) (blkOk_by (own := [("_law_other", 9)]) (by kernel_rfl)) (fun _ _ _ _ _ => pg_name (i := 9) sc_law.nd rfl (Or.inl rfl)) (fun _ _ _ _ _ => pts_nil) (fun _ _ _ _ _ => pe_def D_has (hr.mono (by omega)) (by rfl) (pa_cons (pv 9) (pa_cons (pv 8) pa_nil)))) pa_nil))))))) (fun _ _ _ _ _ => pv 8))
      (pss_one (ps_if (PW.pt (pw_and (pt_cmpR (op_neD hr.units) (pv 7) (pe_lst pa_nil) (nomark _)) (pw_and1 (pt_not (pt_val (pv 6))))))
        (pss_one (ps_ret pe_bl)) pss_nil)))))))
    (pss_one (ps_ret pe_bl))))), ?_⟩
    refine ⟨_, rfl, a, ns, rfl, hS, hl, fun d c cs H1 s1 nd D1 => ?_⟩
    have hT1 := s1 _ _ hT0
    refine ⟨_, rfl, d, c, cs, 0, 10, rfl, D1, by decide, by decide, by decide, fun l zs H2 hSL hZ D2 k2 nl => ?_⟩
    have hT2 := keep_of k2 hT1 D1.is (by intro _ z; cases z)
    have hzl : zs.length ≤ 30 := by
      obtain ⟨_, _, _, _, _, h⟩ := hSL
      exact h
    have hkeys := hSL.keys
    have hoks := hSL.oks
    refine ⟨_, rfl, _, rfl, d, c, cs, _, l, zs, rfl, D2, by decide, hZ, hzl, fun kl ks H3 hks hkl hkls D3 k3 nkl => ?_⟩
    have hT3 := keep_of k3 hT2 D2.is (by intro _ z; cases z)
    have hZ3 := hZ.keep k3 D2.is
    have hkk := asked_keys hkeys hks
    refine ⟨_, rfl, d, c, cs, _, 4, rfl, D3, by decide, by decide, by decide, fun l2 ws H4 hSL2 hW D4 k4 nl2 => ?_⟩
    have hT4 := keep_of k4 hT3 D3.is (by intro _ z; cases z)
    have hZ4 := hZ3.keep k4 D3.is
    have hkls4 := keep_of k4 hkls D3.is (by intro _ z; cases z)
    have hoks2 := hSL2.oks
    refine ⟨l2, rfl, ⟨_, SqL.of hW.ls⟩, for_list (K := K) (a := l2) (xs := ws.map fun z => V.ref z.1) (fun i σ H' => ∃ v4 v5 v6 v7 v8 v9, σ = [some (.ref a), some (.ref d), some (.ref l), some (.ref kl), v4, v5, v6, v7, v8, v9] ∧ Same H4 H') ?_ ?_ ?_ ?_⟩
    · exact ⟨none, none, none, none, none, none, rfl, Same.refl _⟩
    · rintro i σ H' _ ⟨_, _, _, _, _, _, _, sm⟩
      exact SqL.of (sm _ _ hW.ls)
    · rintro i x σ H' hi ⟨v4, v5, v6, v7, v8, v9, rfl, sm⟩
      rw [List.getElem?_map] at hi
      obtain ⟨y, hy, rfl⟩ := Option.map_eq_some_iff.mp hi
      have hym : y ∈ ws := List.mem_of_getElem? hy
      have hZ' := hZ4.same sm
      have hT' := sm _ _ hT4
      have hyt := sm _ _ (hW.tp y hym)
      have hk' := sm _ _ hkls4
      have emeet : ((zs.map (·.2)).any fun z => shareB z y.2) = ((zs.map (·.2)).any fun z => meetB z y.2) := by
        rw [List.any_map, List.any_map]
        refine any_congr fun z hz => ?_
        exact share_meet (hoks z hz) (hoks2 y hym)
      -- handed
      refine ⟨_, rfl, l, _, rfl, .inl (SqL.of hZ'.ls), fun hl nhl => ?_⟩
      have t0 := same_new (o := .lst (zs.map fun z => V.ref z.1)) nhl
      have hZ0 := hZ'.same t0
      have hZh : SpansAt (upd H' hl (.lst (zs.map fun z => V.ref z.1))) hl zs := ⟨upd_same, hZ0.tp⟩
      have hT5 := t0 _ _ hT'
      have hy5 := t0 _ _ hyt
      have hk5 := t0 _ _ hk'
      have s5 := sm.trans t0
      generalize upd H' hl (.lst (zs.map fun z => V.ref z.1)) = H5 at hZ0 hZh hT5 hy5 hk5 s5
      -- found
      refine ⟨_, rfl, _, rfl, hl, y.1, zs, y.2, rfl, hZh, SqT.of hy5, hT5, ?_⟩
      rw [emeet]
      generalize hfd : ((zs.map (·.2)).any fun z => meetB z y.2) = found
      refine ⟨_, rfl, _, _, _, _, _, rfl, .ty _, .base (.bl _), ki_bb, _, rfl, ?_⟩
      refine iteF ?_
      refine ⟨_, rfl, _, rfl, _, rfl, l, y.1, zs, y.2, rfl, hZ0, hy5, fun H6 s6 => ?_⟩
      rw [hfd]
      refine ⟨rfl, _, rfl, ?_⟩
      refine iteNS rfl ?_
      have hZ6 := hZ0.same s6
      have hZh6 := hZh.same s6
      have hk6 := s6 _ _ hk5
      have hy6 := s6 _ _ hy5
      refine ⟨_, rfl, _, rfl, _, _, dp_spans hZh6, dp_spans hZ6, shaped_spans hkeys, shaped_spans hkeys, _, rfl, ?_⟩
      rw [eqv_spans hkeys]
      refine iteF ?_
      -- both
      refine ⟨_, rfl, kl, rfl, ⟨_, SqL.of hk6⟩, fun D nD => ?_⟩
      refine lc_list (K := K) (a := kl) (xs := ks.map V.str) (fun i H7 => ∃ bs : List Str, H7 D = some (.lst (bs.map V.str)) ∧ bs.length ≤ i ∧ Same H6 H7 ∧ (bs ≠ [] → found = true) ∧ ∀ b ∈ bs, KeyOr b) ?_ ?_ ?_ ?_
      · exact ⟨[], upd_same, Nat.zero_le _, same_new nD, fun h => absurd rfl h, fun b hb => by simp at hb⟩
      · rintro i H7 _ ⟨bs, _, _, sm7, _, _⟩
        exact SqL.of (sm7 _ _ hk6)
      · rintro i x H7 hi ⟨bs, hD, hbl, sm7, hbs, hbk⟩
        rw [List.getElem?_map] at hi
        obtain ⟨k, hkx, rfl⟩ := Option.map_eq_some_iff.mp hi
        have hil : i < ks.length := (List.getElem?_eq_some_iff.mp hkx).1
        have hK : IsKey k := hkk k (List.mem_of_getElem? hkx)
        refine ⟨rfl, _, rfl, _, rfl, y.1, y.2.1, y.2.2, k, rfl, SqT.of (sm7 _ _ hy6), _, rfl, ite2 (fun e1 => ?_) (fun e1 => ?_)⟩
        · have hZ7 := hZ6.same sm7
          refine ⟨_, rfl, l, rfl, ⟨_, SqL.of hZ7.ls⟩, fun D2 nD2 => ?_⟩
          refine lc_list (K := K) (a := l) (xs := zs.map fun z => V.ref z.1) (fun j H8 => H8 D2 = some (.lst (((zs.take j).map fun z => hasB z.2.1 z.2.2 k).map V.bl)) ∧ Same H7 H8) ?_ ?_ ?_ ?_
          · exact ⟨upd_same, same_new nD2⟩
          · rintro j H8 _ ⟨_, sm8⟩
            exact SqL.of (sm8 _ _ hZ7.ls)
          · rintro j x H8 hj ⟨hD2, sm8⟩
            rw [List.getElem?_map] at hj
            obtain ⟨z, hz, rfl⟩ := Option.map_eq_some_iff.mp hj
            have hm : z ∈ zs := List.mem_of_getElem? hz
            have hjl : j < zs.length := (List.getElem?_eq_some_iff.mp hz).1
            refine ⟨rfl, _, rfl, _, rfl, z.1, z.2.1, z.2.2, k, rfl, SqT.of (sm8 _ _ (hZ7.tp z hm)), _, hD2, small1000 (by rw [List.length_map, List.length_map, List.length_take]; omega), ?_, same_mut sm8 nD2⟩
            rw [upd_same, take_snoc hz, List.map_append, List.map_append]
            rfl
          · rintro H8 ⟨hD2, sm8⟩
            rw [List.length_map, List.take_length] at hD2
            refine ⟨D2, _, rfl, SqL.of hD2, _, rfl, ite2 (fun e2 => ?_) (fun e2 => ?_)⟩
            · refine ⟨_, rfl, _, sm8 _ _ hD, small1000 (by rw [List.length_map]; omega), bs ++ [k], by rw [upd_same, List.map_append]; rfl, by rw [List.length_append]; show bs.length + 1 ≤ _; omega, same_mut (sm7.trans sm8) nD, fun _ => ?_, fun b hb => (List.mem_append.mp hb).elim (hbk b) fun hb => by rw [show b = k by simpa using hb]; exact .inr hK⟩
              obtain ⟨b, hb, hb2⟩ := List.any_eq_true.mp e2
              obtain ⟨z, hz, rfl⟩ := List.mem_map.mp hb
              rw [← hfd, ← emeet]
              exact List.any_eq_true.mpr ⟨z.2, List.mem_map.mpr ⟨z, hz, rfl⟩, share_of_key (hoks z hz) (hoks2 y hym) hK hb2 e1⟩
            · exact ⟨bs, sm8 _ _ hD, by omega, sm7.trans sm8, hbs, hbk⟩
        · exact ⟨bs, hD, by omega, sm7, hbs, hbk⟩
      · rintro H7 ⟨bs, hD, hbl, sm7, hbs, hbk⟩
        refine ⟨_, rfl, by show 0 ≤ sizeLine; decide, fun n7 nn7 => ?_⟩
        have t7 := same_new (o := .lst []) nn7
        have hD' := t7 _ _ hD
        have fin := s5.trans (s6.trans (sm7.trans t7))
        cases bs with
        | nil =>
          refine ⟨.list [], .list [], .lst (SqL.of hD') .nil, .lst (SqL.of upd_same) .nil, shaped_nil, shaped_nil, _, rfl, ?_⟩
          rw [eqv_nil]
          refine iteF ?_
          exact ⟨_, _, _, _, _, _, rfl, fin⟩
        | cons b r =>
          have ht : found = true := hbs (by simp)
          refine ⟨_, .list [], .lst (SqL.of hD') (dpall_strs (b :: r)), .lst (SqL.of upd_same) .nil, shaped_strs hbk, shaped_nil, _, rfl, ?_⟩
          rw [List.map_cons, eqv_cons]
          refine iteT ?_
          refine ⟨_, rfl, _, rfl, ?_⟩
          rw [ht]
          refine iteF ?_
          exact ⟨_, _, _, _, _, _, rfl, fin⟩
    · rintro σ H' ⟨v4, v5, v6, v7, v8, v9, rfl, sm⟩
      exact q' H' (sm _ _ hT4)
end
theorem all_mk {l : PySem.W.OpenLaw} {w : World} {K : PySem.W.Frag} {h : Heap} {mg : Str → Option Value} {fa f0 f1 f2 f3 f4 f5 f6 f7 f8 f9 f10 f11 : Addr} (X : K.In h) (G : h.Ns mainGlobals mg) (hT : ∀ P ∈ [23], h.get? P = some (PySem.W.tabObj #[])) (hfa : mg "law" = some (.ref fa))
    {od0 an0 od1 an1 od2 an2 od3 an3 od4 an4 od5 an5 od6 an6 od7 an7 od8 an8 od9 an9 od10 an10 od11 an11 : Option Addr} {sl0 sl1 sl2 sl3 sl4 sl5 sl6 sl7 sl8 sl9 sl10 sl11 : Array (Option Value)} {oc0 kV0 dc0 pm0 cd0 ct0 oc1 kV1 dc1 pm1 ct1 oc2 kV2 dc2 pm2 cd2 ct2 oc3 kV3 dc3 pm3 cd3 ct3 oc4 kV4 dc4 pm4 cd4 ct4 oc5 kV5 dc5 pm5 cd5 ct5 oc6 kV6 dc6 pm6 cd6 ct6 oc7 kV7 dc7 pm7 cd7 ct7 oc8 kV8 dc8 pm8 cd8 ct8 oc9 kV9 dc9 pm9 cd9 ct9 oc10 kV10 dc10 pm10 cd10 ct10 oc11 kV11 dc11 pm11 cd11 ct11 : Value}
    (a0 : PySem.W.nsIn K mainGlobals "has_key" = some (some (.ref f0)))
    (l0 : K.lookup f0 = some ⟨oc0, od0, .func (PySem.W.fnOf "has_key" "has_key" (defArgs s_has_key) (defBody s_has_key) (defScope s_has_key) .none kV0 dc0 pm0 an0 cd0 ct0), sl0⟩)
    (c0 : PySem.W.codeIn K cd0 "has_key" = true) (k0 : PySem.W.keepIn K (.ref f0) = true)
    (a1 : PySem.W.nsIn K mainGlobals "clashes" = some (some (.ref f1)))
    (l1 : K.lookup f1 = some ⟨oc1, od1, .func (PySem.W.fnOf "clashes" "clashes" (defArgs s_clashes) (defBody s_clashes) (defScope s_clashes) .none kV1 dc1 pm1 an1 (.ref 27) ct1), sl1⟩)
    (c1 : PySem.W.codeIn K (.ref 27) "clashes" = true) (k1 : PySem.W.keepIn K (.ref f1) = true)
    (q1 : PySem.W.codeHdIn K 27 23 = true) (n1 : K.lookup 23 = none)
    (a2 : PySem.W.nsIn K mainGlobals "share_key" = some (some (.ref f2)))
    (l2 : K.lookup f2 = some ⟨oc2, od2, .func (PySem.W.fnOf "share_key" "share_key" (defArgs s_share_key) (defBody s_share_key) (defScope s_share_key) .none kV2 dc2 pm2 an2 cd2 ct2), sl2⟩)
    (c2 : PySem.W.codeIn K cd2 "share_key" = true) (k2 : PySem.W.keepIn K (.ref f2) = true)
    (a3 : PySem.W.nsIn K mainGlobals "_law_drawn" = some (some (.ref f3)))
    (l3 : K.lookup f3 = some ⟨oc3, od3, .func (PySem.W.fnOf "_law_drawn" "_law_drawn" (defArgs s_drawn) (defBody s_drawn) (defScope s_drawn) .none kV3 dc3 pm3 an3 cd3 ct3), sl3⟩)
    (c3 : PySem.W.codeIn K cd3 "_law_drawn" = true) (k3 : PySem.W.keepIn K (.ref f3) = true)
    (a4 : PySem.W.nsIn K mainGlobals "_law_pick" = some (some (.ref f4)))
    (l4 : K.lookup f4 = some ⟨oc4, od4, .func (PySem.W.fnOf "_law_pick" "_law_pick" (defArgs s_pick) (defBody s_pick) (defScope s_pick) .none kV4 dc4 pm4 an4 cd4 ct4), sl4⟩)
    (c4 : PySem.W.codeIn K cd4 "_law_pick" = true) (k4 : PySem.W.keepIn K (.ref f4) = true)
    (a5 : PySem.W.nsIn K mainGlobals "_law_key" = some (some (.ref f5)))
    (l5 : K.lookup f5 = some ⟨oc5, od5, .func (PySem.W.fnOf "_law_key" "_law_key" (defArgs s_key) (defBody s_key) (defScope s_key) .none kV5 dc5 pm5 an5 cd5 ct5), sl5⟩)
    (c5 : PySem.W.codeIn K cd5 "_law_key" = true) (k5 : PySem.W.keepIn K (.ref f5) = true)
    (a6 : PySem.W.nsIn K mainGlobals "_law_spans" = some (some (.ref f6)))
    (l6 : K.lookup f6 = some ⟨oc6, od6, .func (PySem.W.fnOf "_law_spans" "_law_spans" (defArgs s_spans) (defBody s_spans) (defScope s_spans) .none kV6 dc6 pm6 an6 cd6 ct6), sl6⟩)
    (c6 : PySem.W.codeIn K cd6 "_law_spans" = true) (k6 : PySem.W.keepIn K (.ref f6) = true)
    (a7 : PySem.W.nsIn K mainGlobals "_law_has" = some (some (.ref f7)))
    (l7 : K.lookup f7 = some ⟨oc7, od7, .func (PySem.W.fnOf "_law_has" "_law_has" (defArgs s_has) (defBody s_has) (defScope s_has) .none kV7 dc7 pm7 an7 cd7 ct7), sl7⟩)
    (c7 : PySem.W.codeIn K cd7 "_law_has" = true) (k7 : PySem.W.keepIn K (.ref f7) = true)
    (a8 : PySem.W.nsIn K mainGlobals "_law_least" = some (some (.ref f8)))
    (l8 : K.lookup f8 = some ⟨oc8, od8, .func (PySem.W.fnOf "_law_least" "_law_least" (defArgs s_least) (defBody s_least) (defScope s_least) .none kV8 dc8 pm8 an8 cd8 ct8), sl8⟩)
    (c8 : PySem.W.codeIn K cd8 "_law_least" = true) (k8 : PySem.W.keepIn K (.ref f8) = true)
    (a9 : PySem.W.nsIn K mainGlobals "_law_asked" = some (some (.ref f9)))
    (l9 : K.lookup f9 = some ⟨oc9, od9, .func (PySem.W.fnOf "_law_asked" "_law_asked" (defArgs s_asked) (defBody s_asked) (defScope s_asked) .none kV9 dc9 pm9 an9 cd9 ct9), sl9⟩)
    (c9 : PySem.W.codeIn K cd9 "_law_asked" = true) (k9 : PySem.W.keepIn K (.ref f9) = true)
    (a10 : PySem.W.nsIn K mainGlobals "_law_meet" = some (some (.ref f10)))
    (l10 : K.lookup f10 = some ⟨oc10, od10, .func (PySem.W.fnOf "_law_meet" "_law_meet" (defArgs s_meet) (defBody s_meet) (defScope s_meet) .none kV10 dc10 pm10 an10 cd10 ct10), sl10⟩)
    (c10 : PySem.W.codeIn K cd10 "_law_meet" = true) (k10 : PySem.W.keepIn K (.ref f10) = true)
    (a11 : PySem.W.nsIn K mainGlobals "law" = some (some (.ref f11)))
    (l11 : K.lookup f11 = some ⟨oc11, od11, .func (PySem.W.fnOf "law" "law" (defArgs s_law) (defBody s_law) (defScope s_law) .none kV11 dc11 pm11 an11 cd11 ct11), sl11⟩)
    (c11 : PySem.W.codeIn K cd11 "law" = true) (k11 : PySem.W.keepIn K (.ref f11) = true)
    (z0 : PySem.W.nsIn K mainGlobals "any" = some none)
    (z1 : PySem.W.nsIn K mainGlobals "bool" = some none)
    (z2 : PySem.W.nsIn K mainGlobals "int" = some none)
    (z3 : PySem.W.nsIn K mainGlobals "isinstance" = some none)
    (z4 : PySem.W.nsIn K mainGlobals "len" = some none)
    (z5 : PySem.W.nsIn K mainGlobals "list" = some none)
    (z6 : PySem.W.nsIn K mainGlobals "max" = some none)
    (z7 : PySem.W.nsIn K mainGlobals "range" = some none)
    (z8 : PySem.W.nsIn K mainGlobals "sorted" = some none)
    (z9 : PySem.W.nsIn K mainGlobals "zip" = some none)
    {t0 : Tok} (y0 : PySem.W.nsIn K mainGlobals "LEAST_KEY" = some (some (.str "a" t0))) :
    LawX l w K 5 63 "_law_script" mg fa h := by
  have e := hfa.symm.trans (PySem.W.mg_of X G a11)
  cases e
  have B : Blt mg := ⟨PySem.W.mg_none_of X G z0, PySem.W.mg_none_of X G z1, PySem.W.mg_none_of X G z2, PySem.W.mg_none_of X G z3, PySem.W.mg_none_of X G z4, PySem.W.mg_none_of X G z5, PySem.W.mg_none_of X G z6, PySem.W.mg_none_of X G z7, PySem.W.mg_none_of X G z8, PySem.W.mg_none_of X G z9⟩
  have T : Txt mg := ⟨⟨_, PySem.W.mg_of X G y0⟩⟩
  have F0 := fun_mk (st := s_has_key) l0 c0 k0
  have b0 := F0.binds (ps := ["span", "key"]) fun _ _ _ _ _ _ us hl => match us, hl with | [_, _], _ => rfl
  have A_has_key : DefAt K mg "has_key" s_has_key ["span", "key"] := ⟨_, _, F0, PySem.W.mg_of X G a0, b0⟩
  have F1 := fun_mk (st := s_clashes) l1 c1 k1
  have b1 := F1.binds (ps := ["spans", "span"]) fun _ _ _ _ _ _ us hl => match us, hl with | [_, _], _ => rfl
  have A_clashes : DefAtC K mg "clashes" s_clashes ["spans", "span"] 27 := ⟨_, _, funC_mk l1 c1 k1, PySem.W.mg_of X G a1, b1⟩
  have F2 := fun_mk (st := s_share_key) l2 c2 k2
  have b2 := F2.binds (ps := ["one", "other"]) fun _ _ _ _ _ _ us hl => match us, hl with | [_, _], _ => rfl
  have A_share_key : DefAt K mg "share_key" s_share_key ["one", "other"] := ⟨_, _, F2, PySem.W.mg_of X G a2, b2⟩
  have F3 := fun_mk (st := s_drawn) l3 c3 k3
  have b3 := F3.binds (ps := ["_law_script"]) fun _ _ _ _ _ _ us hl => match us, hl with | [_], _ => rfl
  have A_drawn : DefAt K mg "_law_drawn" s_drawn ["_law_script"] := ⟨_, _, F3, PySem.W.mg_of X G a3, b3⟩
  have F4 := fun_mk (st := s_pick) l4 c4 k4
  have b4 := F4.binds (ps := ["_law_draw", "_law_many"]) fun _ _ _ _ _ _ us hl => match us, hl with | [_, _], _ => rfl
  have A_pick : DefAt K mg "_law_pick" s_pick ["_law_draw", "_law_many"] := ⟨_, _, F4, PySem.W.mg_of X G a4, b4⟩
  have F5 := fun_mk (st := s_key) l5 c5 k5
  have b5 := F5.binds (ps := ["_law_draw"]) fun _ _ _ _ _ _ us hl => match us, hl with | [_], _ => rfl
  have A_key : DefAt K mg "_law_key" s_key ["_law_draw"] := ⟨_, _, F5, PySem.W.mg_of X G a5, b5⟩
  have F6 := fun_mk (st := s_spans) l6 c6 k6
  have b6 := F6.binds (ps := ["_law_draw", "_law_most"]) fun _ _ _ _ _ _ us hl => match us, hl with | [_, _], _ => rfl
  have A_spans : DefAt K mg "_law_spans" s_spans ["_law_draw", "_law_most"] := ⟨_, _, F6, PySem.W.mg_of X G a6, b6⟩
  have F7 := fun_mk (st := s_has) l7 c7 k7
  have b7 := F7.binds (ps := ["_law_span", "_law_key_here"]) fun _ _ _ _ _ _ us hl => match us, hl with | [_, _], _ => rfl
  have A_has : DefAt K mg "_law_has" s_has ["_law_span", "_law_key_here"] := ⟨_, _, F7, PySem.W.mg_of X G a7, b7⟩
  have F8 := fun_mk (st := s_least) l8 c8 k8
  have b8 := F8.binds (ps := ["_law_span"]) fun _ _ _ _ _ _ us hl => match us, hl with | [_], _ => rfl
  have A_least : DefAt K mg "_law_least" s_least ["_law_span"] := ⟨_, _, F8, PySem.W.mg_of X G a8, b8⟩
  have F9 := fun_mk (st := s_asked) l9 c9 k9
  have b9 := F9.binds (ps := ["_law_draw", "_law_spans_here"]) fun _ _ _ _ _ _ us hl => match us, hl with | [_, _], _ => rfl
  have A_asked : DefAt K mg "_law_asked" s_asked ["_law_draw", "_law_spans_here"] := ⟨_, _, F9, PySem.W.mg_of X G a9, b9⟩
  have F10 := fun_mk (st := s_meet) l10 c10 k10
  have b10 := F10.binds (ps := ["_law_spans_here", "_law_span"]) fun _ _ _ _ _ _ us hl => match us, hl with | [_, _], _ => rfl
  have A_meet : DefAt K mg "_law_meet" s_meet ["_law_spans_here", "_law_span"] := ⟨_, _, F10, PySem.W.mg_of X G a10, b10⟩
  have F11 := fun_mk (st := s_law) l11 c11 k11
  have hT2 : ∀ p ∈ ([(27, 23)] : List (Addr × Addr)), h.get? p.2 = some emptyTab := fun p hp => hT p.2 (by
    have e := List.mem_map_of_mem (f := Prod.snd) hp
    exact e)
  have hN2 : ∀ p ∈ ([(27, 23)] : List (Addr × Addr)), K.lookup p.2 = none := List.forall_mem_cons.mpr ⟨n1, fun _ z => nomatch z⟩
  have hC2 : ∀ p ∈ ([(27, 23)] : List (Addr × Addr)), PySem.W.CodeHd h p.1 p.2 := List.forall_mem_cons.mpr ⟨PySem.W.codeHd_of_K X q1, fun _ z => nomatch z⟩
  exact ⟨PySem.W.fnOf "law" "law" (defArgs s_law) (defBody s_law) (defScope s_law) .none kV11 dc11 pm11 an11 cd11 ct11, [(27, 23)], spLawX K [(27, 23)], hT2, hN2, hC2, fun s v => .of_eq rfl, fun H a ns hl _ hH hS => ⟨a, ns, rfl, hS, hl, hH, fun H2 hH2 => ⟨rfl, hH2⟩⟩, fun base _ _ TB => ok_law F11 B T A_has_key A_share_key A_clashes A_drawn A_pick A_key A_spans A_has A_least A_asked A_meet (TB (27, 23) (by decide))⟩
end FB
open PySem PySem.W PyProof.Rows
local macro_rules | `(tactic| o_head ($f $k $a $e)) => `(tactic| o_head (kmHook $k $a $e [23]))
set_option maxRecDepth 100000 in
set_option maxHeartbeats 0 in
theorem PySem.Challenge.cw_farbooks_k05_spans_that_clash_holds : PySem.Challenge.rw_farbooks_k05_spans_that_clash.Holds := by
  w_on; o_law; k_head; (case hw => w_witness2)
  k_fill
  refine FB.walk_ofX (l := PySem.Challenge.rw_farbooks_k05_spans_that_clash) (n := 63) (k := 5) (x := "_law_script") rfl (by decide) rfl ⟨rfl, by decide, by decide⟩ (fun w h Y => PySem.W.km_in_of Y) ?F
  case F =>
    intro w mg fa h Y KX G hmg
    refine' FB.all_mk KX G (PySem.W.km_tabs_of Y) hmg ?a0 ?l0 ?c0 ?k0 ?a1 ?l1 ?c1 ?k1 ?q1 ?n1 ?a2 ?l2 ?c2 ?k2 ?a3 ?l3 ?c3 ?k3 ?a4 ?l4 ?c4 ?k4 ?a5 ?l5 ?c5 ?k5 ?a6 ?l6 ?c6 ?k6 ?a7 ?l7 ?c7 ?k7 ?a8 ?l8 ?c8 ?k8 ?a9 ?l9 ?c9 ?k9 ?a10 ?l10 ?c10 ?k10 ?a11 ?l11 ?c11 ?k11 ?z0 ?z1 ?z2 ?z3 ?z4 ?z5 ?z6 ?z7 ?z8 ?z9 ?y0
    (case a0 => k_is); (case l0 => k_is); (case c0 => k_is); (case k0 => k_is); (case a1 => k_is); (case l1 => k_is)
    (case c1 => k_is); (case k1 => k_is); (case q1 => kernel_rfl); (case n1 => kernel_rfl); (case a2 => k_is); (case l2 => k_is)
    (case c2 => k_is); (case k2 => k_is); (case a3 => k_is); (case l3 => k_is); (case c3 => k_is); (case k3 => k_is)
    (case a4 => k_is); (case l4 => k_is); (case c4 => k_is); (case k4 => k_is); (case a5 => k_is); (case l5 => k_is)
    (case c5 => k_is); (case k5 => k_is); (case a6 => k_is); (case l6 => k_is); (case c6 => k_is); (case k6 => k_is)
    (case a7 => k_is); (case l7 => k_is); (case c7 => k_is); (case k7 => k_is); (case a8 => k_is); (case l8 => k_is)
    (case c8 => k_is); (case k8 => k_is); (case a9 => k_is); (case l9 => k_is); (case c9 => k_is); (case k9 => k_is)
    (case a10 => k_is); (case l10 => k_is); (case c10 => k_is); (case k10 => k_is); (case a11 => k_is); (case l11 => k_is)
    (case c11 => k_is); (case k11 => k_is); (case z0 => k_is); (case z1 => k_is); (case z2 => k_is); (case z3 => k_is)
    (case z4 => k_is); (case z5 => k_is); (case z6 => k_is); (case z7 => k_is); (case z8 => k_is); (case z9 => k_is)
    (case y0 => k_is)
