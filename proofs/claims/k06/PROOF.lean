import PyProof.Rows.All
import Wide.All
import OpenK.AllK
import Wide.FinOn
import HandS.ForMost
import HandS.IsInst
import HandS.Zip
import HandS.ExcInit
import HandS.ExcField
import HandS.ExcIs
import KE.KExcIs
import PySem.Challenge.RW_farbooks_k06_refusals_apart
set_option Elab.async false
set_option linter.all false
set_option maxRecDepth 100000
set_option maxHeartbeats 4000000
namespace FB
open PySem PySem.Spec PyProof.Rows L2

/-! ### a def that is called by its name -/
def DefOk (P : Program) (w : World) (K : PySem.W.Frag) (mg : Str → Option Value) (base : Heap) (k : Nat) (x : Str) (ps : List Str) (sp : Sp) : Prop :=
  ∃ f fd, FnOk P w K mg base CX0 k f fd ps sp ∧ mg x = some (.ref f) ∧ PySem.W.keepIn K (.ref f) = true ∧ L2.Binds K fd ps []
theorem pe_def {X : Cx} {k : Nat} {x : Str} {ps : List Str} {sp : Sp} {e : Expr} {es : List Expr} {t : TA} {p pos : Pos} (D : DefOk X.prog X.w X.K X.mg X.base k x ps sp) (hr : Room k X.A) (hg : Gl X x) (ha : PA X (e :: es) t)
    (hd : (x == ("__debug__" : Str)) = false := by decide) (hs : starEach (e :: es) X.env = (false, eval e X.env) :: starEach es X.env := by rfl) (hpl : (backTo pos (starEach es X.env)).any (·.1) = false := by rfl) :
    PE X (.Call (.Name x p) (e :: es) [] pos) (tCall sp [] E0 t) := by
  obtain ⟨f, fd, F, hm, hk, hb⟩ := D
  exact pe_call F hr hg hm hk hb .nil pass0 ha hd hs hpl
theorem pe_def0 {X : Cx} {k : Nat} {x : Str} {ps : List Str} {sp : Sp} {p pos : Pos} (D : DefOk X.prog X.w X.K X.mg X.base k x ps sp) (hr : Room k X.A) (hg : Gl X x)
    (hd : (x == ("__debug__" : Str)) = false := by decide) : PE X (.Call (.Name x p) [] [] pos) (tCall sp [] E0 tNil) := by
  obtain ⟨f, fd, F, hm, hk, hb⟩ := D
  exact pe_call0 F hr hg hm hk hb .nil pass0 hd
/-- where a def of the text stands -/
def DefAt (K : PySem.W.Frag) (mg : Str → Option Value) (x : Str) (st : Stmt) (ps : List Str) : Prop :=
  ∃ f fd, Fun K x x st f fd ∧ mg x = some (.ref f) ∧ L2.Binds K fd ps []
theorem DefAt.ok {P : Program} {w : World} {K : PySem.W.Frag} {mg : Str → Option Value} {base : Heap} {k : Nat} {x : Str} {st : Stmt} {ps : List Str} {sp : Sp} (A : DefAt K mg x st ps)
    (h : ∀ f fd, Fun K x x st f fd → FnOk P w K mg base CX0 k f fd ps sp) : DefOk P w K mg base k x ps sp := by
  obtain ⟨f, fd, F, hm, hb⟩ := A
  exact ⟨f, fd, h f fd F, hm, F.kp, hb⟩

/-! ### heaps -/
/-- all but what stands at d stays -/
def Keep (d : Addr) (H H' : Hp) : Prop := ∀ b o, H b = some o → b ≠ d → H' b = some o
theorem Keep.refl (d : Addr) (H : Hp) : Keep d H H := fun _ _ h _ => h
theorem Keep.trans {d : Addr} {H H1 H2 : Hp} (a : Keep d H H1) (b : Keep d H1 H2) : Keep d H H2 := fun c o h n => b c o (a c o h n) n
theorem keep_same {d : Addr} {H H' : Hp} (e : Same H H') : Keep d H H' := fun b o h _ => e b o h
theorem same_new {H : Hp} {p : Addr} {o : HO} (h : H p = none) : Same H (upd H p o) := fun b x e => by
  rw [upd_ne (ne_of_none e h)]
  exact e
theorem keep_upd {d : Addr} {H : Hp} {o : HO} : Keep d H (upd H d o) := fun b x e n => by
  rw [upd_ne n]
  exact e
theorem upd_self {H : Hp} {d : Addr} {o : HO} (h : H d = some o) : upd H d o = H := by
  funext b
  unfold upd
  split
  · rename_i e
    rw [e, h]
  · rfl
/-- what is not there before the change was not there -/
theorem keep_free {d : Addr} {H H' : Hp} (k : Keep d H H') (hd : ∃ o, H' d = some o) {l : Addr} (h : H' l = none) : H l = none := by
  cases q : H l with
  | none => rfl
  | some o =>
    by_cases e : l = d
    · subst e
      obtain ⟨o', ho⟩ := hd
      rw [ho] at h
      cases h
    · rw [k l o q e] at h
      cases h

/-! ### dicts -/
theorem dget_of {H : Hp} {a : Addr} {kvs : List (Key × V)} {k : Key} {v : V} (e : H a = some (.dK kvs)) (h : valV kvs k = some v) : DGet H a (kV k) (some v) := by
  have q := DGet.k (k := k) e
  rw [h] at q
  exact q
theorem dput_of {H : Hp} {a : Addr} {kvs kvs' : List (Key × V)} {k : Key} {v : V} (e : H a = some (.dK kvs)) (hl : kvs.length < sizeLine) (h : putK kvs k v = kvs') : DPut H a (kV k) v (upd H a (.dK kvs')) := by
  have q := DPut.k (k := k) (v := v) e hl
  rw [h] at q
  exact q

/-! ### the draws -/
abbrev tk (x : Str) : Key := Sum.inr x
def drawKvs (c : Addr) (a l n : Int) (g : Bool) : List (Key × V) :=
  [(tk "cells", .ref c), (tk "at", .int a), (tk "left", .int l), (tk "number", .int n), (tk "digits", .bl g)]
theorem s_ca : ¬ ("cells" : Str) = "at" := by decide +kernel
theorem k_ca : ¬ tk "cells" = tk "at" := fun z => s_ca (Sum.inr.inj z)
theorem s_cl : ¬ ("cells" : Str) = "left" := by decide +kernel
theorem k_cl : ¬ tk "cells" = tk "left" := fun z => s_cl (Sum.inr.inj z)
theorem s_cn : ¬ ("cells" : Str) = "number" := by decide +kernel
theorem k_cn : ¬ tk "cells" = tk "number" := fun z => s_cn (Sum.inr.inj z)
theorem s_cd : ¬ ("cells" : Str) = "digits" := by decide +kernel
theorem k_cd : ¬ tk "cells" = tk "digits" := fun z => s_cd (Sum.inr.inj z)
theorem s_ac : ¬ ("at" : Str) = "cells" := by decide +kernel
theorem k_ac : ¬ tk "at" = tk "cells" := fun z => s_ac (Sum.inr.inj z)
theorem s_al : ¬ ("at" : Str) = "left" := by decide +kernel
theorem k_al : ¬ tk "at" = tk "left" := fun z => s_al (Sum.inr.inj z)
theorem s_an : ¬ ("at" : Str) = "number" := by decide +kernel
theorem k_an : ¬ tk "at" = tk "number" := fun z => s_an (Sum.inr.inj z)
theorem s_ad : ¬ ("at" : Str) = "digits" := by decide +kernel
theorem k_ad : ¬ tk "at" = tk "digits" := fun z => s_ad (Sum.inr.inj z)
theorem s_lc : ¬ ("left" : Str) = "cells" := by decide +kernel
theorem k_lc : ¬ tk "left" = tk "cells" := fun z => s_lc (Sum.inr.inj z)
theorem s_la : ¬ ("left" : Str) = "at" := by decide +kernel
theorem k_la : ¬ tk "left" = tk "at" := fun z => s_la (Sum.inr.inj z)
theorem s_ln : ¬ ("left" : Str) = "number" := by decide +kernel
theorem k_ln : ¬ tk "left" = tk "number" := fun z => s_ln (Sum.inr.inj z)
theorem s_ld : ¬ ("left" : Str) = "digits" := by decide +kernel
theorem k_ld : ¬ tk "left" = tk "digits" := fun z => s_ld (Sum.inr.inj z)
theorem s_nc : ¬ ("number" : Str) = "cells" := by decide +kernel
theorem k_nc : ¬ tk "number" = tk "cells" := fun z => s_nc (Sum.inr.inj z)
theorem s_na : ¬ ("number" : Str) = "at" := by decide +kernel
theorem k_na : ¬ tk "number" = tk "at" := fun z => s_na (Sum.inr.inj z)
theorem s_nl : ¬ ("number" : Str) = "left" := by decide +kernel
theorem k_nl : ¬ tk "number" = tk "left" := fun z => s_nl (Sum.inr.inj z)
theorem s_nd : ¬ ("number" : Str) = "digits" := by decide +kernel
theorem k_nd : ¬ tk "number" = tk "digits" := fun z => s_nd (Sum.inr.inj z)
theorem s_dc : ¬ ("digits" : Str) = "cells" := by decide +kernel
theorem k_dc : ¬ tk "digits" = tk "cells" := fun z => s_dc (Sum.inr.inj z)
theorem s_da : ¬ ("digits" : Str) = "at" := by decide +kernel
theorem k_da : ¬ tk "digits" = tk "at" := fun z => s_da (Sum.inr.inj z)
theorem s_dl : ¬ ("digits" : Str) = "left" := by decide +kernel
theorem k_dl : ¬ tk "digits" = tk "left" := fun z => s_dl (Sum.inr.inj z)
theorem s_dn : ¬ ("digits" : Str) = "number" := by decide +kernel
theorem k_dn : ¬ tk "digits" = tk "number" := fun z => s_dn (Sum.inr.inj z)
section
variable {H : Hp} {d c : Addr} {a l n v : Int} {g : Bool}
theorem dg_cells : DGet (upd H d (.dK (drawKvs c a l n g))) d (.str "cells") (some (.ref c)) := dget_of (k := tk "cells") upd_same (valV_pos rfl)
theorem dg_at : DGet (upd H d (.dK (drawKvs c a l n g))) d (.str "at") (some (.int a)) := dget_of (k := tk "at") upd_same ((valV_neg k_ca).trans (valV_pos rfl))
theorem dg_left : DGet (upd H d (.dK (drawKvs c a l n g))) d (.str "left") (some (.int l)) := dget_of (k := tk "left") upd_same ((valV_neg k_cl).trans ((valV_neg k_al).trans (valV_pos rfl)))
theorem dg_number : DGet (upd H d (.dK (drawKvs c a l n g))) d (.str "number") (some (.int n)) := dget_of (k := tk "number") upd_same ((valV_neg k_cn).trans ((valV_neg k_an).trans ((valV_neg k_ln).trans (valV_pos rfl))))
theorem dg_digits : DGet (upd H d (.dK (drawKvs c a l n g))) d (.str "digits") (some (.bl g)) := dget_of (k := tk "digits") upd_same ((valV_neg k_cd).trans ((valV_neg k_ad).trans ((valV_neg k_ld).trans ((valV_neg k_nd).trans (valV_pos rfl)))))
theorem put_at : putK (drawKvs c a l n g) (tk "at") (.int v) = drawKvs c v l n g := by
  unfold putK drawKvs
  rw [if_pos (by simp)]
  simp only [List.map_cons, List.map_nil, k_ca, k_la, k_na, k_da, if_false, if_true]
theorem put_left : putK (drawKvs c a l n g) (tk "left") (.int v) = drawKvs c a v n g := by
  unfold putK drawKvs
  rw [if_pos (by simp)]
  simp only [List.map_cons, List.map_nil, k_cl, k_al, k_nl, k_dl, if_false, if_true]
theorem put_number : putK (drawKvs c a l n g) (tk "number") (.int v) = drawKvs c a l v g := by
  unfold putK drawKvs
  rw [if_pos (by simp)]
  simp only [List.map_cons, List.map_nil, k_cn, k_an, k_ln, k_dn, if_false, if_true]
theorem five : (drawKvs c a l n g).length < sizeLine := by
  show 5 < sizeLine
  decide
theorem dp_at : DPut (upd H d (.dK (drawKvs c a l n g))) d (.str "at") (.int v) (upd H d (.dK (drawKvs c v l n g))) := by
  have q := dput_of (k := tk "at") (v := .int v) (upd_same (H := H) (a := d) (o := .dK (drawKvs c a l n g))) five put_at
  rw [upd_upd] at q
  exact q
theorem dp_left : DPut (upd H d (.dK (drawKvs c a l n g))) d (.str "left") (.int v) (upd H d (.dK (drawKvs c a v n g))) := by
  have q := dput_of (k := tk "left") (v := .int v) (upd_same (H := H) (a := d) (o := .dK (drawKvs c a l n g))) five put_left
  rw [upd_upd] at q
  exact q
theorem dp_number : DPut (upd H d (.dK (drawKvs c a l n g))) d (.str "number") (.int v) (upd H d (.dK (drawKvs c a l v g))) := by
  have q := dput_of (k := tk "number") (v := .int v) (upd_same (H := H) (a := d) (o := .dK (drawKvs c a l n g))) five put_number
  rw [upd_upd] at q
  exact q
end
/-- a draw's dict stands at d, its cells at c, at most n draws were mixed -/
def DrawAt (H : Hp) (d c : Addr) (cs : List Int) (n : Nat) : Prop := ∃ (a l m : Int) (g : Bool), H d = some (.dK (drawKvs c a l m g)) ∧ H c = some (.lst (cs.map V.int)) ∧ 0 < cs.length ∧ cs.length ≤ 64 ∧ 0 ≤ a ∧ a ≤ n
section
variable {H H' : Hp} {d c p : Addr} {cs : List Int} {n m : Nat} {o : HO}
theorem DrawAt.mono (h : DrawAt H d c cs n) (e : n ≤ m) : DrawAt H d c cs m := by
  obtain ⟨a, l, k, g, h1, h2, h3, h4, h5, h6⟩ := h
  exact ⟨a, l, k, g, h1, h2, h3, h4, h5, by omega⟩
theorem DrawAt.same (h : DrawAt H d c cs n) (e : Same H H') : DrawAt H' d c cs n := by
  obtain ⟨a, l, k, g, h1, h2, h3⟩ := h
  exact ⟨a, l, k, g, e _ _ h1, e _ _ h2, h3⟩
theorem DrawAt.is (h : DrawAt H d c cs n) : ∃ kvs, H d = some (.dK kvs) := by
  obtain ⟨a, l, k, g, h1, _⟩ := h
  exact ⟨_, h1⟩
theorem DrawAt.cells (h : DrawAt H d c cs n) : H c = some (.lst (cs.map V.int)) := by
  obtain ⟨a, l, k, g, h1, h2, _⟩ := h
  exact h2
theorem DrawAt.ne (h : DrawAt H d c cs n) (hp : H p = none) : p ≠ d := by
  obtain ⟨kvs, e⟩ := h.is
  exact (ne_of_none e hp).symm
theorem DrawAt.neC (h : DrawAt H d c cs n) (hp : H p = none) : p ≠ c := (ne_of_none h.cells hp).symm
/-- another object is written -/
theorem DrawAt.upd (h : DrawAt H d c cs n) (h1 : p ≠ d) (h2 : p ≠ c) : DrawAt (L2.upd H p o) d c cs n := by
  obtain ⟨a, l, k, g, e1, e2, h3⟩ := h
  exact ⟨a, l, k, g, by rw [upd_ne h1.symm]; exact e1, by rw [upd_ne h2.symm]; exact e2, h3⟩
theorem keep_mut (k : Keep d H H') (h : H p = none) : Keep d H (L2.upd H' p o) := fun b x e nb => by
  rw [upd_ne (ne_of_none e h)]
  exact k b x e nb
end
theorem at_mod {cs : List Int} (h : 0 < cs.length) (k : Int) : ∃ z, atI (cs.map V.int) (k % ((cs.map V.int).length : Int)) = some (.int z) := by
  have h0 : (0 : Int) < ((cs.map V.int).length : Int) := by
    rw [List.length_map]
    omega
  have h1 := Int.emod_nonneg k (by omega : ((cs.map V.int).length : Int) ≠ 0)
  have h2 := Int.emod_lt_of_pos k h0
  obtain ⟨j, hj⟩ : ∃ j : Nat, k % ((cs.map V.int).length : Int) = (j : Int) := ⟨_, (Int.toNat_of_nonneg h1).symm⟩
  rw [hj] at h2 ⊢
  have hl : j < (cs.map V.int).length := by omega
  have hl2 : j < cs.length := by
    rw [List.length_map] at hl
    exact hl
  exact ⟨cs[j], atI_nat (by rw [List.getElem?_map, List.getElem?_eq_getElem hl2]; rfl)⟩
/-- a draw: a number below m comes, the draw's dict has changed, nothing else -/
def spPick : Sp := fun vs H Q _ => ∃ (d c : Addr) (cs : List Int) (n : Nat) (m : Int), vs = [.ref d, .int m] ∧ DrawAt H d c cs n ∧ 0 < m ∧ m < 1073741824 ∧ n < 1000000000 ∧
  ∀ (v : Int) (H' : Hp), 0 ≤ v → v < m → DrawAt H' d c cs (n + 1) → Keep d H H' → Q (.int v) H'
end FB

namespace FB
open PySem PySem.Spec PyProof.Rows L2
/-! ### data -/
theorem dpall_int {K : PySem.W.Frag} {H : Hp} : ∀ ns : List Int, DpAll K H (ns.map V.int) (ns.map PyData.int)
  | [] => .nil
  | n :: ns => .cons (.int n) (dpall_int ns)
theorem canlay_int : ∀ ns : List Int, PyData.canLayAll0 (ns.map PyData.int) = true
  | [] => rfl
  | n :: ns => by
    show (PyData.canLay0 (.int n) && PyData.canLayAll0 (ns.map PyData.int)) = true
    rw [canlay_int ns]
    rfl
theorem depth_int : ∀ ns : List Int, PyData.depthAll (ns.map PyData.int) ≤ 1
  | [] => by decide
  | n :: ns => by
    have h := depth_int ns
    simp only [List.map_cons, PyData.depthAll, PyData.depth]
    omega
theorem shaped_ints (ns : List Int) : SeqAt.shaped (.list (ns.map PyData.int)) = true := by
  unfold SeqAt.shaped
  have h1 : PyData.canLay0 (.list (ns.map PyData.int)) = true := canlay_int ns
  have h2 := depth_int ns
  rw [h1, decide_eq_true (show (PyData.list (ns.map PyData.int)).depth ≤ 64 by simp only [PyData.depth]; omega)]
  rfl
theorem merge_draw (c : Addr) (a l n : Int) (g : Bool) : mergeK [] (drawKvs c a l n g) = drawKvs c a l n g := by
  unfold mergeK drawKvs
  simp only [List.foldl_cons, List.foldl_nil]
  rw [putK_new (kvs := []) _ rfl]
  rw [putK_new (k := tk "at") _ (by simp only [List.nil_append]; exact (valV_neg k_ca).trans rfl)]
  rw [putK_new (k := tk "left") _ (by simp only [List.nil_append, List.cons_append]; exact (valV_neg k_cl).trans ((valV_neg k_al).trans rfl))]
  rw [putK_new (k := tk "number") _ (by simp only [List.nil_append, List.cons_append]; exact (valV_neg k_cn).trans ((valV_neg k_an).trans ((valV_neg k_ln).trans rfl)))]
  rw [putK_new (k := tk "digits") _ (by simp only [List.nil_append, List.cons_append]; exact (valV_neg k_cd).trans ((valV_neg k_ad).trans ((valV_neg k_ld).trans ((valV_neg k_nd).trans rfl))))]
  rfl
def spDrawn (K : PySem.W.Frag) : Sp := fun vs H Q _ => ∃ (a : Addr) (ns : List Int), vs = [.ref a] ∧ SqL K H a (ns.map V.int) ∧ ns.length ≤ 63 ∧
  ∀ (d c : Addr) (cs : List Int) (H' : Hp), Same H H' → H d = none → DrawAt H' d c cs 0 → Q (.ref d) H'

/-! ### texts -/
def ltS (a b : Str) : Bool := decide (a.cps.toList < b.cps.toList)
/-- whether the span (l, h) has the key k -/
def hasB (l h k : Str) : Bool := !ltS k l && (decide (V.str h = V.str "") || ltS k h)
def IsKey (z : Str) : Prop := 0 < z.length ∧ z.length ≤ 8 ∧ ∀ c ∈ z.cps.toList, 97 ≤ c ∧ c ≤ 122
def spKey : Sp := fun vs H Q _ => ∃ (d c : Addr) (cs : List Int) (n : Nat), vs = [.ref d] ∧ DrawAt H d c cs n ∧ n < 900000000 ∧ ∀ (z : Str) (H' : Hp), IsKey z → DrawAt H' d c cs (n + 11) → Keep d H H' → Q (.str z) H'
def spHas (K : PySem.W.Frag) : Sp := fun vs H Q _ => ∃ (p : Addr) (l h k : Str), vs = [.ref p, .str k] ∧ SqT K H p [.str l, .str h] ∧ Q (.bl (hasB l h k)) H
/-! ### spans -/
abbrev Sp3 := Addr × Str × Str
structure SpansAt (H : Hp) (a : Addr) (zs : List Sp3) : Prop where
  ls : H a = some (.lst (zs.map fun z => V.ref z.1))
  tp : ∀ z ∈ zs, H z.1 = some (.tup [.str z.2.1, .str z.2.2])
theorem SpansAt.keep {H H' : Hp} {a d : Addr} {zs : List Sp3} (h : SpansAt H a zs) (k : Keep d H H') (hd : ∃ kvs, H d = some (.dK kvs)) : SpansAt H' a zs := by
  obtain ⟨kvs, hd⟩ := hd
  exact ⟨k _ _ h.ls (ne_of h.ls hd (by intro z; cases z)), fun z hz => k _ _ (h.tp z hz) (ne_of (h.tp z hz) hd (by intro z; cases z))⟩
theorem SpansAt.same {H H' : Hp} {a : Addr} {zs : List Sp3} (h : SpansAt H a zs) (k : Same H H') : SpansAt H' a zs :=
  ⟨k _ _ h.ls, fun z hz => k _ _ (h.tp z hz)⟩
/-- the pairs of neighbours -/
def nexts : List Str → List (Str × Str)
  | x :: y :: r => (x, y) :: nexts (y :: r)
  | _ => []
def SpanList (zs : List Sp3) : Prop := ∃ ks : List Str, (∀ k ∈ ks, IsKey k) ∧ ks.Pairwise (fun a b => ltS a b = true) ∧ (zs.map (·.2)).Sublist (nexts (("" : Str) :: (ks ++ [("" : Str)]))) ∧ (∀ z ∈ zs, z.2 ≠ (("" : Str), ("a" : Str))) ∧ zs.length ≤ 30
def spSpans : Sp := fun vs H Q _ => ∃ (d c : Addr) (cs : List Int) (n : Nat) (m : Int), vs = [.ref d, .int m] ∧ DrawAt H d c cs n ∧ n < 900000000 - 1000 ∧ 0 < m ∧ m ≤ 20 ∧
  ∀ (l : Addr) (zs : List Sp3) (H' : Hp), SpanList zs → SpansAt H' l zs → DrawAt H' d c cs (n + 500) → Keep d H H' → H l = none → Q (.ref l) H'
def spSpanWith : Sp := fun vs H Q _ => ∃ (a : Addr) (zs : List Sp3) (k : Str), vs = [.ref a, .str k] ∧ SpansAt H a zs ∧
  Q (match zs.find? (fun z => hasB z.2.1 z.2.2 k) with | some z => .ref z.1 | none => .non) H
def spAsked : Sp := fun vs H Q _ => ∃ (d c : Addr) (cs : List Int) (n : Nat) (a : Addr) (zs : List Sp3), vs = [.ref d, .ref a] ∧ DrawAt H d c cs n ∧ n < 900000000 - 1000 ∧ SpansAt H a zs ∧ zs.length ≤ 30 ∧
  ∀ (l : Addr) (ks : List Str) (H' : Hp), (∃ ds : List Str, (∀ k ∈ ds, IsKey k) ∧ ks = ds ++ (zs.map fun z => [z.2.1, z.2.2].filter fun x => !decide (V.str x = V.str "")).flatten) → ks.length ≤ 100 → H' l = some (.lst (ks.map V.str)) → DrawAt H' d c cs (n + 200) → Keep d H H' → H l = none → Q (.ref l) H'
end FB

namespace FB
open PySem PySem.Spec PyProof.Rows L2
/-! ### the order of texts -/
theorem ltS_irrefl (a : Str) : ltS a a = false := decide_eq_false (List.lt_irrefl _)
theorem ltS_trans {a b c : Str} (h : ltS a b = true) (h' : ltS b c = true) : ltS a c = true := decide_eq_true (List.lt_trans (of_decide_eq_true h) (of_decide_eq_true h'))
theorem ltS_asymm {a b : Str} (h : ltS a b = true) : ltS b a = false := by
  cases e : ltS b a with
  | false => rfl
  | true => exact absurd (ltS_trans h e) (by rw [ltS_irrefl]; decide)
theorem ltS_tri {a b : Str} (h : ltS b a = false) (h' : a ≠ b) : ltS a b = true := by
  have h1 : ¬ b.cps.toList < a.cps.toList := of_decide_eq_false h
  apply decide_eq_true
  apply Decidable.byContradiction
  intro h2
  apply h'
  have e : a.cps.toList = b.cps.toList := List.le_antisymm (List.not_lt.mp h1) (List.not_lt.mp h2)
  cases a; cases b
  simp only [Str.mk.injEq]
  exact Array.toList_inj.mp e
theorem strict_of_rising : ∀ (p : Str) (l : List Str), risingS p l = true → (p :: l).Nodup → (p :: l).Pairwise (fun a b => ltS a b = true)
  | p, [], _, _ => by simp
  | p, x :: r, h, nd => by
    have h' : (!ltCps x.cps.toList p.cps.toList && risingS x r) = true := h
    rw [Bool.and_eq_true] at h'
    obtain ⟨h1, h2⟩ := h'
    have nd' := List.nodup_cons.mp nd
    have ih := strict_of_rising x r h2 nd'.2
    have hne : p ≠ x := fun e => nd'.1 (by rw [e]; simp)
    have hlt : ltS p x = true := by
      apply ltS_tri _ hne
      rw [ltCps_eq] at h1
      unfold ltS
      cases e : decide (x.cps.toList < p.cps.toList) with
      | false => rfl
      | true => rw [e] at h1; cases h1
    refine List.pairwise_cons.mpr ⟨fun y hy => ?_, ih⟩
    rcases List.mem_cons.mp hy with rfl | hy
    · exact hlt
    · exact ltS_trans hlt ((List.pairwise_cons.mp ih).1 y hy)
theorem strict_of_sorted (l : List Str) (h : sortedS l = true) (nd : l.Nodup) : l.Pairwise (fun a b => ltS a b = true) := by
  cases l with
  | nil => simp
  | cons p r => exact strict_of_rising p r h nd
theorem inV_str (z : Str) : ∀ ks : List Str, inV (.str z) (ks.map V.str) = decide (z ∈ ks)
  | [] => by simp [inV]
  | k :: r => by
    have ih := inV_str z r
    unfold inV at ih ⊢
    rw [List.map_cons, List.any_cons, ih]
    show ((k == z) || decide (z ∈ r)) = decide (z ∈ k :: r)
    by_cases e : k = z
    · subst e
      simp
    · have e2 : ¬ z = k := fun h => e h.symm
      simp [e, e2]
theorem flat_strs : ∀ ks : List Str, (ks.map V.str).all flatV = true
  | [] => rfl
  | k :: r => by
    rw [List.map_cons, List.all_cons, flat_strs r]
    rfl
theorem nexts_len : ∀ xs : List Str, (nexts xs).length = xs.length - 1
  | [] => rfl
  | [_] => rfl
  | x :: y :: r => by
    show (nexts (y :: r)).length + 1 = (y :: r).length + 1 - 1
    rw [nexts_len (y :: r)]
    simp
theorem nexts_get : ∀ (xs : List Str) (i : Nat) (x y : Str), xs[i]? = some x → xs[i + 1]? = some y → (nexts xs)[i]? = some (x, y)
  | [], _, _, _, h, _ => by simp at h
  | [_], 0, _, _, _, h => by simp at h
  | [_], i + 1, _, _, h, _ => by simp at h
  | a :: b :: r, 0, x, y, h, h2 => by
    have e1 : a = x := Option.some.inj h
    have e2 : b = y := Option.some.inj h2
    rw [← e1, ← e2]
    rfl
  | a :: b :: r, i + 1, x, y, h, h2 => nexts_get (b :: r) i x y h h2
theorem cut1 (xs : List V) : cutV xs (some 1) none = xs.drop 1 := by
  unfold cutV
  rw [show HT.sIx xs.length 0 (some 1) = min 1 xs.length from HT.sIx_nat xs.length 0 1, HT.sIx_none]
  cases xs with
  | nil => rfl
  | cons x r =>
    rw [show min 1 (x :: r).length = 1 by
      rw [List.length_cons]
      omega]
    show (List.take ((x :: r).length - 1) r) = r
    rw [List.length_cons, Nat.add_sub_cancel]
    exact List.take_length
/-- zip of two lists of any lengths: n turns -/
theorem for_zipG {K : PySem.W.Frag} {a b : Addr} {xs ys : List V} {g : TG} {tb : TS} {D : Ends} {σ : L2.St} {H : Hp} (n : Nat) (hx : n ≤ xs.length) (hy : n ≤ ys.length) (he : xs.length ≤ n ∨ ys.length ≤ n) (Pv : Nat → L2.St → Hp → Prop) (h0 : Pv 0 σ H) (hq : ∀ i σ H, Pv i σ H → SqL K H a xs ∧ SqL K H b ys)
    (hs : ∀ (i : Nat) (x y : V) (T : Addr) (σ : L2.St) (H : Hp), xs[i]? = some x → ys[i]? = some y → Pv i σ H → H T = none → g (.ref T) σ (upd H T (.tup [x, y])) fun σ2 H2 => tb { D with nx := Pv (i + 1), ct := Pv (i + 1), bk := D.nx } σ2 H2) (hd : ∀ σ H, Pv n σ H → D.nx σ H) :
    ∃ W : Nat → Nat → L2.St → Hp → Prop, (∃ m, W 0 m σ H) ∧ ∀ i m σ H, W i m σ H →
      ((Itz K a b).stop i H ∧ D.nx σ H) ∨ ((Itz K a b).go i H ∧ ∃ N : L2.St → Hp → Prop, (∀ σ' H', N σ' H' → ∃ m', m' < m ∧ W (i + 1) m' σ' H') ∧ ∀ v H', (Itz K a b).yld i H v H' → g v σ H' fun σ2 H2 => tb { D with nx := N, ct := N, bk := D.nx } σ2 H2) := by
  refine ⟨fun i m σ H => m = n - i ∧ i ≤ n ∧ Pv i σ H, ⟨n, rfl, Nat.zero_le _, h0⟩, ?_⟩
  rintro i m σ H ⟨rfl, hi, p⟩
  obtain ⟨qx, qy⟩ := hq i σ H p
  by_cases hlt : i < n
  · have h1 : xs[i]? = some (xs[i]'(by omega)) := List.getElem?_eq_getElem _
    have h2 : ys[i]? = some (ys[i]'(by omega)) := List.getElem?_eq_getElem _
    refine .inr ⟨⟨xs, ys, _, _, qx, qy, h1, h2⟩, Pv (i + 1), fun σ' H' p' => ⟨n - (i + 1), by omega, rfl, hlt, p'⟩, fun v H' y => ?_⟩
    obtain ⟨T, x', y', rfl, hT, rfl, f1, f2⟩ := y
    exact hs i x' y' T σ H (f1 xs qx) (f2 ys qy) p hT
  · have e : i = n := by omega
    subst e
    exact .inl ⟨⟨xs, ys, qx, qy, he⟩, hd σ H p⟩
/-! ### texts that are keys or empty -/
def KeyOr (z : Str) : Prop := z = "" ∨ IsKey z
theorem KeyOr.ok {z : Str} (h : KeyOr z) : PyData.strOk z = true := by
  rcases h with rfl | ⟨_, _, h⟩
  · decide +kernel
  · unfold PyData.strOk
    rw [Array.all_eq_true']
    intro c hc
    have := h c (Array.mem_toList_iff.mpr hc)
    exact decide_eq_true (by omega)
theorem shaped2 {x y : Str} (hx : KeyOr x) (hy : KeyOr y) : SeqAt.shaped (.tuple [.str x, .str y]) = true := by
  simp [SeqAt.shaped, PyData.canLay0, PyData.canLayAll0, PyData.depth, PyData.depthAll, hx.ok, hy.ok]
theorem key_a : KeyOr "a" := .inr (by unfold IsKey; decide +kernel)
theorem nexts_mem : ∀ (xs : List Str) (p : Str × Str), p ∈ nexts xs → p.1 ∈ xs ∧ p.2 ∈ xs
  | [], _, h => by simp [nexts] at h
  | [_], _, h => by simp [nexts] at h
  | a :: b :: r, p, h => by
    rcases List.mem_cons.mp h with rfl | h
    · simp
    · obtain ⟨h1, h2⟩ := nexts_mem (b :: r) p h
      exact ⟨List.mem_cons_of_mem _ h1, List.mem_cons_of_mem _ h2⟩
theorem full_keys {ys : List Str} (h : ∀ k ∈ ys, IsKey k) : ∀ z ∈ (("" : Str) :: (ys ++ [("" : Str)])), KeyOr z := fun z hz => by
  have : z = "" ∨ z ∈ ys ∨ z = "" := by simpa using hz
  rcases this with q | q | q
  · exact .inl q
  · exact .inr (h z q)
  · exact .inl q
theorem SpanList.keys {zs : List Sp3} (h : SpanList zs) : ∀ z ∈ zs, KeyOr z.2.1 ∧ KeyOr z.2.2 := fun z hz => by
  obtain ⟨ks, h1, _, h3, _⟩ := h
  have hm : z.2 ∈ nexts (("" : Str) :: (ks ++ [("" : Str)])) := h3.subset (List.mem_map.mpr ⟨z, hz, rfl⟩)
  obtain ⟨a, b⟩ := nexts_mem _ _ hm
  exact ⟨full_keys h1 _ a, full_keys h1 _ b⟩
end FB

namespace FB
open PySem PySem.Spec PyProof.Rows L2
/-! ### max of two and of three texts -/
section
variable {prog : Program} {w : World} {A : Around} {E : Value → Shared → Prop} {s : Shared}
theorem cmp_strs {P : Nat → Value → Prop} (val : Nat → Str) (hval : ∀ i v, P i v → ∃ t, v = .str (val i) t) : CmpOf prog w A .Gt P (fun i j => ltS (val j) (val i)) := fun i j vi vj s Q E hi hj h => by
  obtain ⟨t, rfl⟩ := hval i vi hi
  obtain ⟨u, rfl⟩ := hval j vj hj
  exact PySem.P.gt_str (t := t) (u := u) h
theorem max_two_strs {a b : Str} {t u : Tok} {Q : Value → Shared → Prop} (hh : A.handled = none)
    (h : ∀ h' tk, (∀ c o, s.heap.get? c = some o → h'.get? c = some o) → Q (if ltS a b = true then .str b u else .str a t) { s with heap := h', toks := tk }) :
    wpAny (model prog w) A (call (.builtin "max") [.str a t, .str b u]) Q E s := by
  have hT : (s.heap.push { cls := .type "tuple", data := .seq #[.str a t, .str b u] }).IsTuple s.heap.objs.size #[.str a t, .str b u] := ⟨_, Heap.get?_push_size _ rfl, rfl, 0, rfl⟩
  refine call_max_two (wpAny_pyIter_tuple hT ?_)
  have hsz : (s.heap.push { cls := .type "tuple", data := .seq #[.str a t, .str b u] }).objs.size = s.heap.objs.size + 1 := Heap.size_push ..
  refine ⟨_, [_, s.heap.objs.size], [_], _, _, _, _, rfl, Walks.tuple (A := A.in1) hh _ s.heap.objs.size (by rw [hsz]; exact Nat.ne_of_lt (Nat.lt_succ_self _)) #[.str a t, .str b u],
    ⟨⟨_, Heap.get?_push_size _ rfl, rfl, rfl⟩, hT.push _⟩, fun c hc => ?_, by simp, cmp_strs (fun i => if i = 0 then a else b) (fun i v hv => ?_), fun v h' tk hP hk => ?_⟩
  · show c < ((s.heap.push _).push _).objs.size
    rw [Heap.size_push, hsz]
    rcases List.mem_cons.mp hc with rfl | hc
    · rw [hsz]; exact Nat.lt_succ_self _
    · rcases List.mem_cons.mp hc with rfl | hc
      · exact Nat.lt_succ_of_lt (Nat.lt_succ_self _)
      · cases hc
  · match i, hv with
    | 0, hv => exact ⟨t, by simpa using hv.symm⟩
    | 1, hv => exact ⟨u, by simpa using hv.symm⟩
    | n + 2, hv => simp at hv
  · have hold : ∀ d o, s.heap.get? d = some o → h'.get? d = some o := fun d o e => by
      refine hk d o (fun hm => ?_) (Heap.get?_push_of_some _ (Heap.get?_push_of_some _ e))
      rcases List.mem_cons.mp hm with e1 | hm
      · have := Heap.lt_size e; rw [e1, hsz] at this; exact Nat.lt_irrefl _ (Nat.lt_of_succ_lt this)
      · cases hm
    have := h h' tk hold
    have hv : v = if ltS a b = true then Value.str b u else Value.str a t := by
      have hP' : (#[Value.str a t, .str b u])[argBest (fun i j => ltS (if j = 0 then a else b) (if i = 0 then a else b)) 1]? = some v := hP
      by_cases hba : ltS a b = true
      · have e : argBest (fun i j => ltS (if j = 0 then a else b) (if i = 0 then a else b)) 1 = 1 := by simp [argBest, hba]
        rw [e] at hP'
        simpa [hba] using hP'.symm
      · have e : argBest (fun i j => ltS (if j = 0 then a else b) (if i = 0 then a else b)) 1 = 0 := by simp [argBest, hba]
        rw [e] at hP'
        simpa [hba] using hP'.symm
    rw [hv]
    exact this
theorem max_three_strs {a b c : Str} {t u x : Tok} {Q : Value → Shared → Prop} (hh : A.handled = none)
    (h : ∀ h' tk, (∀ d o, s.heap.get? d = some o → h'.get? d = some o) → Q (if ltS a b = true then (if ltS b c = true then .str c x else .str b u) else (if ltS a c = true then .str c x else .str a t)) { s with heap := h', toks := tk }) :
    wpAny (model prog w) A (call (.builtin "max") [.str a t, .str b u, .str c x]) Q E s := by
  have hT : (s.heap.push { cls := .type "tuple", data := .seq #[.str a t, .str b u, .str c x] }).IsTuple s.heap.objs.size #[.str a t, .str b u, .str c x] := ⟨_, Heap.get?_push_size _ rfl, rfl, 0, rfl⟩
  refine call_max_three (wpAny_pyIter_tuple hT ?_)
  have hsz : (s.heap.push { cls := .type "tuple", data := .seq #[.str a t, .str b u, .str c x] }).objs.size = s.heap.objs.size + 1 := Heap.size_push ..
  refine ⟨_, [_, s.heap.objs.size], [_], _, _, _, _, rfl, Walks.tuple (A := A.in1) hh _ s.heap.objs.size (by rw [hsz]; exact Nat.ne_of_lt (Nat.lt_succ_self _)) #[.str a t, .str b u, .str c x],
    ⟨⟨_, Heap.get?_push_size _ rfl, rfl, rfl⟩, hT.push _⟩, fun d hd => ?_, by simp, cmp_strs (fun i => if i = 0 then a else if i = 1 then b else c) (fun i v hv => ?_), fun v h' tk hP hk => ?_⟩
  · show d < ((s.heap.push _).push _).objs.size
    rw [Heap.size_push, hsz]
    rcases List.mem_cons.mp hd with rfl | hd
    · rw [hsz]; exact Nat.lt_succ_self _
    · rcases List.mem_cons.mp hd with rfl | hd
      · exact Nat.lt_succ_of_lt (Nat.lt_succ_self _)
      · cases hd
  · match i, hv with
    | 0, hv => exact ⟨t, by simpa using hv.symm⟩
    | 1, hv => exact ⟨u, by simpa using hv.symm⟩
    | 2, hv => exact ⟨x, by simpa using hv.symm⟩
    | n + 3, hv => simp at hv
  · have hold : ∀ d o, s.heap.get? d = some o → h'.get? d = some o := fun d o e => by
      refine hk d o (fun hm => ?_) (Heap.get?_push_of_some _ (Heap.get?_push_of_some _ e))
      rcases List.mem_cons.mp hm with e1 | hm
      · have := Heap.lt_size e; rw [e1, hsz] at this; exact Nat.lt_irrefl _ (Nat.lt_of_succ_lt this)
      · cases hm
    have := h h' tk hold
    have hv : v = if ltS a b = true then (if ltS b c = true then Value.str c x else .str b u) else (if ltS a c = true then .str c x else .str a t) := by
      have hP' : (#[Value.str a t, .str b u, .str c x])[argBest (fun i j => ltS (if j = 0 then a else if j = 1 then b else c) (if i = 0 then a else if i = 1 then b else c)) 2]? = some v := hP
      by_cases hba : ltS a b = true
      · by_cases hc : ltS b c = true
        · have e : argBest (fun i j => ltS (if j = 0 then a else if j = 1 then b else c) (if i = 0 then a else if i = 1 then b else c)) 2 = 2 := by simp [argBest, hba, hc]
          rw [e] at hP'
          simpa [hba, hc] using hP'.symm
        · have e : argBest (fun i j => ltS (if j = 0 then a else if j = 1 then b else c) (if i = 0 then a else if i = 1 then b else c)) 2 = 1 := by simp [argBest, hba, hc]
          rw [e] at hP'
          simpa [hba, hc] using hP'.symm
      · by_cases hc : ltS a c = true
        · have e : argBest (fun i j => ltS (if j = 0 then a else if j = 1 then b else c) (if i = 0 then a else if i = 1 then b else c)) 2 = 2 := by simp [argBest, hba, hc]
          rw [e] at hP'
          simpa [hba, hc] using hP'.symm
        · have e : argBest (fun i j => ltS (if j = 0 then a else if j = 1 then b else c) (if i = 0 then a else if i = 1 then b else c)) 2 = 0 := by simp [argBest, hba, hc]
          rw [e] at hP'
          simpa [hba, hc] using hP'.symm
    rw [hv]
    exact this
end
def maxS (a b : Str) : Str := if ltS a b = true then b else a
section
variable {X : Cx}
theorem call_max2S (hc : X.calm = true) : CallR X (.builtin "max") (fun xs H Q => ∃ i j, xs = [.str i, .str j] ∧ Q (.str (maxS i j)) H) := by
  intro pins s σ H xs us Q I r h
  obtain ⟨i, j, rfl, q⟩ := h
  obtain ⟨u, w', rfl, ⟨t, rfl⟩, ⟨t', rfl⟩⟩ := vals2 r
  refine max_two_strs (I.ok.hd hc) fun h' tk k => ⟨_, H, I.kept k, ?_, q⟩
  unfold maxS
  by_cases hj : ltS i j = true
  · rw [if_pos hj, if_pos hj]; exact ⟨_, rfl⟩
  · rw [if_neg hj, if_neg hj]; exact ⟨_, rfl⟩
theorem call_max3S (hc : X.calm = true) : CallR X (.builtin "max") (fun xs H Q => ∃ i j k, xs = [.str i, .str j, .str k] ∧ Q (.str (maxS (maxS i j) k)) H) := by
  intro pins s σ H xs us Q I r h
  obtain ⟨i, j, k, rfl, q⟩ := h
  cases r with
  | cons r1 r2 =>
    obtain ⟨u, w', rfl, ⟨t', rfl⟩, ⟨t'', rfl⟩⟩ := vals2 r2
    obtain ⟨t, rfl⟩ := r1
    refine max_three_strs (I.ok.hd hc) fun h' tk k' => ⟨_, H, I.kept k', ?_, q⟩
    unfold maxS
    by_cases hj : ltS i j = true
    · rw [if_pos hj, if_pos hj]
      by_cases hk : ltS j k = true
      · rw [if_pos hk, if_pos hk]; exact ⟨_, rfl⟩
      · rw [if_neg hk, if_neg hk]; exact ⟨_, rfl⟩
    · rw [if_neg hj, if_neg hj]
      by_cases hk : ltS i k = true
      · rw [if_pos hk, if_pos hk]; exact ⟨_, rfl⟩
      · rw [if_neg hk, if_neg hk]; exact ⟨_, rfl⟩
/-! ### rules whose written part is named -/
variable {K : PySem.W.Frag}
theorem ix_listK (h : X.K = K) : IxR X (rIxL K) := h ▸ ix_list
theorem ix_tupK (h : X.K = K) : IxR X (rIxT K) := h ▸ ix_tup
theorem sl_listK (h : X.K = K) : SlR X (rSlL K) := h ▸ sl_list
theorem op_in_seqK (h : X.K = K) : OpR X (compareOp .In) (rIn K false) := h ▸ op_in_seq
theorem op_notIn_seqK (h : X.K = K) : OpR X (compareOp .NotIn) (rIn K true) := h ▸ op_notIn_seq
theorem op_eqDK (h : X.K = K) (hu : X.A.units + 64 < cLine) : OpR X (compareOp .Eq) (rEqD K) := h ▸ op_eqD hu
theorem op_neDK (h : X.K = K) (hu : X.A.units + 64 < cLine) : OpR X (compareOp .NotEq) (rNeD K) := h ▸ op_neD hu
theorem call_isiK' (h : X.K = K) : CallR X (.builtin "isinstance") (rIsi K) := h ▸ call_isi
theorem call_len_seqK (h : X.K = K) : CallR X (.builtin "len") (fun xs H Q => ∃ p ys, xs = [.ref p] ∧ (SqL K H p ys ∨ SqT K H p ys) ∧ Q (.int ys.length) H) := h ▸ call_len_seq
end
end FB

namespace FB
open PySem PySem.Spec PyProof.Rows L2
/-! ### an exception of an own class, held as a value -/
/-- what the written part says of such a class, its making by the def at fI -/
structure ExK (K : PySem.W.Frag) (C fI : Addr) : Prop where
  oex : OexC K C
  ini : PySem.W.findIn K (.ref C) "__init__" = some (some (.ref fI))
  fun_ : PySem.W.typeIn K (.ref fI) = some (.type "function")
  exc : ExcC K C
  cl : (PySem.W.clsIn K C).isSome = true
def tMkX (C : Addr) (sp : Sp) (ta : TA) : TE := fun σ H Q => ta σ H fun vs H1 => vs.length ≤ 1000 ∧ ∀ a, H1 a = none → sp (.ref a :: vs) (upd H1 a (exo a C none)) (fun v H2 => v = .non ∧ Q (.ref a) H2) (fun _ _ _ => False)
section
variable {X : Cx} {e : Expr} {es : List Expr} {ta : TA} {te : TE} {p pos : Pos}
theorem pe_mkx {x : Str} {C fI : Addr} {k : Nat} {fd : FuncData} {ps : List Str} {sp : Sp} (T : ExK X.K C fI) (F1 : FnOk X.prog X.w X.K X.mg X.base CX0 k fI fd ps sp) (hr : Room (k + 1) X.A) (hb : L2.Binds X.K fd ps []) (hg : Gl X x) (hm : X.mg x = some (.ref C)) (ha : PA X (e :: es) ta)
    (hdb : (x == ("__debug__" : Str)) = false := by decide) (he : starEach (e :: es) X.env = (false, eval e X.env) :: starEach es X.env := by rfl) (hpl : (backTo pos (starEach es X.env)).any (·.1) = false := by rfl) :
    PE X (.Call (.Name x p) (e :: es) [] pos) (tMkX C sp ta) := by
  refine ⟨fun pins s σ H Q I h => ?_⟩
  obtain ⟨nm, qn, N, bs, bm, sn, sub, ab, col, dd, k0, k1, k2, k3, k5, hC, hbm⟩ := T.oex.cls
  refine wpAny_Call_Name_kw (ld_glob I hg hm ?_ hdb)
  refine PySem.W.callWith_K (h₀ := X.base) I.ok.mod.kin T.oex.kC (thn (ha.run pos pins s σ H _ I h) fun us s1 q0 => ?_) he hpl
  obtain ⟨vs, H1, I1, r1, hz, q1⟩ := q0
  refine ⟨I1.kIn, ?_⟩
  obtain ⟨hp, g, dr, tk, os⟩ := s1
  have hup : hp.objs.size ≤ hp.objs.size + 1 := Nat.le_succ _
  have hq := q1 (hp.objs.size + 1) (I1.hok.fresh hup)
  have kk : ∀ b o, hp.get? b = some o → ((hp.push (PySem.W.kdv_tup us)).push (PySem.HandSPX.excO C hp.objs.size)).get? b = some o := fun b o z => Heap.get?_push_of_some _ (Heap.get?_push_of_some _ z)
  have new : ((hp.push (PySem.W.kdv_tup us)).push (PySem.HandSPX.excO C hp.objs.size)).get? (hp.objs.size + 1) = some (PySem.HandSPX.excO C hp.objs.size) := by heap_get
  have I2 : Inv X pins σ (upd H1 (hp.objs.size + 1) (exo (hp.objs.size + 1) C none)) ⟨(hp.push (PySem.W.kdv_tup us)).push (PySem.HandSPX.excO C hp.objs.size), g, dr, tk, os⟩ := I1.laid (t' := tk) kk hup (exo_ok new)
  have r2 : Vals (V.ref (hp.objs.size + 1) :: vs) (Value.ref (hp.objs.size + 1) :: us) := .cons rfl r1
  have hl : (Value.ref (hp.objs.size + 1) :: us ++ []).length = ps.length := by
    rw [List.append_nil, ← r2.length]
    exact F1.len _ _ _ _ hq
  have hus : us.length ≤ sizeLine := by
    rw [← r1.length]
    exact Nat.le_trans hz (by decide)
  have run := F1.run _ X.stack _ _ ⟨Value.ref (hp.objs.size + 1) :: us, []⟩ (Value.ref (hp.objs.size + 1) :: us ++ []) _ _ (fun _ _ _ => False) (hr.make C us []) (I2.env0.make C us []) (hb _ (Value.ref (hp.objs.size + 1) :: us) I2.kIn hl) (by rw [List.append_nil]; exact r2) hq
  refine wpAny_call (PySem.HandSPX.call_own F.excBase_ValueError (fun Y => PySem.HandSPX.refsVE_contains Y bm hbm) (I1.kIn _ _ hC) (PySem.W.looks_findIn I1.kIn T.ini) (fun self => PySem.W.bind_fn I1.kIn self T.fun_) hus (codeAny_mono run fun r s' hr' => ?_))
  cases r with
  | error er => exact absurd hr' (by intro z; exact z)
  | ok fl =>
    cases fl with
    | ret u =>
      obtain ⟨v, H2, os2, bare2, un2, hok2, rv, rfl, q2⟩ := hr'
      exact ⟨rv, .ref (hp.objs.size + 1), H2, I2.call' (ch := []) os2 un2 hok2 bare2 (fun b z => by simp at z), rfl, q2⟩
    | next => exact False.elim hr'
    | brk => exact False.elim hr'
    | cont => exact False.elim hr'
/-- isinstance(v, c), v such an exception -/
theorem call_isX : CallR X (.builtin "isinstance") (fun xs H Q => ∃ (a D fI : Addr) (d : Option Addr) (c : V) (cv : Value) (b : Bool), xs = [.ref a, c] ∧ H a = some (exo a D d) ∧ (d = none ∨ ∃ dd fs, d = some dd ∧ H dd = some (exd dd fs)) ∧ ExK X.K D fI ∧ (∀ u, RelV c u → u = cv) ∧ PySem.W.kitOne X.K (.ref D) cv = some b ∧ Q (.bl b) H) := by
  intro pins s σ H xs us Q I r h
  obtain ⟨a, D, fI, d, c, cv, b, rfl, hE, hD, T, hcv, ek, q⟩ := h
  cases r with
  | cons rx rr =>
    cases rr with
    | cons rt rr =>
      cases rr
      cases rx
      have ec := hcv _ rt
      subst ec
      obtain ⟨t1, hget⟩ := exo_at I.hok hE
      have J : ∃ (ox : Obj) (od : Option Obj), PySem.W.InstAt s.heap a ox D od := by
        rcases hD with rfl | ⟨dd, fs, rfl, hdd⟩
        · exact ⟨_, none, hget, rfl, rfl, trivial⟩
        · obtain ⟨mA, hns, _⟩ := exd_at I.hok hdd
          obtain ⟨od, ho, _⟩ := lookIn_ns hns
          exact ⟨_, some od, hget, rfl, rfl, ho⟩
      obtain ⟨ox, od, J⟩ := J
      exact PySem.W.kia_one (PySem.W.kitx_exc T.cl T.exc.hg T.exc.hk T.exc.hs T.exc.ha T.exc.hn T.exc.ht T.exc.hm) I.kIn J ek (fun z => nomatch z) fun tk => ⟨.bl b, H, I.kept (t' := tk) fun _ _ z => z, rfl, q⟩
/-- v.n, v such an exception -/
def tXv (K : PySem.W.Frag) (n : Str) (te : TE) : TE := fun σ H Q => te σ H fun x H1 => ∃ (a C fI dd : Addr) (fs : List (Str × V)) (v : V), x = .ref a ∧ H1 a = some (exo a C (some dd)) ∧ H1 dd = some (exd dd fs) ∧ ExK K C fI ∧ PySem.W.findIn K (.ref C) n = some none ∧ fs.lookup n = some v ∧ Q v H1
theorem pe_xv {n : Str} (he : PE X e te) (hb : attributeBase e n X.env (eval e X.env) = eval e X.env := by rfl) : PE X (.Attribute e n pos) (tXv X.K n te) := by
  refine ⟨fun pins s σ H Q I h => ?_⟩
  refine attr_of hb (thn (he.run pins s σ H _ I h) fun u s1 hh => ?_)
  obtain ⟨x, H1, I1, rx, a, C, fI, dd, fs, v, rfl, hE, hD, T, hno, l, q⟩ := hh
  obtain rfl : u = Value.ref a := rx
  obtain ⟨t1, hget⟩ := exo_at I1.hok hE
  obtain ⟨mA, hns, hr⟩ := exd_at I1.hok hD
  obtain ⟨od, ho, hl⟩ := lookIn_ns hns
  obtain ⟨u, hu, ru⟩ := RelO.some_of (v := v) (o := mA n) (by rw [← l]; exact hr n)
  have J : PySem.W.InstAt s1.heap a _ C (some od) := ⟨hget, rfl, rfl, ho⟩
  exact HandSPX.exc_get I1.kIn J T.exc.hg T.exc.hk T.exc.hs (PySem.W.findObj_own T.exc.hd hno rfl (by rw [hl, hu])) (handed_of ru) ⟨v, H1, I1.tok _, ru, q⟩
end
theorem cls_some {K : PySem.W.Frag} {C : Addr} (h : PySem.W.hasDictIn K C = true) : (PySem.W.clsIn K C).isSome = true := by
  obtain ⟨cd, hc, _⟩ := PySem.W.any_some h
  rw [hc]
  rfl
theorem kit_ref {K : PySem.W.Frag} {A B : Addr} {r : Bool} (h : PySem.W.subIn K (.ref A) (.ref B) = some r) (self : PySem.W.subIn K (.ref A) (.ref A) = some true) (cl : (PySem.W.clsIn K B).isSome = true) (ty : PySem.W.typeIn K (.ref B) = some (.type "type")) : PySem.W.kitOne K (.ref A) (.ref B) = some r := by
  unfold PySem.W.kitOne
  by_cases e : (Value.ref A == Value.ref B) = true
  · rw [if_pos e]
    have ab : A = B := Value.ref.inj (beq_iff_eq.mp e)
    rw [← ab, self] at h
    exact h
  · rw [if_neg e]
    show (if ((PySem.W.clsIn K B).isSome && PySem.W.typeIn K (.ref B) == some (.type "type")) = true then PySem.W.subIn K (.ref A) (.ref B) else none) = some r
    rw [if_pos (by rw [cl, ty]; rfl)]
    exact h
theorem kit_ve {K : PySem.W.Frag} {A : Addr} (h : PySem.W.subIn K (.ref A) (.type "ValueError") = some true) : PySem.W.kitOne K (.ref A) (.type "ValueError") = some true := by
  unfold PySem.W.kitOne
  rw [if_neg (by intro z; exact nomatch (beq_iff_eq.mp z))]
  show (if PySem.W.kitMeta "ValueError" = true then PySem.W.subIn K (.ref A) (.type "ValueError") else none) = some true
  rw [if_pos (by decide +kernel)]
  exact h
end FB

namespace FB
open PySem PySem.Spec PyProof.Rows L2
/-! ### data that are equal, sort by sort -/
def Pl : Nat → PyData → Prop
  | 0, d => d = .none ∨ (∃ i, d = .int i) ∨ ∃ x, d = .str x
  | n + 1, d => (d = .none ∨ (∃ i, d = .int i) ∨ ∃ x, d = .str x) ∨ ∃ ds, (d = .list ds ∨ d = .tuple ds) ∧ ∀ e ∈ ds, Pl n e
def spSame (K : PySem.W.Frag) (n : Nat) : Sp := fun vs H Q _ => ∃ (x y : V) (d : PyData), vs = [x, y] ∧ Dp K H x d ∧ Dp K H y d ∧ Pl n d ∧ ∀ H', Same H H' → Q (.bl true) H'
theorem ty_list {K : PySem.W.Frag} {H : Hp} {a : Addr} {xs : List V} (h : SqL K H a xs) : TyX K H (.ref a) (.type "list") := by
  rcases h with (h | ⟨o, h⟩) | ⟨o, its, n, hk, hc, _⟩
  · exact .base (.lst h)
  · exact .base (.frz h)
  · exact .kList hk hc
theorem ty_tup {K : PySem.W.Frag} {H : Hp} {a : Addr} {xs : List V} (h : SqT K H a xs) : TyX K H (.ref a) (.type "tuple") := by
  rcases h with (h | ⟨o, h⟩) | ⟨o, its, n, hk, hc, _⟩
  · exact .base (.tup h)
  · exact .fTuple h
  · exact .kTuple hk hc
theorem same_tup {K : PySem.W.Frag} {H H' : Hp} {a : Addr} {xs : List V} (e : Same H H') (h : SqT K H a xs) : SqT K H' a xs := by
  rcases h with (h | ⟨o, h⟩) | h
  · exact .inl (.inl (e _ _ h))
  · exact .inl (.inr ⟨o, e _ _ h⟩)
  · exact .inr h
mutual
theorem dp_same {K : PySem.W.Frag} {H H' : Hp} (e : Same H H') : ∀ (d : PyData) (v : V), Dp K H v d → Dp K H' v d
  | .none, _, h => by cases h; exact .non
  | .bool b, _, h => by cases h; exact .bl b
  | .int i, _, h => by cases h; exact .int i
  | .str x, _, h => by cases h; exact .str x
  | .list ds, _, h => by
    cases h with
    | lst hs ha => exact .lst (e.seq hs) (dpall_same e ds _ ha)
  | .tuple ds, _, h => by
    cases h with
    | tup hs ha => exact .tup (same_tup e hs) (dpall_same e ds _ ha)
  | .dict _, _, h => by cases h
theorem dpall_same {K : PySem.W.Frag} {H H' : Hp} (e : Same H H') : ∀ (ds : List PyData) (vs : List V), DpAll K H vs ds → DpAll K H' vs ds
  | [], _, h => by cases h; exact .nil
  | d :: ds, _, h => by
    cases h with
    | cons h1 h2 => exact .cons (dp_same e d _ h1) (dpall_same e ds _ h2)
end
theorem dpall_get {K : PySem.W.Frag} {H : Hp} : ∀ {vs : List V} {ds : List PyData} {i : Nat} {v : V}, DpAll K H vs ds → vs[i]? = some v → ∃ d, ds[i]? = some d ∧ Dp K H v d
  | _, _, _, _, .nil, h => by simp at h
  | x :: _, _, 0, v, .cons h1 h2, h => by
    have e : x = v := by simpa using h
    subst e
    exact ⟨_, rfl, h1⟩
  | _, _, i + 1, v, .cons h1 h2, h => by
    obtain ⟨d, e1, e2⟩ := dpall_get (i := i) (v := v) h2 (by simpa using h)
    exact ⟨d, by simpa using e1, e2⟩
theorem dpall_len {K : PySem.W.Frag} {H : Hp} : ∀ {vs : List V} {ds : List PyData}, DpAll K H vs ds → vs.length = ds.length
  | _, _, .nil => rfl
  | _, _, .cons _ h => by rw [List.length_cons, List.length_cons, dpall_len h]
section
variable {K : PySem.W.Frag}
theorem kt (a b : String) (r : Bool) (h : kitB a b = some r) : PySem.W.kitOne K (.type a) (.type b) = some r := kit_ty h
theorem ki_nl : PySem.W.kitOne K (.type "NoneType") (.type "list") = some false := kit_ty (by decide +kernel)
theorem ki_nt : PySem.W.kitOne K (.type "NoneType") (.type "tuple") = some false := kit_ty (by decide +kernel)
theorem ki_il : PySem.W.kitOne K (.type "int") (.type "list") = some false := kit_ty (by decide +kernel)
theorem ki_it : PySem.W.kitOne K (.type "int") (.type "tuple") = some false := kit_ty (by decide +kernel)
theorem ki_is : PySem.W.kitOne K (.type "int") (.type "str") = some false := kit_ty (by decide +kernel)
theorem ki_ii : PySem.W.kitOne K (.type "int") (.type "int") = some true := kit_ty (by decide +kernel)
theorem ki_ib : PySem.W.kitOne K (.type "int") (.type "bool") = some false := kit_ty (by decide +kernel)
theorem ki_sl : PySem.W.kitOne K (.type "str") (.type "list") = some false := kit_ty (by decide +kernel)
theorem ki_st : PySem.W.kitOne K (.type "str") (.type "tuple") = some false := kit_ty (by decide +kernel)
theorem ki_ss : PySem.W.kitOne K (.type "str") (.type "str") = some true := kit_ty (by decide +kernel)
theorem ki_ll : PySem.W.kitOne K (.type "list") (.type "list") = some true := kit_ty (by decide +kernel)
theorem ki_lt : PySem.W.kitOne K (.type "list") (.type "tuple") = some false := kit_ty (by decide +kernel)
theorem ki_tl : PySem.W.kitOne K (.type "tuple") (.type "list") = some false := kit_ty (by decide +kernel)
theorem ki_tt : PySem.W.kitOne K (.type "tuple") (.type "tuple") = some true := kit_ty (by decide +kernel)
theorem ki_bb : PySem.W.kitOne K (.type "bool") (.type "bool") = some true := kit_ty (by decide +kernel)
end
end FB

namespace FB
open PySem PySem.Spec PyProof.Rows L2
def top (i : Nat) : Stmt := PySem.Challenge.pw_farbooks_k06_refusals_apart.main.body.getD i (.Pass ⟨0, 0, 0, 0⟩)
abbrev s_drawn : Stmt := top 8
theorem sc_drawn : FnScope ["_law_script", "_law_cells"] ["_law_script"] (defScope s_drawn) := ⟨rfl, rfl, rfl, by decide +kernel, rfl, by decide +kernel, by decide +kernel⟩
abbrev s_pick : Stmt := top 9
theorem sc_pick : FnScope ["_law_draw", "_law_many", "_law_cells", "_law_value", "_law_k", "_law_m"] ["_law_draw", "_law_many"] (defScope s_pick) := ⟨rfl, rfl, rfl, by decide +kernel, rfl, by decide +kernel, by decide +kernel⟩
abbrev s_made : Stmt := top 10
theorem sc_made : FnScope ["_law_which", "_law_words", "_law_place"] ["_law_which", "_law_words", "_law_place"] (defScope s_made) := ⟨rfl, rfl, rfl, by decide +kernel, rfl, by decide +kernel, by decide +kernel⟩
abbrev s_law : Stmt := top 11
theorem sc_law : FnScope ["_law_script", "_law_draw", "_law_which", "_law_place", "_law_error", "_law_kinds", "_law_k"] ["_law_script"] (defScope s_law) := ⟨rfl, rfl, rfl, by decide +kernel, rfl, by decide +kernel, by decide +kernel⟩
abbrev s_StoryError___init__ : Stmt := inClass (top 1) 0
theorem sc_StoryError___init__ : FnScope ["self", "words", "place"] ["self", "words", "place"] (defScope s_StoryError___init__) := ⟨rfl, rfl, rfl, by decide +kernel, rfl, by decide +kernel, by decide +kernel⟩
structure Blt (mg : Str → Option Value) : Prop where
  ValueError : mg "ValueError" = none
  int : mg "int" = none
  isinstance : mg "isinstance" = none
  len : mg "len" = none
  list : mg "list" = none
  range : mg "range" = none
end FB

namespace FB
open PySem PySem.Spec PyProof.Rows L2
section
variable {P : Program} {w : World} {K : PySem.W.Frag} {mg : Str → Option Value} {base : Heap}
theorem ok_pick {f : Addr} {fd : FuncData} (F : Fun K "_law_pick" "_law_pick" s_pick f fd) (B : Blt mg) : FnOk P w K mg base CX0 1 f fd ["_law_draw", "_law_many"] spPick := by
  refine F.ok sc_pick (fun vs H Q E h => ?_) (fun cdv A outer s H vs Q E hr h => ?_)
  · obtain ⟨d, c, cs, n, m, rfl, _⟩ := h
    rfl
  · obtain ⟨d, c, cs, n, m, rfl, ⟨a, l, x, g, hd, hc, h0, h64, ha0, han⟩, hm, hm2, hn, q⟩ := h
    have hu := hu_of hr
    refine ⟨_, pss_cons (ps_set (i := 2) sc_pick.nd rfl (Or.inl rfl) (pe_dget hu (pv 0) pe_str (fun _ _ => rfl)))
    (pss_cons (ps_if (pt_val (pe_dget hu (pv 0) pe_str (fun _ _ => rfl)))
      (pss_cons (ps_set (i := 3) sc_pick.nd rfl (Or.inl rfl) (pe_op op_mod (pe_dget hu (pv 0) pe_str (fun _ _ => rfl)) (pv 1)))
      (pss_cons (ps_dput hu (pv 0) pe_str (pe_op op_fdiv (pe_dget hu (pv 0) pe_str (fun _ _ => rfl)) (pv 1)) rfl)
      (pss_cons (ps_dput hu (pv 0) pe_str (pe_op op_sub (pe_dget hu (pv 0) pe_str (fun _ _ => rfl)) pe_int) rfl)
      (pss_cons (ps_if (pt_cmpR op_eq (pe_dget hu (pv 0) pe_str (fun _ _ => rfl)) pe_int (nomark _))
        (pss_cons (ps_dput hu (pv 0) pe_str (pe_op op_add (pe_dget hu (pv 0) pe_str (fun _ _ => rfl)) pe_int) rfl)
        (pss_cons (ps_dput hu (pv 0) pe_str (pe_ix ix_list (pv 2) (pe_op op_mod (pe_dget hu (pv 0) pe_str (fun _ _ => rfl)) (pe_callB call_len_seq (by rfl) B.len (by decide +kernel) (pa_cons (pv 2) pa_nil))) (fun _ _ => rfl)) rfl)
        (pss_one (ps_dput hu (pv 0) pe_str pe_int rfl)))) pss_nil)
      (pss_one (ps_ret (pv 3))))))) pss_nil)
    (pss_cons (ps_dput hu (pv 0) pe_str (pe_op op_add (pe_dget hu (pv 0) pe_str (fun _ _ => rfl)) pe_int) rfl)
    (pss_cons (ps_set (i := 4) sc_pick.nd rfl (Or.inl rfl) (pe_dget hu (pv 0) pe_str (fun _ _ => rfl)))
    (pss_cons (ps_set (i := 5) sc_pick.nd rfl (Or.inl rfl) (pe_op op_mod (pe_op op_mul (pe_op op_add (pe_op op_add (pe_op op_mod (pe_ix ix_list (pv 2) (pe_op op_mod (pv 4) (pe_callB call_len_seq (by rfl) B.len (by decide +kernel) (pa_cons (pv 2) pa_nil))) (fun _ _ => rfl)) pe_int) (pe_op op_mul (pe_op op_mul (pv 4) (pv 4)) pe_int)) pe_int) pe_int) pe_int))
    (pss_cons (ps_set (i := 5) sc_pick.nd rfl (Or.inl rfl) (pe_op op_mod (pe_op op_mul (pv 5) (pv 5)) pe_int))
    (pss_one (ps_ret (pe_op op_mod (pe_op op_fdiv (pv 5) pe_int) (pv 1))))))))), ?_⟩
    have ncd : c ≠ d := ne_of hc hd (by intro z; cases z)
    obtain ⟨H0, rfl⟩ : ∃ H0, H = upd H0 d (.dK (drawKvs c a l x g)) := ⟨H, (upd_self hd).symm⟩
    have hc' : ∀ o, (upd H0 d o) c = some (.lst (cs.map V.int)) := fun o => by
      rw [upd_ne ncd] at hc ⊢
      exact hc
    have hsq : ∀ o, SqL K (upd H0 d o) c (cs.map V.int) := fun o => SqL.of (hc' o)
    have hlen : (0 : Int) < ((cs.map V.int).length : Int) := by
      rw [List.length_map]
      omega
    have kp : ∀ o o', Keep d (upd H0 d o) (upd H0 d o') := fun o o' b y e nb => by
      rw [upd_ne nb] at e ⊢
      exact e
    refine ⟨_, rfl, d, _, rfl, dg_cells, ?_⟩
    refine ⟨_, rfl, d, _, rfl, dg_digits, _, rfl, ?_⟩
    cases g with
    | true =>
      refine iteT ?_
      refine ⟨_, rfl, d, _, rfl, dg_number, _, rfl, _, _, rfl, rfl, hm, ?_⟩
      refine ⟨_, rfl, d, _, rfl, dg_number, _, rfl, _, _, rfl, rfl, ⟨hm, hm2⟩, _, rfl, d, _, rfl, dp_number, ?_⟩
      refine ⟨_, rfl, d, _, rfl, dg_left, _, _, rfl, rfl, _, rfl, d, _, rfl, dp_left, ?_⟩
      refine ⟨_, rfl, d, _, rfl, dg_left, rfl, _, rfl, ?_⟩
      have v0 := Int.emod_nonneg x (by omega : m ≠ 0)
      have v1 := Int.emod_lt_of_pos x hm
      refine ite2 (fun _ => ?_) (fun _ => ?_)
      · refine ⟨_, rfl, d, _, rfl, dg_at, _, _, rfl, rfl, _, rfl, d, _, rfl, dp_at, ?_⟩
        obtain ⟨z, hz⟩ := at_mod h0 (a + 1)
        refine ⟨_, rfl, _, rfl, d, _, rfl, dg_at, _, rfl, c, _, rfl, .inl (hsq _), _, _, rfl, rfl, hlen, c, _, _, _, rfl, rfl, hsq _, hz, _, rfl, d, _, rfl, dp_number, ?_⟩
        refine ⟨_, rfl, d, _, rfl, dp_left, ?_⟩
        exact ⟨_, rfl, q _ _ v0 v1 ⟨_, _, _, _, upd_same, hc' _, h0, h64, by omega, by omega⟩ (kp _ _)⟩
      · exact ⟨_, rfl, q _ _ v0 v1 ⟨_, _, _, _, upd_same, hc' _, h0, h64, by omega, by omega⟩ (kp _ _)⟩
    | false =>
      refine iteF ?_
      refine ⟨_, rfl, d, _, rfl, dg_at, _, _, rfl, rfl, _, rfl, d, _, rfl, dp_at, ?_⟩
      refine ⟨_, rfl, d, _, rfl, dg_at, ?_⟩
      obtain ⟨z, hz⟩ := at_mod h0 (a + 1)
      refine ⟨_, rfl, _, rfl, _, rfl, c, _, rfl, .inl (hsq _), _, _, rfl, rfl, hlen, c, _, _, _, rfl, rfl, hsq _, hz, _, _, rfl, rfl, (by show (0 : Int) < 2147483629; decide), _, rfl, _, rfl, _, _, rfl, rfl, .inl ⟨by omega, by omega⟩, _, _, rfl, rfl, .inr ⟨by decide, by decide⟩, _, _, rfl, rfl, _, _, rfl, rfl, _, _, rfl, rfl, .inr ⟨by decide, by decide⟩, _, _, rfl, rfl, (by show (0 : Int) < 2147483647; decide), ?_⟩
      generalize (z % 2147483629 + (a + 1) * (a + 1) * 7919 + 11) * 48271 = y
      have y0 := Int.emod_nonneg y (by decide : (2147483647 : Int) ≠ 0)
      have y1 := Int.emod_lt_of_pos y (by decide : (0 : Int) < 2147483647)
      refine ⟨_, rfl, _, rfl, _, _, rfl, rfl, .inl ⟨by omega, by omega⟩, _, _, rfl, rfl, (by show (0 : Int) < 1999999973; decide), ?_⟩
      exact ⟨_, rfl, _, _, rfl, rfl, ⟨by decide, by decide⟩, _, rfl, _, _, rfl, rfl, hm, q _ _ (Int.emod_nonneg _ (by omega)) (Int.emod_lt_of_pos _ hm) ⟨_, _, _, _, upd_same, hc' _, h0, h64, by omega, by omega⟩ (kp _ _)⟩
end
end FB

namespace FB
open PySem PySem.Spec PyProof.Rows L2
section
variable {P : Program} {w : World} {K : PySem.W.Frag} {mg : Str → Option Value} {base : Heap}
theorem ok_drawn {f : Addr} {fd : FuncData} (F : Fun K "_law_drawn" "_law_drawn" s_drawn f fd) (B : Blt mg) : FnOk P w K mg base CX0 1 f fd ["_law_script"] (spDrawn K) := by
  refine F.ok sc_drawn (fun vs H Q E h => ?_) (fun cdv A outer s H vs Q E hr h => ?_)
  · obtain ⟨a, ns, rfl, _⟩ := h
    rfl
  · obtain ⟨a, ns, rfl, hS, hl, q⟩ := h
    refine ⟨_, pss_cons (ps_set (i := 1) sc_drawn.nd rfl (Or.inl rfl) (pe_op op_cat (pe_callTy call_list_of (by rfl) B.list (by decide +kernel) (pa_cons (pv 0) pa_nil)) (pe_op op_rep (pe_lst (pa_cons pe_int pa_nil)) (pe_callTy call_int1 (by rfl) B.int (by decide +kernel) (pa_cons (pe_cmpR (op_eqD hr.units) (pv 0) (pe_lst pa_nil) (nomark _)) pa_nil)))))
    (pss_one (ps_ret (pe_disp (pps_cons pe_str (pv 1) (pps_cons pe_str pe_int (pps_cons pe_str pe_int (pps_cons pe_str (pe_op op_fdiv (pe_ix ix_list (pv 1) pe_int (fun _ _ => rfl)) pe_int) (pps_cons pe_str (pe_cmpR op_eq (pe_op op_mod (pe_ix ix_list (pv 1) pe_int (fun _ _ => rfl)) pe_int) pe_int (nomark _)) pps_nil))))) (by rfl) (by rfl) (fun z => by cases z) (by decide)))), ?_⟩
    refine ⟨_, rfl, a, _, rfl, .inl hS, fun l1 n1 => ?_⟩
    have s1 := same_new (o := .lst (ns.map V.int)) n1
    refine ⟨by show 1 ≤ sizeLine; decide, fun l2 n2 => ?_⟩
    have s2 := same_new (o := .lst [V.int 0]) n2
    refine ⟨_, rfl, Nat.zero_le _, fun l3 n3 => ?_⟩
    have s3 := same_new (o := .lst []) n3
    refine ⟨.list (ns.map PyData.int), .list [], .lst ((s1.trans (s2.trans s3)).seq hS) (dpall_int ns), .lst (SqL.of upd_same) .nil, shaped_ints ns, rfl, ?_⟩
    refine .inr ⟨_, rfl, ?_⟩
    have hb : ns = [] → PyData.eqv (.list (ns.map PyData.int)) (.list []) = true := fun e => by
      subst e
      rfl
    generalize PyData.eqv (.list (ns.map PyData.int)) (.list []) = b at hb
    have h2 : upd (upd (upd H l1 (.lst (ns.map V.int))) l2 (.lst [V.int 0])) l3 (.lst []) l2 = some (.lst [V.int 0]) := s3 _ _ upd_same
    have h1 : upd (upd (upd H l1 (.lst (ns.map V.int))) l2 (.lst [V.int 0])) l3 (.lst []) l1 = some (.lst (ns.map V.int)) := s3 _ _ (s2 _ _ upd_same)
    have hk : [V.int 0].length * (if b = true then (1 : Int) else 0).toNat ≤ sizeLine := by
      cases b <;> decide
    refine ⟨l2, _, _, rfl, rfl, h2, by cases b <;> decide, by cases b <;> decide, hk, fun l4 n4 => ?_⟩
    have s4 := same_new (o := .lst (List.replicate (if b = true then (1 : Int) else 0).toNat [V.int 0]).flatten) n4
    have ecs : ns.map V.int ++ (List.replicate (if b = true then (1 : Int) else 0).toNat [V.int 0]).flatten = (ns ++ List.replicate (if b = true then (1 : Int) else 0).toNat 0).map V.int := by
      cases b <;> simp
    have el : (ns.map V.int).length + (List.replicate (if b = true then (1 : Int) else 0).toNat [V.int 0]).flatten.length ≤ sizeLine := by
      have h : 64 ≤ sizeLine := by decide
      cases b <;> simp <;> omega
    refine ⟨l1, l4, _, _, rfl, rfl, s4 _ _ h1, upd_same, el, fun c nc => ?_⟩
    rw [ecs]
    have hlen : 0 < (ns ++ List.replicate (if b = true then (1 : Int) else 0).toNat 0).length ∧ (ns ++ List.replicate (if b = true then (1 : Int) else 0).toNat 0).length ≤ 64 := by
      rw [List.length_append, List.length_replicate]
      cases ns with
      | nil =>
        rw [hb rfl]
        decide
      | cons x r =>
        rw [List.length_cons] at hl ⊢
        omega
    generalize (ns ++ List.replicate (if b = true then (1 : Int) else 0).toNat 0) = cs at hlen
    have s5 := same_new (o := .lst (cs.map V.int)) nc
    have sm := s1.trans (s2.trans (s3.trans (s4.trans s5)))
    have hc5 : upd (upd (upd (upd (upd H l1 (.lst (ns.map V.int))) l2 (.lst [V.int 0])) l3 (.lst [])) l4 (.lst (List.replicate (if b = true then (1 : Int) else 0).toNat [V.int 0]).flatten)) c (.lst (cs.map V.int)) c = some (.lst (cs.map V.int)) := upd_same
    generalize upd (upd (upd (upd (upd H l1 (.lst (ns.map V.int))) l2 (.lst [V.int 0])) l3 (.lst [])) l4 (.lst (List.replicate (if b = true then (1 : Int) else 0).toNat [V.int 0]).flatten)) c (.lst (cs.map V.int)) = H5 at sm hc5
    obtain ⟨x, r, rfl⟩ : ∃ x r, cs = x :: r := by
      cases cs with
      | nil => exact absurd hlen.1 (by decide)
      | cons x r => exact ⟨x, r, rfl⟩
    refine fun d nd => ?_
    have s6 := same_new (o := .dK []) nd
    have hx : atI ((x :: r).map V.int) 0 = some (.int x) := atI_nat (j := 0) rfl
    refine ⟨_, rfl, _, rfl, c, _, _, _, rfl, rfl, SqL.of (s6 _ _ hc5), hx, _, _, rfl, rfl, ⟨by decide, by decide⟩, _, rfl, c, _, _, _, rfl, rfl, SqL.of (s6 _ _ hc5), hx, _, _, rfl, rfl, (by show (0 : Int) < 2; decide), rfl, upd_same, drawKvs c 0 60 (x / 2) (decide (V.int (x % 2) = V.int 0)), rfl, (by show 5 ≤ 15; decide), ?_⟩
    rw [merge_draw, upd_upd]
    have s7 := same_new (o := .dK (drawKvs c 0 60 (x / 2) (decide (V.int (x % 2) = V.int 0)))) nd
    exact q d c (x :: r) _ (sm.trans s7) (sm.free nd) ⟨0, 60, _, _, upd_same, s7 _ _ hc5, hlen.1, hlen.2, by decide, by decide⟩
end
end FB

namespace FB
open PySem PySem.Spec PyProof.Rows L2
def nm06 : Nat → Str
  | 0 => "BadRow"
  | 1 => "Misplaced"
  | 2 => "Twice"
  | 3 => "Uneven"
  | 4 => "TooMany"
  | _ => "StoryError"
def cls06 (a b c d e f : Addr) : Nat → Addr
  | 0 => a
  | 1 => b
  | 2 => c
  | 3 => d
  | 4 => e
  | _ => f
/-- the six classes: what the written part says of them -/
structure Ex06 (K : PySem.W.Frag) (mg : Str → Option Value) (C : Nat → Addr) (fI : Addr) : Prop where
  ex : ∀ i, i < 6 → ExK K (C i) fI
  mg : ∀ i, i < 6 → mg (nm06 i) = some (.ref (C i))
  no : ∀ i, i < 6 → PySem.W.findIn K (.ref (C i)) "place" = some none
  kit : ∀ i, i < 6 → ∀ j, j < 6 → PySem.W.kitOne K (.ref (C i)) (.ref (C j)) = some (decide (i = j) || decide (j = 5))
  ve : ∀ i, i < 6 → PySem.W.kitOne K (.ref (C i)) (.type "ValueError") = some true
  vV : PySem.W.findCls K (.type "ValueError") (.type "type") "__init__" = some (.val (.builtin "ValueError.__init__"))
def spInit06 (K : PySem.W.Frag) : Sp := fun vs H Q _ => ∃ (a C : Addr) (words : Str) (place : Int), vs = [.ref a, .str words, .int place] ∧ OexC K C ∧ PySem.W.findIn K (.ref C) "place" = some none ∧ H a = some (exo a C none) ∧
  ∀ dx, H dx = none → dx ≠ a → Q .non (upd (upd H dx (exd dx [("place", .int place)])) a (exo a C (some dx)))
def spMade06 (C : Nat → Addr) : Sp := fun vs H Q _ => ∃ (w : Nat) (words : Str) (place : Int), vs = [.int w, .str words, .int place] ∧ w < 6 ∧
  ∀ (a d : Addr) (H' : Hp), H' a = some (exo a (C w) (some d)) → H' d = some (exd d [("place", .int place)]) → Same H H' → Q (.ref a) H'
section
variable {P : Program} {w : World} {K : PySem.W.Frag} {mg : Str → Option Value} {base : Heap}
theorem ok_init06 {f fI : Addr} {fd : FuncData} {C : Nat → Addr} (F : Fun K "__init__" "StoryError.__init__" s_StoryError___init__ f fd) (B : Blt mg) (T : Ex06 K mg C fI) : FnOk P w K mg base CX0 1 f fd ["self", "words", "place"] (spInit06 K) := by
  refine F.ok sc_StoryError___init__ (fun vs H Q E h => ?_) (fun cdv A outer s H vs Q E hr h => ?_)
  · obtain ⟨a, Ci, words, place, rfl, _⟩ := h
    rfl
  · obtain ⟨a, Ci, words, place, rfl, hO, hno, ha, q⟩ := h
    refine ⟨_, pss_cons (ps_expr (pe_veinit (by rfl) B.ValueError T.vV (pa_cons (pv 0) (pa_cons (pv 1) pa_nil)))) (pss_one (ps_ost (pv 0) (pv 2))), ?_⟩
    refine ⟨_, rfl, _, rfl, a, Ci, _, rfl, by show 1 ≤ 1000; decide, hO, ha, ?_⟩
    refine ⟨_, rfl, _, rfl, a, Ci, rfl, hO, hno, .inl ⟨ha, fun dx ndx nda => ?_⟩⟩
    exact q dx ndx nda
theorem ok_made06 {f fI : Addr} {fd fdI : FuncData} {C : Nat → Addr} (F : Fun K "_law_made" "_law_made" s_made f fd) (B : Blt mg) (T : Ex06 K mg C fI) (F1 : FnOk P w K mg base CX0 1 fI fdI ["self", "words", "place"] (spInit06 K)) (hb1 : L2.Binds K fdI ["self", "words", "place"] []) : FnOk P w K mg base CX0 3 f fd ["_law_which", "_law_words", "_law_place"] (spMade06 C) := by
  refine F.ok sc_made (fun vs H Q E h => ?_) (fun cdv A outer s H vs Q E hr h => ?_)
  · obtain ⟨w, words, place, rfl, _⟩ := h
    rfl
  · obtain ⟨w, words, place, rfl, hw, q⟩ := h
    refine ⟨_, pss_cons (ps_if (pt_cmpR op_eq (pv 0) pe_int (nomark _))
      (pss_one (ps_ret (pe_mkx (x := "BadRow") (T.ex 0 (by decide)) F1 (hr.mono (by omega)) hb1 (by rfl) (T.mg 0 (by decide)) (pa_cons (pv 1) (pa_cons (pv 2) pa_nil))))) pss_nil)
    (pss_cons (ps_if (pt_cmpR op_eq (pv 0) pe_int (nomark _))
      (pss_one (ps_ret (pe_mkx (x := "Misplaced") (T.ex 1 (by decide)) F1 (hr.mono (by omega)) hb1 (by rfl) (T.mg 1 (by decide)) (pa_cons (pv 1) (pa_cons (pv 2) pa_nil))))) pss_nil)
    (pss_cons (ps_if (pt_cmpR op_eq (pv 0) pe_int (nomark _))
      (pss_one (ps_ret (pe_mkx (x := "Twice") (T.ex 2 (by decide)) F1 (hr.mono (by omega)) hb1 (by rfl) (T.mg 2 (by decide)) (pa_cons (pv 1) (pa_cons (pv 2) pa_nil))))) pss_nil)
    (pss_cons (ps_if (pt_cmpR op_eq (pv 0) pe_int (nomark _))
      (pss_one (ps_ret (pe_mkx (x := "Uneven") (T.ex 3 (by decide)) F1 (hr.mono (by omega)) hb1 (by rfl) (T.mg 3 (by decide)) (pa_cons (pv 1) (pa_cons (pv 2) pa_nil))))) pss_nil)
    (pss_cons (ps_if (pt_cmpR op_eq (pv 0) pe_int (nomark _))
      (pss_one (ps_ret (pe_mkx (x := "TooMany") (T.ex 4 (by decide)) F1 (hr.mono (by omega)) hb1 (by rfl) (T.mg 4 (by decide)) (pa_cons (pv 1) (pa_cons (pv 2) pa_nil))))) pss_nil)
    (pss_one (ps_ret (pe_mkx (x := "StoryError") (T.ex 5 (by decide)) F1 (hr.mono (by omega)) hb1 (by rfl) (T.mg 5 (by decide)) (pa_cons (pv 1) (pa_cons (pv 2) pa_nil))))))))), ?_⟩
    have made : ∀ i, i < 6 → w = i → ∀ a, H a = none → spInit06 K [.ref a, .str words, .int place] (upd H a (exo a (C i) none)) (fun v H2 => v = .non ∧ Q (.ref a) H2) (fun _ _ _ => False) := fun i hi e a na => by
      refine ⟨a, C i, words, place, rfl, (T.ex i hi).oex, T.no i hi, upd_same, fun dx ndx nda => ⟨rfl, ?_⟩⟩
      have ndH : H dx = none := by
        rw [upd_ne nda] at ndx
        exact ndx
      refine q a dx _ (by rw [e]; exact upd_same) (by rw [upd_ne nda, upd_same]) fun b o hb => ?_
      rw [upd_ne (ne_of_none hb na), upd_ne (ne_of_none hb ndH), upd_ne (ne_of_none hb na)]
      exact hb
    have neq : ∀ {i : Int}, ¬ decide (V.int (w : Int) = V.int i) = true → (w : Int) ≠ i := fun h e => h (decide_eq_true (by rw [e]))
    refine ⟨_, rfl, rfl, _, rfl, ite2 (fun e => ⟨_, rfl, _, rfl, by show 2 ≤ 1000; decide, made 0 (by decide) (by have := V.int.inj (of_decide_eq_true e); omega)⟩) (fun e0 => ?_)⟩
    have e0 := neq e0
    refine ⟨_, rfl, rfl, _, rfl, ite2 (fun e => ⟨_, rfl, _, rfl, by show 2 ≤ 1000; decide, made 1 (by decide) (by have := V.int.inj (of_decide_eq_true e); omega)⟩) (fun e1 => ?_)⟩
    have e1 := neq e1
    refine ⟨_, rfl, rfl, _, rfl, ite2 (fun e => ⟨_, rfl, _, rfl, by show 2 ≤ 1000; decide, made 2 (by decide) (by have := V.int.inj (of_decide_eq_true e); omega)⟩) (fun e2 => ?_)⟩
    have e2 := neq e2
    refine ⟨_, rfl, rfl, _, rfl, ite2 (fun e => ⟨_, rfl, _, rfl, by show 2 ≤ 1000; decide, made 3 (by decide) (by have := V.int.inj (of_decide_eq_true e); omega)⟩) (fun e3 => ?_)⟩
    have e3 := neq e3
    refine ⟨_, rfl, rfl, _, rfl, ite2 (fun e => ⟨_, rfl, _, rfl, by show 2 ≤ 1000; decide, made 4 (by decide) (by have := V.int.inj (of_decide_eq_true e); omega)⟩) (fun e4 => ?_)⟩
    have e4 := neq e4
    exact ⟨_, rfl, _, rfl, by show 2 ≤ 1000; decide, made 5 (by decide) (by omega)⟩
end
end FB

namespace FB
open PySem PySem.Spec PyProof.Rows L2
def spLaw (K : PySem.W.Frag) : Sp := fun vs H Q _ => ∃ (a : Addr) (ns : List Int), vs = [.ref a] ∧ SqL K H a (ns.map V.int) ∧ ns.length ≤ 63 ∧ ∀ H', Q (.bl true) H'
theorem three_at {x y z : Str} {v : Int} (h0 : 0 ≤ v) (h1 : v < 3) : ∃ s : Str, atI [V.str x, V.str y, V.str z] v = some (V.str s) := by
  rcases (show v = 0 ∨ v = 1 ∨ v = 2 by omega) with rfl | rfl | rfl
  · exact ⟨x, atI_nat (j := 0) rfl⟩
  · exact ⟨y, atI_nat (j := 1) rfl⟩
  · exact ⟨z, atI_nat (j := 2) rfl⟩
theorem dp_bools {K : PySem.W.Frag} {H : Hp} : ∀ bs : List Bool, DpAll K H (bs.map V.bl) (bs.map PyData.bool)
  | [] => .nil
  | b :: r => .cons (.bl b) (dp_bools r)
def bs06 (i : Nat) : List Bool := [decide (i = 0) || decide (0 = 5), decide (i = 1) || decide (1 = 5), decide (i = 2) || decide (2 = 5), decide (i = 3) || decide (3 = 5), decide (i = 4) || decide (4 = 5)]
theorem bools06 : ∀ i, i < 6 → bs06 i = (List.range 5).map fun z => decide (z = i) := by decide
theorem shaped06 : ∀ i, i < 6 → SeqAt.shaped (.list ((bs06 i).map PyData.bool)) = true := by decide +kernel
theorem eqv06 (i : Nat) (hi : i < 6) : PyData.eqv (.list ((bs06 i).map PyData.bool)) (.list ((bs06 i).map PyData.bool)) = true := SeqAt.eqv_refl _ (by simp [bs06, PyData.canLay0, PyData.canLayAll0])
theorem same_mut06 {H H' : Hp} {p : Addr} {o : HO} (k : Same H H') (h : H p = none) : Same H (L2.upd H' p o) := fun b x e => by
  rw [upd_ne (ne_of_none e h)]
  exact k b x e
section
variable {P : Program} {w : World} {K : PySem.W.Frag} {mg : Str → Option Value} {base : Heap}
theorem ok_law {f fI : Addr} {fd fdI : FuncData} {C : Nat → Addr} (F : Fun K "law" "law" s_law f fd) (B : Blt mg) (T : Ex06 K mg C fI) (FI : Fun K "__init__" "StoryError.__init__" s_StoryError___init__ fI fdI) (hb1 : L2.Binds K fdI ["self", "words", "place"] [])
    (A_drawn : DefAt K mg "_law_drawn" s_drawn ["_law_script"]) (A_pick : DefAt K mg "_law_pick" s_pick ["_law_draw", "_law_many"]) (A_made : DefAt K mg "_law_made" s_made ["_law_which", "_law_words", "_law_place"]) :
    FnOk P w K mg base CX0 4 f fd ["_law_script"] (spLaw K) := by
  have F1 : FnOk P w K mg base CX0 1 fI fdI ["self", "words", "place"] (spInit06 K) := ok_init06 FI B T
  have D_pick : DefOk P w K mg base 1 "_law_pick" ["_law_draw", "_law_many"] spPick := A_pick.ok fun _ _ F => ok_pick F B
  have D_drawn : DefOk P w K mg base 1 "_law_drawn" ["_law_script"] (spDrawn K) := A_drawn.ok fun _ _ F => ok_drawn F B
  have D_made : DefOk P w K mg base 3 "_law_made" ["_law_which", "_law_words", "_law_place"] (spMade06 C) := A_made.ok fun _ _ F => ok_made06 F B T F1 hb1
  refine F.ok sc_law (fun vs H Q E h => ?_) (fun cdv A outer s H vs Q E hr h => ?_)
  · obtain ⟨a, ns, rfl, _⟩ := h
    rfl
  · obtain ⟨a, ns, rfl, hS, hl, q⟩ := h
    refine ⟨_, pss_cons (ps_set (i := 1) sc_law.nd rfl (Or.inl rfl) (pe_def D_drawn (hr.mono (by omega)) (by rfl) (pa_cons (pv 0) pa_nil)))
    (pss_cons (ps_for PassesOwn.never rfl (pi_range1 (by rfl) B.range (pa_cons pe_int pa_nil)) (pg_name (i := 2) sc_law.nd rfl (Or.inr rfl))
      (pss_cons (ps_set (i := 3) sc_law.nd rfl (Or.inl rfl) (pe_op op_add pe_int (pe_def D_pick (hr.mono (by omega)) (by rfl) (pa_cons (pv 1) (pa_cons pe_int pa_nil)))))
      (pss_cons (ps_set (i := 4) sc_law.nd rfl (Or.inl rfl) (pe_def D_made (hr.mono (by omega)) (by rfl) (pa_cons (pv 2) (pa_cons (pe_ix ix_list (pe_lst (pa_cons pe_str (pa_cons pe_str (pa_cons pe_str pa_nil)))) (pe_def D_pick (hr.mono (by omega)) (by rfl) (pa_cons (pv 1) (pa_cons pe_int pa_nil))) (fun _ _ => rfl)) (pa_cons (pv 3) pa_nil)))))
      (pss_cons (ps_set (i := 5) sc_law.nd rfl (Or.inl rfl) (pe_lst (pa_cons (pe_callB call_isX (by rfl) B.isinstance (by decide +kernel) (pa_cons (pv 4) (pa_cons (pe_glob (v := .ref (C 0)) rfl (T.mg 0 (by decide)) rfl) pa_nil))) (pa_cons (pe_callB call_isX (by rfl) B.isinstance (by decide +kernel) (pa_cons (pv 4) (pa_cons (pe_glob (v := .ref (C 1)) rfl (T.mg 1 (by decide)) rfl) pa_nil))) pa_nil))))
      (pss_cons (ps_set (i := 5) sc_law.nd rfl (Or.inl rfl) (pe_op op_cat (pv 5) (pe_lst (pa_cons (pe_callB call_isX (by rfl) B.isinstance (by decide +kernel) (pa_cons (pv 4) (pa_cons (pe_glob (v := .ref (C 2)) rfl (T.mg 2 (by decide)) rfl) pa_nil))) (pa_cons (pe_callB call_isX (by rfl) B.isinstance (by decide +kernel) (pa_cons (pv 4) (pa_cons (pe_glob (v := .ref (C 3)) rfl (T.mg 3 (by decide)) rfl) pa_nil))) (pa_cons (pe_callB call_isX (by rfl) B.isinstance (by decide +kernel) (pa_cons (pv 4) (pa_cons (pe_glob (v := .ref (C 4)) rfl (T.mg 4 (by decide)) rfl) pa_nil))) pa_nil))))))
      (pss_cons (ps_if (PW.pt (pw_or (pt_cmpR (op_neD hr.units) (pv 5) (pe_lc (own := [("_law_k", 6)]) (g := gName 6) (tt := tYes) rfl sc_law.nd (pi_range1 (by rfl) B.range (pa_cons pe_int pa_nil)) (blkOk_by (own := [("_law_k", 6)]) (N := ["_law_script", "_law_draw", "_law_which", "_law_place", "_law_error", "_law_kinds", "_law_k"]) (sc := defScope s_law) (by decide +kernel)) (fun _ _ _ _ _ => pg_name (i := 6) sc_law.nd rfl (Or.inl rfl)) (fun _ _ _ _ _ => pts_nil) (fun _ _ _ _ _ => pe_cmpR op_eq (pv 6) (pv 2) (nomark _))) (nomark _)) (pw_or1 (pt_not (pt_val (pe_callB call_isX (by rfl) B.isinstance (by decide +kernel) (pa_cons (pv 4) (pa_cons (pe_bltn (v := .ty "ValueError") (by rfl) B.ValueError (by decide +kernel) rfl) pa_nil))))))))
        (pss_one (ps_ret pe_bl)) pss_nil)
      (pss_one (ps_if (PW.pt (pw_or (pt_not (pt_val (pe_callB call_isX (by rfl) B.isinstance (by decide +kernel) (pa_cons (pv 4) (pa_cons (pe_glob (v := .ref (C 5)) rfl (T.mg 5 (by decide)) rfl) pa_nil))))) (pw_or1 (pt_cmpR op_ne (pe_xv (pv 4)) (pv 3) (nomark _)))))
        (pss_one (ps_ret pe_bl)) pss_nil))))))))
    (pss_one (ps_ret pe_bl))), ?_⟩
    refine ⟨_, rfl, a, ns, rfl, hS, hl, fun d c cs H1 s1 nd D1 => ?_⟩
    refine ⟨_, rfl, by decide, by decide, for_range (lo := 0) (n := (6 : Int).toNat) (fun i σ H' => ∃ v2 v3 v4 v5, σ = [some (.ref a), some (.ref d), v2, v3, v4, v5, none] ∧ DrawAt H' d c cs (2 * i)) ⟨_, _, _, _, rfl, D1⟩ ?_ ?_⟩
    · rintro i σ H' hi ⟨v2, v3, v4, v5, rfl, D'⟩
      have hi6 : i < 6 := hi
      -- place
      refine ⟨_, rfl, d, c, cs, _, 2000, rfl, D', by decide, by decide, by omega, fun v H2 a2 b2 D2 k2 => ?_⟩
      refine ⟨_, _, rfl, rfl, ?_⟩
      -- error
      refine ⟨_, rfl, by show 3 ≤ sizeLine; decide, fun L nL => ?_⟩
      have u3 := same_new (o := .lst [V.str "", V.str "row", V.str "one row"]) nL
      have nLd : L ≠ d := D2.ne nL
      refine ⟨_, rfl, d, c, cs, _, 3, rfl, D2.same u3, by decide, by decide, by omega, fun v3' H4 a4 b4 D4 k4 => ?_⟩
      obtain ⟨words, hat⟩ := three_at (x := "") (y := "row") (z := "one row") a4 b4
      have hL := k4 _ _ (upd_same : upd H2 L (.lst [V.str "", V.str "row", V.str "one row"]) L = _) nLd
      refine ⟨L, _, _, _, rfl, rfl, SqL.of hL, hat, _, rfl, ?_⟩
      refine ⟨i, words, 1 + v, congrArg (fun z => [V.int z, V.str words, V.int (1 + v)]) (Int.zero_add _), hi6, fun e dd H5 hE hD s5 => ?_⟩
      have D5 := (D4.same s5)
      -- kinds
      refine ⟨_, rfl, e, C i, fI, some dd, .ref (C 0), .ref (C 0), _, rfl, hE, .inr ⟨dd, _, rfl, hD⟩, T.ex i hi6, fun u r => r, T.kit i hi6 0 (by decide), ?_⟩
      refine ⟨_, rfl, e, C i, fI, some dd, .ref (C 1), .ref (C 1), _, rfl, hE, .inr ⟨dd, _, rfl, hD⟩, T.ex i hi6, fun u r => r, T.kit i hi6 1 (by decide), by show 2 ≤ sizeLine; decide, fun K1 nK1 => ?_⟩
      have u6 := same_new (o := .lst [V.bl (decide (i = 0) || decide (0 = 5)), V.bl (decide (i = 1) || decide (1 = 5))]) nK1
      have hE6 := u6 _ _ hE
      have hD6 := u6 _ _ hD
      refine ⟨_, rfl, ?_⟩
      refine ⟨_, rfl, e, C i, fI, some dd, .ref (C 2), .ref (C 2), _, rfl, hE6, .inr ⟨dd, _, rfl, hD6⟩, T.ex i hi6, fun u r => r, T.kit i hi6 2 (by decide), ?_⟩
      refine ⟨_, rfl, e, C i, fI, some dd, .ref (C 3), .ref (C 3), _, rfl, hE6, .inr ⟨dd, _, rfl, hD6⟩, T.ex i hi6, fun u r => r, T.kit i hi6 3 (by decide), ?_⟩
      refine ⟨_, rfl, e, C i, fI, some dd, .ref (C 4), .ref (C 4), _, rfl, hE6, .inr ⟨dd, _, rfl, hD6⟩, T.ex i hi6, fun u r => r, T.kit i hi6 4 (by decide), by show 3 ≤ sizeLine; decide, fun K2 nK2 => ?_⟩
      have u7 := same_new (o := .lst [V.bl (decide (i = 2) || decide (2 = 5)), V.bl (decide (i = 3) || decide (3 = 5)), V.bl (decide (i = 4) || decide (4 = 5))]) nK2
      refine ⟨K1, K2, _, _, rfl, rfl, u7 _ _ upd_same, upd_same, by show 2 + 3 ≤ sizeLine; decide, fun K3 nK3 => ?_⟩
      have u8 := same_new (o := .lst ((bs06 i).map V.bl)) nK3
      have s58 := u6.trans (u7.trans u8)
      have hK3 : upd (upd (upd H5 K1 (.lst [V.bl (decide (i = 0) || decide (0 = 5)), V.bl (decide (i = 1) || decide (1 = 5))])) K2 (.lst [V.bl (decide (i = 2) || decide (2 = 5)), V.bl (decide (i = 3) || decide (3 = 5)), V.bl (decide (i = 4) || decide (4 = 5))])) K3 (.lst ((bs06 i).map V.bl)) K3 = some (.lst ((bs06 i).map V.bl)) := upd_same
      have eH : upd (upd (upd H5 K1 (.lst [V.bl (decide (i = 0) || decide (0 = 5)), V.bl (decide (i = 1) || decide (1 = 5))])) K2 (.lst [V.bl (decide (i = 2) || decide (2 = 5)), V.bl (decide (i = 3) || decide (3 = 5)), V.bl (decide (i = 4) || decide (4 = 5))])) K3 (.lst ([V.bl (decide (i = 0) || decide (0 = 5)), V.bl (decide (i = 1) || decide (1 = 5))] ++ [V.bl (decide (i = 2) || decide (2 = 5)), V.bl (decide (i = 3) || decide (3 = 5)), V.bl (decide (i = 4) || decide (4 = 5))])) = upd (upd (upd H5 K1 (.lst [V.bl (decide (i = 0) || decide (0 = 5)), V.bl (decide (i = 1) || decide (1 = 5))])) K2 (.lst [V.bl (decide (i = 2) || decide (2 = 5)), V.bl (decide (i = 3) || decide (3 = 5)), V.bl (decide (i = 4) || decide (4 = 5))])) K3 (.lst ((bs06 i).map V.bl)) := rfl
      rw [eH]
      generalize upd (upd (upd H5 K1 (.lst [V.bl (decide (i = 0) || decide (0 = 5)), V.bl (decide (i = 1) || decide (1 = 5))])) K2 (.lst [V.bl (decide (i = 2) || decide (2 = 5)), V.bl (decide (i = 3) || decide (3 = 5)), V.bl (decide (i = 4) || decide (4 = 5))])) K3 (.lst ((bs06 i).map V.bl)) = H8 at s58 hK3
      -- kinds compared
      refine ⟨_, rfl, _, rfl, by decide, by decide, fun D nD => ?_⟩
      refine lc_range (lo := 0) (n := (5 : Int).toNat) (fun k H' => H' D = some (.lst (((List.range k).map fun z => decide (z = i)).map V.bl)) ∧ Same H8 H') ?_ ?_ ?_
      · exact ⟨upd_same, same_new nD⟩
      · rintro k H' hk ⟨hDl, sm⟩
        have hk5 : k < 5 := hk
        refine ⟨rfl, _, rfl, _, rfl, rfl, _, hDl, small1000 (by rw [List.length_map, List.length_map, List.length_range]; omega), ?_, same_mut06 sm nD⟩
        rw [upd_same, List.range_succ, List.map_append, List.map_append]
        have ek : decide (V.int (0 + (k : Int)) = V.int (0 + (i : Int))) = decide (k = i) := by
          by_cases h : k = i
          · rw [decide_eq_true h, h]
            exact decide_eq_true rfl
          · rw [decide_eq_false h]
            exact decide_eq_false fun z => h (by have := V.int.inj z; omega)
        rw [ek]
        rfl
      rintro H9 ⟨hD9, s9⟩
      have hD9' : H9 D = some (.lst (((List.range 5).map fun z => decide (z = i)).map V.bl)) := hD9
      rw [← bools06 i hi6] at hD9'
      have s59 := s58.trans s9
      refine ⟨_, _, .lst (SqL.of (s9 _ _ hK3)) (dp_bools _), .lst (SqL.of hD9') (dp_bools _), shaped06 i hi6, shaped06 i hi6, _, rfl, ?_⟩
      rw [eqv06 i hi6]
      refine iteF ?_
      -- ValueError
      refine ⟨_, rfl, e, C i, fI, some dd, .ty "ValueError", .type "ValueError", _, rfl, s59 _ _ hE, .inr ⟨dd, _, rfl, s59 _ _ hD⟩, T.ex i hi6, fun u r => r, T.ve i hi6, _, rfl, iteF ?_⟩
      -- StoryError
      refine ⟨_, rfl, e, C i, fI, some dd, .ref (C 5), .ref (C 5), _, rfl, s59 _ _ hE, .inr ⟨dd, _, rfl, s59 _ _ hD⟩, T.ex i hi6, fun u r => r, T.kit i hi6 5 (by decide), _, rfl, ?_⟩
      have e5 : (decide (i = 5) || decide (5 = 5)) = true := by
        rw [decide_eq_true (rfl : (5 : Nat) = 5), Bool.or_true]
      rw [e5]
      refine iteF ?_
      -- place
      refine ⟨_, rfl, e, C i, fI, dd, _, .int (1 + v), rfl, s59 _ _ hE, s59 _ _ hD, T.ex i hi6, T.no i hi6, rfl, _, rfl, rfl, _, rfl, iteNS rfl ?_⟩
      exact ⟨_, _, _, _, rfl, (D5.same s59).mono (by omega)⟩
    · rintro σ H' ⟨v2, v3, v4, v5, rfl, D'⟩
      exact q H'
end
theorem all_mk {l : PySem.W.OpenLaw} {w : World} {K : PySem.W.Frag} {h : Heap} {mg : Str → Option Value} {fa f0 f1 f2 f3 fx C_BadRow C_Misplaced C_Twice C_Uneven C_TooMany C_StoryError : Addr} (X : K.In h) (G : h.Ns mainGlobals mg) (hfa : mg "law" = some (.ref fa))
    {od0 an0 od1 an1 od2 an2 od3 an3 odx anx : Option Addr} {sl0 sl1 sl2 sl3 slx : Array (Option Value)} {oc0 kV0 dc0 pm0 cd0 ct0 oc1 kV1 dc1 pm1 cd1 ct1 oc2 kV2 dc2 pm2 cd2 ct2 oc3 kV3 dc3 pm3 cd3 ct3 ocx kVx dcx pmx cdx ctx : Value}
    {nm_BadRow qn_BadRow : Str} {N_BadRow : Addr} {bs_BadRow bm_BadRow su_BadRow : List Value} {sn_BadRow : List Str} {ab_BadRow : Bool} {co_BadRow : Option Bool} {dd_BadRow : Option Addr} {ka_BadRow kb_BadRow kd_BadRow ke_BadRow kf_BadRow : Option Value}
    (aC_BadRow : PySem.W.nsIn K mainGlobals "BadRow" = some (some (.ref C_BadRow)))
    (lC_BadRow : K.lookup C_BadRow = some (excClassObj nm_BadRow qn_BadRow C_BadRow N_BadRow bs_BadRow bm_BadRow true sn_BadRow su_BadRow ab_BadRow co_BadRow dd_BadRow ka_BadRow kb_BadRow kd_BadRow ke_BadRow kf_BadRow "ValueError.__new__")) (rv_BadRow : PySem.HandSPX.refsVE bm_BadRow = true)
    (sa_BadRow : PySem.W.findIn K (.ref C_BadRow) "__setattr__" = some (some (.builtin "object.__setattr__"))) (ex_BadRow : PySem.W.subIn K (.ref C_BadRow) (.type "BaseException") = some true) (ty_BadRow : PySem.W.typeIn K (.ref C_BadRow) = some (.type "type")) (kc_BadRow : PySem.W.keepIn K (.ref C_BadRow) = true)
    (in_BadRow : PySem.W.findIn K (.ref C_BadRow) "__init__" = some (some (.ref fx))) (ga_BadRow : PySem.W.findIn K (.ref C_BadRow) "__getattribute__" = some (some (.builtin "BaseException.__getattribute__"))) (gg_BadRow : PySem.W.findIn K (.ref C_BadRow) "__getattr__" = some none)
    (hd_BadRow : PySem.W.hasDictIn K C_BadRow = true) (cc_BadRow : PySem.W.findIn K (.ref C_BadRow) "__class__" = some (some (.builtin "object.__class__"))) (hm_BadRow : PySem.W.mroIn K C_BadRow (.type "object") = some true)
    (nF_BadRow_place : PySem.W.findIn K (.ref C_BadRow) "place" = some none)
    (ve_BadRow : PySem.W.subIn K (.ref C_BadRow) (.type "ValueError") = some true)
    {nm_Misplaced qn_Misplaced : Str} {N_Misplaced : Addr} {bs_Misplaced bm_Misplaced su_Misplaced : List Value} {sn_Misplaced : List Str} {ab_Misplaced : Bool} {co_Misplaced : Option Bool} {dd_Misplaced : Option Addr} {ka_Misplaced kb_Misplaced kd_Misplaced ke_Misplaced kf_Misplaced : Option Value}
    (aC_Misplaced : PySem.W.nsIn K mainGlobals "Misplaced" = some (some (.ref C_Misplaced)))
    (lC_Misplaced : K.lookup C_Misplaced = some (excClassObj nm_Misplaced qn_Misplaced C_Misplaced N_Misplaced bs_Misplaced bm_Misplaced true sn_Misplaced su_Misplaced ab_Misplaced co_Misplaced dd_Misplaced ka_Misplaced kb_Misplaced kd_Misplaced ke_Misplaced kf_Misplaced "ValueError.__new__")) (rv_Misplaced : PySem.HandSPX.refsVE bm_Misplaced = true)
    (sa_Misplaced : PySem.W.findIn K (.ref C_Misplaced) "__setattr__" = some (some (.builtin "object.__setattr__"))) (ex_Misplaced : PySem.W.subIn K (.ref C_Misplaced) (.type "BaseException") = some true) (ty_Misplaced : PySem.W.typeIn K (.ref C_Misplaced) = some (.type "type")) (kc_Misplaced : PySem.W.keepIn K (.ref C_Misplaced) = true)
    (in_Misplaced : PySem.W.findIn K (.ref C_Misplaced) "__init__" = some (some (.ref fx))) (ga_Misplaced : PySem.W.findIn K (.ref C_Misplaced) "__getattribute__" = some (some (.builtin "BaseException.__getattribute__"))) (gg_Misplaced : PySem.W.findIn K (.ref C_Misplaced) "__getattr__" = some none)
    (hd_Misplaced : PySem.W.hasDictIn K C_Misplaced = true) (cc_Misplaced : PySem.W.findIn K (.ref C_Misplaced) "__class__" = some (some (.builtin "object.__class__"))) (hm_Misplaced : PySem.W.mroIn K C_Misplaced (.type "object") = some true)
    (nF_Misplaced_place : PySem.W.findIn K (.ref C_Misplaced) "place" = some none)
    (ve_Misplaced : PySem.W.subIn K (.ref C_Misplaced) (.type "ValueError") = some true)
    {nm_Twice qn_Twice : Str} {N_Twice : Addr} {bs_Twice bm_Twice su_Twice : List Value} {sn_Twice : List Str} {ab_Twice : Bool} {co_Twice : Option Bool} {dd_Twice : Option Addr} {ka_Twice kb_Twice kd_Twice ke_Twice kf_Twice : Option Value}
    (aC_Twice : PySem.W.nsIn K mainGlobals "Twice" = some (some (.ref C_Twice)))
    (lC_Twice : K.lookup C_Twice = some (excClassObj nm_Twice qn_Twice C_Twice N_Twice bs_Twice bm_Twice true sn_Twice su_Twice ab_Twice co_Twice dd_Twice ka_Twice kb_Twice kd_Twice ke_Twice kf_Twice "ValueError.__new__")) (rv_Twice : PySem.HandSPX.refsVE bm_Twice = true)
    (sa_Twice : PySem.W.findIn K (.ref C_Twice) "__setattr__" = some (some (.builtin "object.__setattr__"))) (ex_Twice : PySem.W.subIn K (.ref C_Twice) (.type "BaseException") = some true) (ty_Twice : PySem.W.typeIn K (.ref C_Twice) = some (.type "type")) (kc_Twice : PySem.W.keepIn K (.ref C_Twice) = true)
    (in_Twice : PySem.W.findIn K (.ref C_Twice) "__init__" = some (some (.ref fx))) (ga_Twice : PySem.W.findIn K (.ref C_Twice) "__getattribute__" = some (some (.builtin "BaseException.__getattribute__"))) (gg_Twice : PySem.W.findIn K (.ref C_Twice) "__getattr__" = some none)
    (hd_Twice : PySem.W.hasDictIn K C_Twice = true) (cc_Twice : PySem.W.findIn K (.ref C_Twice) "__class__" = some (some (.builtin "object.__class__"))) (hm_Twice : PySem.W.mroIn K C_Twice (.type "object") = some true)
    (nF_Twice_place : PySem.W.findIn K (.ref C_Twice) "place" = some none)
    (ve_Twice : PySem.W.subIn K (.ref C_Twice) (.type "ValueError") = some true)
    {nm_Uneven qn_Uneven : Str} {N_Uneven : Addr} {bs_Uneven bm_Uneven su_Uneven : List Value} {sn_Uneven : List Str} {ab_Uneven : Bool} {co_Uneven : Option Bool} {dd_Uneven : Option Addr} {ka_Uneven kb_Uneven kd_Uneven ke_Uneven kf_Uneven : Option Value}
    (aC_Uneven : PySem.W.nsIn K mainGlobals "Uneven" = some (some (.ref C_Uneven)))
    (lC_Uneven : K.lookup C_Uneven = some (excClassObj nm_Uneven qn_Uneven C_Uneven N_Uneven bs_Uneven bm_Uneven true sn_Uneven su_Uneven ab_Uneven co_Uneven dd_Uneven ka_Uneven kb_Uneven kd_Uneven ke_Uneven kf_Uneven "ValueError.__new__")) (rv_Uneven : PySem.HandSPX.refsVE bm_Uneven = true)
    (sa_Uneven : PySem.W.findIn K (.ref C_Uneven) "__setattr__" = some (some (.builtin "object.__setattr__"))) (ex_Uneven : PySem.W.subIn K (.ref C_Uneven) (.type "BaseException") = some true) (ty_Uneven : PySem.W.typeIn K (.ref C_Uneven) = some (.type "type")) (kc_Uneven : PySem.W.keepIn K (.ref C_Uneven) = true)
    (in_Uneven : PySem.W.findIn K (.ref C_Uneven) "__init__" = some (some (.ref fx))) (ga_Uneven : PySem.W.findIn K (.ref C_Uneven) "__getattribute__" = some (some (.builtin "BaseException.__getattribute__"))) (gg_Uneven : PySem.W.findIn K (.ref C_Uneven) "__getattr__" = some none)
    (hd_Uneven : PySem.W.hasDictIn K C_Uneven = true) (cc_Uneven : PySem.W.findIn K (.ref C_Uneven) "__class__" = some (some (.builtin "object.__class__"))) (hm_Uneven : PySem.W.mroIn K C_Uneven (.type "object") = some true)
    (nF_Uneven_place : PySem.W.findIn K (.ref C_Uneven) "place" = some none)
    (ve_Uneven : PySem.W.subIn K (.ref C_Uneven) (.type "ValueError") = some true)
    {nm_TooMany qn_TooMany : Str} {N_TooMany : Addr} {bs_TooMany bm_TooMany su_TooMany : List Value} {sn_TooMany : List Str} {ab_TooMany : Bool} {co_TooMany : Option Bool} {dd_TooMany : Option Addr} {ka_TooMany kb_TooMany kd_TooMany ke_TooMany kf_TooMany : Option Value}
    (aC_TooMany : PySem.W.nsIn K mainGlobals "TooMany" = some (some (.ref C_TooMany)))
    (lC_TooMany : K.lookup C_TooMany = some (excClassObj nm_TooMany qn_TooMany C_TooMany N_TooMany bs_TooMany bm_TooMany true sn_TooMany su_TooMany ab_TooMany co_TooMany dd_TooMany ka_TooMany kb_TooMany kd_TooMany ke_TooMany kf_TooMany "ValueError.__new__")) (rv_TooMany : PySem.HandSPX.refsVE bm_TooMany = true)
    (sa_TooMany : PySem.W.findIn K (.ref C_TooMany) "__setattr__" = some (some (.builtin "object.__setattr__"))) (ex_TooMany : PySem.W.subIn K (.ref C_TooMany) (.type "BaseException") = some true) (ty_TooMany : PySem.W.typeIn K (.ref C_TooMany) = some (.type "type")) (kc_TooMany : PySem.W.keepIn K (.ref C_TooMany) = true)
    (in_TooMany : PySem.W.findIn K (.ref C_TooMany) "__init__" = some (some (.ref fx))) (ga_TooMany : PySem.W.findIn K (.ref C_TooMany) "__getattribute__" = some (some (.builtin "BaseException.__getattribute__"))) (gg_TooMany : PySem.W.findIn K (.ref C_TooMany) "__getattr__" = some none)
    (hd_TooMany : PySem.W.hasDictIn K C_TooMany = true) (cc_TooMany : PySem.W.findIn K (.ref C_TooMany) "__class__" = some (some (.builtin "object.__class__"))) (hm_TooMany : PySem.W.mroIn K C_TooMany (.type "object") = some true)
    (nF_TooMany_place : PySem.W.findIn K (.ref C_TooMany) "place" = some none)
    (ve_TooMany : PySem.W.subIn K (.ref C_TooMany) (.type "ValueError") = some true)
    {nm_StoryError qn_StoryError : Str} {N_StoryError : Addr} {bs_StoryError bm_StoryError su_StoryError : List Value} {sn_StoryError : List Str} {ab_StoryError : Bool} {co_StoryError : Option Bool} {dd_StoryError : Option Addr} {ka_StoryError kb_StoryError kd_StoryError ke_StoryError kf_StoryError : Option Value}
    (aC_StoryError : PySem.W.nsIn K mainGlobals "StoryError" = some (some (.ref C_StoryError)))
    (lC_StoryError : K.lookup C_StoryError = some (excClassObj nm_StoryError qn_StoryError C_StoryError N_StoryError bs_StoryError bm_StoryError true sn_StoryError su_StoryError ab_StoryError co_StoryError dd_StoryError ka_StoryError kb_StoryError kd_StoryError ke_StoryError kf_StoryError "ValueError.__new__")) (rv_StoryError : PySem.HandSPX.refsVE bm_StoryError = true)
    (sa_StoryError : PySem.W.findIn K (.ref C_StoryError) "__setattr__" = some (some (.builtin "object.__setattr__"))) (ex_StoryError : PySem.W.subIn K (.ref C_StoryError) (.type "BaseException") = some true) (ty_StoryError : PySem.W.typeIn K (.ref C_StoryError) = some (.type "type")) (kc_StoryError : PySem.W.keepIn K (.ref C_StoryError) = true)
    (in_StoryError : PySem.W.findIn K (.ref C_StoryError) "__init__" = some (some (.ref fx))) (ga_StoryError : PySem.W.findIn K (.ref C_StoryError) "__getattribute__" = some (some (.builtin "BaseException.__getattribute__"))) (gg_StoryError : PySem.W.findIn K (.ref C_StoryError) "__getattr__" = some none)
    (hd_StoryError : PySem.W.hasDictIn K C_StoryError = true) (cc_StoryError : PySem.W.findIn K (.ref C_StoryError) "__class__" = some (some (.builtin "object.__class__"))) (hm_StoryError : PySem.W.mroIn K C_StoryError (.type "object") = some true)
    (nF_StoryError_place : PySem.W.findIn K (.ref C_StoryError) "place" = some none)
    (ve_StoryError : PySem.W.subIn K (.ref C_StoryError) (.type "ValueError") = some true)
    (kt_0_0 : PySem.W.subIn K (.ref C_BadRow) (.ref C_BadRow) = some true)
    (kt_0_1 : PySem.W.subIn K (.ref C_BadRow) (.ref C_Misplaced) = some false)
    (kt_0_2 : PySem.W.subIn K (.ref C_BadRow) (.ref C_Twice) = some false)
    (kt_0_3 : PySem.W.subIn K (.ref C_BadRow) (.ref C_Uneven) = some false)
    (kt_0_4 : PySem.W.subIn K (.ref C_BadRow) (.ref C_TooMany) = some false)
    (kt_0_5 : PySem.W.subIn K (.ref C_BadRow) (.ref C_StoryError) = some true)
    (kt_1_0 : PySem.W.subIn K (.ref C_Misplaced) (.ref C_BadRow) = some false)
    (kt_1_1 : PySem.W.subIn K (.ref C_Misplaced) (.ref C_Misplaced) = some true)
    (kt_1_2 : PySem.W.subIn K (.ref C_Misplaced) (.ref C_Twice) = some false)
    (kt_1_3 : PySem.W.subIn K (.ref C_Misplaced) (.ref C_Uneven) = some false)
    (kt_1_4 : PySem.W.subIn K (.ref C_Misplaced) (.ref C_TooMany) = some false)
    (kt_1_5 : PySem.W.subIn K (.ref C_Misplaced) (.ref C_StoryError) = some true)
    (kt_2_0 : PySem.W.subIn K (.ref C_Twice) (.ref C_BadRow) = some false)
    (kt_2_1 : PySem.W.subIn K (.ref C_Twice) (.ref C_Misplaced) = some false)
    (kt_2_2 : PySem.W.subIn K (.ref C_Twice) (.ref C_Twice) = some true)
    (kt_2_3 : PySem.W.subIn K (.ref C_Twice) (.ref C_Uneven) = some false)
    (kt_2_4 : PySem.W.subIn K (.ref C_Twice) (.ref C_TooMany) = some false)
    (kt_2_5 : PySem.W.subIn K (.ref C_Twice) (.ref C_StoryError) = some true)
    (kt_3_0 : PySem.W.subIn K (.ref C_Uneven) (.ref C_BadRow) = some false)
    (kt_3_1 : PySem.W.subIn K (.ref C_Uneven) (.ref C_Misplaced) = some false)
    (kt_3_2 : PySem.W.subIn K (.ref C_Uneven) (.ref C_Twice) = some false)
    (kt_3_3 : PySem.W.subIn K (.ref C_Uneven) (.ref C_Uneven) = some true)
    (kt_3_4 : PySem.W.subIn K (.ref C_Uneven) (.ref C_TooMany) = some false)
    (kt_3_5 : PySem.W.subIn K (.ref C_Uneven) (.ref C_StoryError) = some true)
    (kt_4_0 : PySem.W.subIn K (.ref C_TooMany) (.ref C_BadRow) = some false)
    (kt_4_1 : PySem.W.subIn K (.ref C_TooMany) (.ref C_Misplaced) = some false)
    (kt_4_2 : PySem.W.subIn K (.ref C_TooMany) (.ref C_Twice) = some false)
    (kt_4_3 : PySem.W.subIn K (.ref C_TooMany) (.ref C_Uneven) = some false)
    (kt_4_4 : PySem.W.subIn K (.ref C_TooMany) (.ref C_TooMany) = some true)
    (kt_4_5 : PySem.W.subIn K (.ref C_TooMany) (.ref C_StoryError) = some true)
    (kt_5_0 : PySem.W.subIn K (.ref C_StoryError) (.ref C_BadRow) = some false)
    (kt_5_1 : PySem.W.subIn K (.ref C_StoryError) (.ref C_Misplaced) = some false)
    (kt_5_2 : PySem.W.subIn K (.ref C_StoryError) (.ref C_Twice) = some false)
    (kt_5_3 : PySem.W.subIn K (.ref C_StoryError) (.ref C_Uneven) = some false)
    (kt_5_4 : PySem.W.subIn K (.ref C_StoryError) (.ref C_TooMany) = some false)
    (kt_5_5 : PySem.W.subIn K (.ref C_StoryError) (.ref C_StoryError) = some true)
    (tf : PySem.W.typeIn K (.ref fx) = some (.type "function")) (hn : PySem.W.specialIn K (.builtin "object.__class__") "__get__" = some (some (.builtin "getset_descriptor.__get__"))) (ht : PySem.W.takesIn K (.builtin "object.__class__") = some true) (vV : PySem.W.findCls K (.type "ValueError") (.type "type") "__init__" = some (.val (.builtin "ValueError.__init__")))
    (lx : K.lookup fx = some ⟨ocx, odx, .func (PySem.W.fnOf "__init__" "StoryError.__init__" (defArgs s_StoryError___init__) (defBody s_StoryError___init__) (defScope s_StoryError___init__) .none kVx dcx pmx anx cdx ctx), slx⟩)
    (cx : PySem.W.codeIn K cdx "StoryError.__init__" = true) (kx : PySem.W.keepIn K (.ref fx) = true)
    (a0 : PySem.W.nsIn K mainGlobals "_law_drawn" = some (some (.ref f0)))
    (l0 : K.lookup f0 = some ⟨oc0, od0, .func (PySem.W.fnOf "_law_drawn" "_law_drawn" (defArgs s_drawn) (defBody s_drawn) (defScope s_drawn) .none kV0 dc0 pm0 an0 cd0 ct0), sl0⟩)
    (c0 : PySem.W.codeIn K cd0 "_law_drawn" = true) (k0 : PySem.W.keepIn K (.ref f0) = true)
    (a1 : PySem.W.nsIn K mainGlobals "_law_pick" = some (some (.ref f1)))
    (l1 : K.lookup f1 = some ⟨oc1, od1, .func (PySem.W.fnOf "_law_pick" "_law_pick" (defArgs s_pick) (defBody s_pick) (defScope s_pick) .none kV1 dc1 pm1 an1 cd1 ct1), sl1⟩)
    (c1 : PySem.W.codeIn K cd1 "_law_pick" = true) (k1 : PySem.W.keepIn K (.ref f1) = true)
    (a2 : PySem.W.nsIn K mainGlobals "_law_made" = some (some (.ref f2)))
    (l2 : K.lookup f2 = some ⟨oc2, od2, .func (PySem.W.fnOf "_law_made" "_law_made" (defArgs s_made) (defBody s_made) (defScope s_made) .none kV2 dc2 pm2 an2 cd2 ct2), sl2⟩)
    (c2 : PySem.W.codeIn K cd2 "_law_made" = true) (k2 : PySem.W.keepIn K (.ref f2) = true)
    (a3 : PySem.W.nsIn K mainGlobals "law" = some (some (.ref f3)))
    (l3 : K.lookup f3 = some ⟨oc3, od3, .func (PySem.W.fnOf "law" "law" (defArgs s_law) (defBody s_law) (defScope s_law) .none kV3 dc3 pm3 an3 cd3 ct3), sl3⟩)
    (c3 : PySem.W.codeIn K cd3 "law" = true) (k3 : PySem.W.keepIn K (.ref f3) = true)
    (z0 : PySem.W.nsIn K mainGlobals "ValueError" = some none)
    (z1 : PySem.W.nsIn K mainGlobals "int" = some none)
    (z2 : PySem.W.nsIn K mainGlobals "isinstance" = some none)
    (z3 : PySem.W.nsIn K mainGlobals "len" = some none)
    (z4 : PySem.W.nsIn K mainGlobals "list" = some none)
    (z5 : PySem.W.nsIn K mainGlobals "range" = some none) :
    ∃ fd : FuncData, (∀ (s : Shared) (v : Value), BindsTo s fd ⟨[v], []⟩ [("_law_script", v)]) ∧ ∀ base : Heap, K.In base → base.Ns mainGlobals mg → FnOk l.prog w K mg base CX0 4 fa fd ["_law_script"] (spLaw K) := by
  have e := hfa.symm.trans (PySem.W.mg_of X G a3)
  cases e
  have B : Blt mg := ⟨PySem.W.mg_none_of X G z0, PySem.W.mg_none_of X G z1, PySem.W.mg_none_of X G z2, PySem.W.mg_none_of X G z3, PySem.W.mg_none_of X G z4, PySem.W.mg_none_of X G z5⟩
  have E_BadRow : ExK K C_BadRow fx := ⟨⟨⟨_, _, _, _, _, _, _, _, _, _, _, _, _, _, _, lC_BadRow, rv_BadRow⟩, sa_BadRow, ex_BadRow, ty_BadRow, kc_BadRow⟩, in_BadRow, tf, ⟨ga_BadRow, gg_BadRow, ex_BadRow, hd_BadRow, cc_BadRow, hn, ht, hm_BadRow⟩, cls_some hd_BadRow⟩
  have E_Misplaced : ExK K C_Misplaced fx := ⟨⟨⟨_, _, _, _, _, _, _, _, _, _, _, _, _, _, _, lC_Misplaced, rv_Misplaced⟩, sa_Misplaced, ex_Misplaced, ty_Misplaced, kc_Misplaced⟩, in_Misplaced, tf, ⟨ga_Misplaced, gg_Misplaced, ex_Misplaced, hd_Misplaced, cc_Misplaced, hn, ht, hm_Misplaced⟩, cls_some hd_Misplaced⟩
  have E_Twice : ExK K C_Twice fx := ⟨⟨⟨_, _, _, _, _, _, _, _, _, _, _, _, _, _, _, lC_Twice, rv_Twice⟩, sa_Twice, ex_Twice, ty_Twice, kc_Twice⟩, in_Twice, tf, ⟨ga_Twice, gg_Twice, ex_Twice, hd_Twice, cc_Twice, hn, ht, hm_Twice⟩, cls_some hd_Twice⟩
  have E_Uneven : ExK K C_Uneven fx := ⟨⟨⟨_, _, _, _, _, _, _, _, _, _, _, _, _, _, _, lC_Uneven, rv_Uneven⟩, sa_Uneven, ex_Uneven, ty_Uneven, kc_Uneven⟩, in_Uneven, tf, ⟨ga_Uneven, gg_Uneven, ex_Uneven, hd_Uneven, cc_Uneven, hn, ht, hm_Uneven⟩, cls_some hd_Uneven⟩
  have E_TooMany : ExK K C_TooMany fx := ⟨⟨⟨_, _, _, _, _, _, _, _, _, _, _, _, _, _, _, lC_TooMany, rv_TooMany⟩, sa_TooMany, ex_TooMany, ty_TooMany, kc_TooMany⟩, in_TooMany, tf, ⟨ga_TooMany, gg_TooMany, ex_TooMany, hd_TooMany, cc_TooMany, hn, ht, hm_TooMany⟩, cls_some hd_TooMany⟩
  have E_StoryError : ExK K C_StoryError fx := ⟨⟨⟨_, _, _, _, _, _, _, _, _, _, _, _, _, _, _, lC_StoryError, rv_StoryError⟩, sa_StoryError, ex_StoryError, ty_StoryError, kc_StoryError⟩, in_StoryError, tf, ⟨ga_StoryError, gg_StoryError, ex_StoryError, hd_StoryError, cc_StoryError, hn, ht, hm_StoryError⟩, cls_some hd_StoryError⟩
  have T : Ex06 K mg (cls06 C_BadRow C_Misplaced C_Twice C_Uneven C_TooMany C_StoryError) fx := ⟨fun i hi => match i, hi with | 0, _ => E_BadRow | 1, _ => E_Misplaced | 2, _ => E_Twice | 3, _ => E_Uneven | 4, _ => E_TooMany | 5, _ => E_StoryError | n + 6, z => absurd z (by omega), fun i hi => match i, hi with | 0, _ => PySem.W.mg_of X G aC_BadRow | 1, _ => PySem.W.mg_of X G aC_Misplaced | 2, _ => PySem.W.mg_of X G aC_Twice | 3, _ => PySem.W.mg_of X G aC_Uneven | 4, _ => PySem.W.mg_of X G aC_TooMany | 5, _ => PySem.W.mg_of X G aC_StoryError | n + 6, z => absurd z (by omega), fun i hi => match i, hi with | 0, _ => nF_BadRow_place | 1, _ => nF_Misplaced_place | 2, _ => nF_Twice_place | 3, _ => nF_Uneven_place | 4, _ => nF_TooMany_place | 5, _ => nF_StoryError_place | n + 6, z => absurd z (by omega), fun i hi j hj => match i, hi, j, hj with | 0, _, 0, _ => kit_ref kt_0_0 kt_0_0 (cls_some hd_BadRow) ty_BadRow | 0, _, 1, _ => kit_ref kt_0_1 kt_0_0 (cls_some hd_Misplaced) ty_Misplaced | 0, _, 2, _ => kit_ref kt_0_2 kt_0_0 (cls_some hd_Twice) ty_Twice | 0, _, 3, _ => kit_ref kt_0_3 kt_0_0 (cls_some hd_Uneven) ty_Uneven | 0, _, 4, _ => kit_ref kt_0_4 kt_0_0 (cls_some hd_TooMany) ty_TooMany | 0, _, 5, _ => kit_ref kt_0_5 kt_0_0 (cls_some hd_StoryError) ty_StoryError | 1, _, 0, _ => kit_ref kt_1_0 kt_1_1 (cls_some hd_BadRow) ty_BadRow | 1, _, 1, _ => kit_ref kt_1_1 kt_1_1 (cls_some hd_Misplaced) ty_Misplaced | 1, _, 2, _ => kit_ref kt_1_2 kt_1_1 (cls_some hd_Twice) ty_Twice | 1, _, 3, _ => kit_ref kt_1_3 kt_1_1 (cls_some hd_Uneven) ty_Uneven | 1, _, 4, _ => kit_ref kt_1_4 kt_1_1 (cls_some hd_TooMany) ty_TooMany | 1, _, 5, _ => kit_ref kt_1_5 kt_1_1 (cls_some hd_StoryError) ty_StoryError | 2, _, 0, _ => kit_ref kt_2_0 kt_2_2 (cls_some hd_BadRow) ty_BadRow | 2, _, 1, _ => kit_ref kt_2_1 kt_2_2 (cls_some hd_Misplaced) ty_Misplaced | 2, _, 2, _ => kit_ref kt_2_2 kt_2_2 (cls_some hd_Twice) ty_Twice | 2, _, 3, _ => kit_ref kt_2_3 kt_2_2 (cls_some hd_Uneven) ty_Uneven | 2, _, 4, _ => kit_ref kt_2_4 kt_2_2 (cls_some hd_TooMany) ty_TooMany | 2, _, 5, _ => kit_ref kt_2_5 kt_2_2 (cls_some hd_StoryError) ty_StoryError | 3, _, 0, _ => kit_ref kt_3_0 kt_3_3 (cls_some hd_BadRow) ty_BadRow | 3, _, 1, _ => kit_ref kt_3_1 kt_3_3 (cls_some hd_Misplaced) ty_Misplaced | 3, _, 2, _ => kit_ref kt_3_2 kt_3_3 (cls_some hd_Twice) ty_Twice | 3, _, 3, _ => kit_ref kt_3_3 kt_3_3 (cls_some hd_Uneven) ty_Uneven | 3, _, 4, _ => kit_ref kt_3_4 kt_3_3 (cls_some hd_TooMany) ty_TooMany | 3, _, 5, _ => kit_ref kt_3_5 kt_3_3 (cls_some hd_StoryError) ty_StoryError | 4, _, 0, _ => kit_ref kt_4_0 kt_4_4 (cls_some hd_BadRow) ty_BadRow | 4, _, 1, _ => kit_ref kt_4_1 kt_4_4 (cls_some hd_Misplaced) ty_Misplaced | 4, _, 2, _ => kit_ref kt_4_2 kt_4_4 (cls_some hd_Twice) ty_Twice | 4, _, 3, _ => kit_ref kt_4_3 kt_4_4 (cls_some hd_Uneven) ty_Uneven | 4, _, 4, _ => kit_ref kt_4_4 kt_4_4 (cls_some hd_TooMany) ty_TooMany | 4, _, 5, _ => kit_ref kt_4_5 kt_4_4 (cls_some hd_StoryError) ty_StoryError | 5, _, 0, _ => kit_ref kt_5_0 kt_5_5 (cls_some hd_BadRow) ty_BadRow | 5, _, 1, _ => kit_ref kt_5_1 kt_5_5 (cls_some hd_Misplaced) ty_Misplaced | 5, _, 2, _ => kit_ref kt_5_2 kt_5_5 (cls_some hd_Twice) ty_Twice | 5, _, 3, _ => kit_ref kt_5_3 kt_5_5 (cls_some hd_Uneven) ty_Uneven | 5, _, 4, _ => kit_ref kt_5_4 kt_5_5 (cls_some hd_TooMany) ty_TooMany | 5, _, 5, _ => kit_ref kt_5_5 kt_5_5 (cls_some hd_StoryError) ty_StoryError | n + 6, z, _, _ => absurd z (by omega) | _, _, n + 6, z => absurd z (by omega), fun i hi => match i, hi with | 0, _ => kit_ve ve_BadRow | 1, _ => kit_ve ve_Misplaced | 2, _ => kit_ve ve_Twice | 3, _ => kit_ve ve_Uneven | 4, _ => kit_ve ve_TooMany | 5, _ => kit_ve ve_StoryError | n + 6, z => absurd z (by omega), vV⟩
  have Fx := fun_mk (st := s_StoryError___init__) lx cx kx
  have bx := Fx.binds (ps := ["self", "words", "place"]) fun _ _ _ _ _ _ us hl => match us, hl with | [_, _, _], _ => rfl
  have F0 := fun_mk (st := s_drawn) l0 c0 k0
  have b0 := F0.binds (ps := ["_law_script"]) fun _ _ _ _ _ _ us hl => match us, hl with | [_], _ => rfl
  have A_drawn : DefAt K mg "_law_drawn" s_drawn ["_law_script"] := ⟨_, _, F0, PySem.W.mg_of X G a0, b0⟩
  have F1 := fun_mk (st := s_pick) l1 c1 k1
  have b1 := F1.binds (ps := ["_law_draw", "_law_many"]) fun _ _ _ _ _ _ us hl => match us, hl with | [_, _], _ => rfl
  have A_pick : DefAt K mg "_law_pick" s_pick ["_law_draw", "_law_many"] := ⟨_, _, F1, PySem.W.mg_of X G a1, b1⟩
  have F2 := fun_mk (st := s_made) l2 c2 k2
  have b2 := F2.binds (ps := ["_law_which", "_law_words", "_law_place"]) fun _ _ _ _ _ _ us hl => match us, hl with | [_, _, _], _ => rfl
  have A_made : DefAt K mg "_law_made" s_made ["_law_which", "_law_words", "_law_place"] := ⟨_, _, F2, PySem.W.mg_of X G a2, b2⟩
  have F3 := fun_mk (st := s_law) l3 c3 k3
  exact ⟨PySem.W.fnOf "law" "law" (defArgs s_law) (defBody s_law) (defScope s_law) .none kV3 dc3 pm3 an3 cd3 ct3, fun s v => .of_eq rfl, fun base _ _ => ok_law F3 B T Fx bx A_drawn A_pick A_made⟩
end FB
open PySem PySem.W PyProof.Rows
set_option maxRecDepth 100000 in
set_option maxHeartbeats 0 in
theorem PySem.Challenge.cw_farbooks_k06_refusals_apart_holds : PySem.Challenge.rw_farbooks_k06_refusals_apart.Holds := by
  w_on; o_law; k_head; (case hw => w_witness2)
  k_fill
  refine L2.walk_of (l := PySem.Challenge.rw_farbooks_k06_refusals_apart) (n := 63) (k := 4) (x := "_law_script") (CX := fun _ => L2.CX0) (sp := fun w => FB.spLaw _) rfl (by decide) rfl ⟨rfl, by decide, by decide⟩ (fun w h Y => PySem.W.kIn_of Y) ?F (fun _ _ a ns hl _ hS => ⟨a, ns, rfl, hS, hl, fun _ => rfl⟩) (fun _ _ _ _ _ h => h)
  case F =>
    intro w mg fa h KX G hmg
    refine' FB.all_mk KX G hmg ?aC_BadRow ?lC_BadRow ?rv_BadRow ?sa_BadRow ?ex_BadRow ?ty_BadRow ?kc_BadRow ?in_BadRow ?ga_BadRow ?gg_BadRow ?hd_BadRow ?cc_BadRow ?hm_BadRow ?nF_BadRow_place ?ve_BadRow ?aC_Misplaced ?lC_Misplaced ?rv_Misplaced ?sa_Misplaced ?ex_Misplaced ?ty_Misplaced ?kc_Misplaced ?in_Misplaced ?ga_Misplaced ?gg_Misplaced ?hd_Misplaced ?cc_Misplaced ?hm_Misplaced ?nF_Misplaced_place ?ve_Misplaced ?aC_Twice ?lC_Twice ?rv_Twice ?sa_Twice ?ex_Twice ?ty_Twice ?kc_Twice ?in_Twice ?ga_Twice ?gg_Twice ?hd_Twice ?cc_Twice ?hm_Twice ?nF_Twice_place ?ve_Twice ?aC_Uneven ?lC_Uneven ?rv_Uneven ?sa_Uneven ?ex_Uneven ?ty_Uneven ?kc_Uneven ?in_Uneven ?ga_Uneven ?gg_Uneven ?hd_Uneven ?cc_Uneven ?hm_Uneven ?nF_Uneven_place ?ve_Uneven ?aC_TooMany ?lC_TooMany ?rv_TooMany ?sa_TooMany ?ex_TooMany ?ty_TooMany ?kc_TooMany ?in_TooMany ?ga_TooMany ?gg_TooMany ?hd_TooMany ?cc_TooMany ?hm_TooMany ?nF_TooMany_place ?ve_TooMany ?aC_StoryError ?lC_StoryError ?rv_StoryError ?sa_StoryError ?ex_StoryError ?ty_StoryError ?kc_StoryError ?in_StoryError ?ga_StoryError ?gg_StoryError ?hd_StoryError ?cc_StoryError ?hm_StoryError ?nF_StoryError_place ?ve_StoryError ?kt_0_0 ?kt_0_1 ?kt_0_2 ?kt_0_3 ?kt_0_4 ?kt_0_5 ?kt_1_0 ?kt_1_1 ?kt_1_2 ?kt_1_3 ?kt_1_4 ?kt_1_5 ?kt_2_0 ?kt_2_1 ?kt_2_2 ?kt_2_3 ?kt_2_4 ?kt_2_5 ?kt_3_0 ?kt_3_1 ?kt_3_2 ?kt_3_3 ?kt_3_4 ?kt_3_5 ?kt_4_0 ?kt_4_1 ?kt_4_2 ?kt_4_3 ?kt_4_4 ?kt_4_5 ?kt_5_0 ?kt_5_1 ?kt_5_2 ?kt_5_3 ?kt_5_4 ?kt_5_5 ?tf ?hn ?ht ?vV ?lx ?cx ?kx ?a0 ?l0 ?c0 ?k0 ?a1 ?l1 ?c1 ?k1 ?a2 ?l2 ?c2 ?k2 ?a3 ?l3 ?c3 ?k3 ?z0 ?z1 ?z2 ?z3 ?z4 ?z5
    (case aC_BadRow => k_is); (case lC_BadRow => k_is); (case rv_BadRow => rfl); (case sa_BadRow => k_is); (case ex_BadRow => k_is); (case ty_BadRow => k_is)
    (case kc_BadRow => k_is); (case in_BadRow => k_is); (case ga_BadRow => k_is); (case gg_BadRow => k_is); (case hd_BadRow => k_is); (case cc_BadRow => k_is)
    (case hm_BadRow => k_is); (case nF_BadRow_place => k_is); (case ve_BadRow => k_is); (case aC_Misplaced => k_is); (case lC_Misplaced => k_is); (case rv_Misplaced => rfl)
    (case sa_Misplaced => k_is); (case ex_Misplaced => k_is); (case ty_Misplaced => k_is); (case kc_Misplaced => k_is); (case in_Misplaced => k_is); (case ga_Misplaced => k_is)
    (case gg_Misplaced => k_is); (case hd_Misplaced => k_is); (case cc_Misplaced => k_is); (case hm_Misplaced => k_is); (case nF_Misplaced_place => k_is); (case ve_Misplaced => k_is)
    (case aC_Twice => k_is); (case lC_Twice => k_is); (case rv_Twice => rfl); (case sa_Twice => k_is); (case ex_Twice => k_is); (case ty_Twice => k_is)
    (case kc_Twice => k_is); (case in_Twice => k_is); (case ga_Twice => k_is); (case gg_Twice => k_is); (case hd_Twice => k_is); (case cc_Twice => k_is)
    (case hm_Twice => k_is); (case nF_Twice_place => k_is); (case ve_Twice => k_is); (case aC_Uneven => k_is); (case lC_Uneven => k_is); (case rv_Uneven => rfl)
    (case sa_Uneven => k_is); (case ex_Uneven => k_is); (case ty_Uneven => k_is); (case kc_Uneven => k_is); (case in_Uneven => k_is); (case ga_Uneven => k_is)
    (case gg_Uneven => k_is); (case hd_Uneven => k_is); (case cc_Uneven => k_is); (case hm_Uneven => k_is); (case nF_Uneven_place => k_is); (case ve_Uneven => k_is)
    (case aC_TooMany => k_is); (case lC_TooMany => k_is); (case rv_TooMany => rfl); (case sa_TooMany => k_is); (case ex_TooMany => k_is); (case ty_TooMany => k_is)
    (case kc_TooMany => k_is); (case in_TooMany => k_is); (case ga_TooMany => k_is); (case gg_TooMany => k_is); (case hd_TooMany => k_is); (case cc_TooMany => k_is)
    (case hm_TooMany => k_is); (case nF_TooMany_place => k_is); (case ve_TooMany => k_is); (case aC_StoryError => k_is); (case lC_StoryError => k_is); (case rv_StoryError => rfl)
    (case sa_StoryError => k_is); (case ex_StoryError => k_is); (case ty_StoryError => k_is); (case kc_StoryError => k_is); (case in_StoryError => k_is); (case ga_StoryError => k_is)
    (case gg_StoryError => k_is); (case hd_StoryError => k_is); (case cc_StoryError => k_is); (case hm_StoryError => k_is); (case nF_StoryError_place => k_is); (case ve_StoryError => k_is)
    (case kt_0_0 => k_is); (case kt_0_1 => k_is); (case kt_0_2 => k_is); (case kt_0_3 => k_is); (case kt_0_4 => k_is); (case kt_0_5 => k_is)
    (case kt_1_0 => k_is); (case kt_1_1 => k_is); (case kt_1_2 => k_is); (case kt_1_3 => k_is); (case kt_1_4 => k_is); (case kt_1_5 => k_is)
    (case kt_2_0 => k_is); (case kt_2_1 => k_is); (case kt_2_2 => k_is); (case kt_2_3 => k_is); (case kt_2_4 => k_is); (case kt_2_5 => k_is)
    (case kt_3_0 => k_is); (case kt_3_1 => k_is); (case kt_3_2 => k_is); (case kt_3_3 => k_is); (case kt_3_4 => k_is); (case kt_3_5 => k_is)
    (case kt_4_0 => k_is); (case kt_4_1 => k_is); (case kt_4_2 => k_is); (case kt_4_3 => k_is); (case kt_4_4 => k_is); (case kt_4_5 => k_is)
    (case kt_5_0 => k_is); (case kt_5_1 => k_is); (case kt_5_2 => k_is); (case kt_5_3 => k_is); (case kt_5_4 => k_is); (case kt_5_5 => k_is)
    (case tf => k_is); (case hn => k_is); (case ht => k_is); (case vV => k_is); (case lx => k_is); (case cx => k_is)
    (case kx => k_is); (case a0 => k_is); (case l0 => k_is); (case c0 => k_is); (case k0 => k_is); (case a1 => k_is)
    (case l1 => k_is); (case c1 => k_is); (case k1 => k_is); (case a2 => k_is); (case l2 => k_is); (case c2 => k_is)
    (case k2 => k_is); (case a3 => k_is); (case l3 => k_is); (case c3 => k_is); (case k3 => k_is); (case z0 => k_is)
    (case z1 => k_is); (case z2 => k_is); (case z3 => k_is); (case z4 => k_is); (case z5 => k_is)
