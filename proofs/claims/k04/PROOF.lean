import PyProof.Rows.All
import Wide.All
import OpenK.AllK
import Wide.FinOn
import HandS.ForMost
import HandS.IsInst
import HandS.Zip
import PySem.Challenge.RW_farbooks_k04_every_key_kept
set_option Elab.async false
set_option linter.all false
set_option maxRecDepth 100000
set_option maxHeartbeats 4000000
namespace FB
open PySem PySem.Spec PyProof.Rows L2

/-! ### a def that is called by its name -/
def DefOk (P : Program) (w : World) (K : PySem.W.Frag) (mg : Str → Option Value) (base : Heap) (k : Nat) (x : Str) (ps : List Str) (sp : Sp) : Prop :=
  ∃ f fd, FnOk P w K mg base CX0 k f fd ps sp ∧ mg x = some (.ref f) ∧ PySem.W.keepIn K (.ref f) = true ∧ L2.Binds K fd ps []
theorem pe_def {X : Cx} {k : Nat} {x : Str} {ps : List Str} {sp : Sp} {e : Expr} {es : List Expr} {t : TA} {p pos : Pos} (D : DefOk X.prog X.w X.K X.mg X.base k x ps sp) (hr : Room k X.A) (hg : Gl X x) (ha : PA X (e :: es) t)
    (hd : (x == ("__debug__" : Str)) = false := by decide) (hs : starEach (e :: es) X.env = (false, eval e X.env) :: starEach es X.env := by rfl) (hpl : (backTo pos (starEach es X.env)).any (·.1) = false := by rfl) :
    PE X (.Call (.Name x p) (e :: es) [] pos) (tCall sp [] E0 t) := by
  obtain ⟨f, fd, F, hm, hk, hb⟩ := D
  exact pe_call F hr hg hm hk hb .nil pass0 ha hd hs hpl
theorem pe_def0 {X : Cx} {k : Nat} {x : Str} {ps : List Str} {sp : Sp} {p pos : Pos} (D : DefOk X.prog X.w X.K X.mg X.base k x ps sp) (hr : Room k X.A) (hg : Gl X x)
    (hd : (x == ("__debug__" : Str)) = false := by decide) : PE X (.Call (.Name x p) [] [] pos) (tCall sp [] E0 tNil) := by
  obtain ⟨f, fd, F, hm, hk, hb⟩ := D
  exact pe_call0 F hr hg hm hk hb .nil pass0 hd
/-- where a def of the text stands -/
def DefAt (K : PySem.W.Frag) (mg : Str → Option Value) (x : Str) (st : Stmt) (ps : List Str) : Prop :=
  ∃ f fd, Fun K x x st f fd ∧ mg x = some (.ref f) ∧ L2.Binds K fd ps []
theorem DefAt.ok {P : Program} {w : World} {K : PySem.W.Frag} {mg : Str → Option Value} {base : Heap} {k : Nat} {x : Str} {st : Stmt} {ps : List Str} {sp : Sp} (A : DefAt K mg x st ps)
    (h : ∀ f fd, Fun K x x st f fd → FnOk P w K mg base CX0 k f fd ps sp) : DefOk P w K mg base k x ps sp := by
  obtain ⟨f, fd, F, hm, hb⟩ := A
  exact ⟨f, fd, h f fd F, hm, F.kp, hb⟩

/-! ### heaps -/
/-- all but what stands at d stays -/
def Keep (d : Addr) (H H' : Hp) : Prop := ∀ b o, H b = some o → b ≠ d → H' b = some o
theorem Keep.refl (d : Addr) (H : Hp) : Keep d H H := fun _ _ h _ => h
theorem Keep.trans {d : Addr} {H H1 H2 : Hp} (a : Keep d H H1) (b : Keep d H1 H2) : Keep d H H2 := fun c o h n => b c o (a c o h n) n
theorem keep_same {d : Addr} {H H' : Hp} (e : Same H H') : Keep d H H' := fun b o h _ => e b o h
theorem same_new {H : Hp} {p : Addr} {o : HO} (h : H p = none) : Same H (upd H p o) := fun b x e => by
  rw [upd_ne (ne_of_none e h)]
  exact e
theorem keep_upd {d : Addr} {H : Hp} {o : HO} : Keep d H (upd H d o) := fun b x e n => by
  rw [upd_ne n]
  exact e
theorem upd_self {H : Hp} {d : Addr} {o : HO} (h : H d = some o) : upd H d o = H := by
  funext b
  unfold upd
  split
  · rename_i e
    rw [e, h]
  · rfl
/-- what is not there before the change was not there -/
theorem keep_free {d : Addr} {H H' : Hp} (k : Keep d H H') (hd : ∃ o, H' d = some o) {l : Addr} (h : H' l = none) : H l = none := by
  cases q : H l with
  | none => rfl
  | some o =>
    by_cases e : l = d
    · subst e
      obtain ⟨o', ho⟩ := hd
      rw [ho] at h
      cases h
    · rw [k l o q e] at h
      cases h

/-! ### dicts -/
theorem dget_of {H : Hp} {a : Addr} {kvs : List (Key × V)} {k : Key} {v : V} (e : H a = some (.dK kvs)) (h : valV kvs k = some v) : DGet H a (kV k) (some v) := by
  have q := DGet.k (k := k) e
  rw [h] at q
  exact q
theorem dput_of {H : Hp} {a : Addr} {kvs kvs' : List (Key × V)} {k : Key} {v : V} (e : H a = some (.dK kvs)) (hl : kvs.length < sizeLine) (h : putK kvs k v = kvs') : DPut H a (kV k) v (upd H a (.dK kvs')) := by
  have q := DPut.k (k := k) (v := v) e hl
  rw [h] at q
  exact q

/-! ### the draws -/
abbrev tk (x : Str) : Key := Sum.inr x
def drawKvs (c : Addr) (a l n : Int) (g : Bool) : List (Key × V) :=
  [(tk "cells", .ref c), (tk "at", .int a), (tk "left", .int l), (tk "number", .int n), (tk "digits", .bl g)]
theorem s_ca : ¬ ("cells" : Str) = "at" := by decide +kernel
theorem k_ca : ¬ tk "cells" = tk "at" := fun z => s_ca (Sum.inr.inj z)
theorem s_cl : ¬ ("cells" : Str) = "left" := by decide +kernel
theorem k_cl : ¬ tk "cells" = tk "left" := fun z => s_cl (Sum.inr.inj z)
theorem s_cn : ¬ ("cells" : Str) = "number" := by decide +kernel
theorem k_cn : ¬ tk "cells" = tk "number" := fun z => s_cn (Sum.inr.inj z)
theorem s_cd : ¬ ("cells" : Str) = "digits" := by decide +kernel
theorem k_cd : ¬ tk "cells" = tk "digits" := fun z => s_cd (Sum.inr.inj z)
theorem s_ac : ¬ ("at" : Str) = "cells" := by decide +kernel
theorem k_ac : ¬ tk "at" = tk "cells" := fun z => s_ac (Sum.inr.inj z)
theorem s_al : ¬ ("at" : Str) = "left" := by decide +kernel
theorem k_al : ¬ tk "at" = tk "left" := fun z => s_al (Sum.inr.inj z)
theorem s_an : ¬ ("at" : Str) = "number" := by decide +kernel
theorem k_an : ¬ tk "at" = tk "number" := fun z => s_an (Sum.inr.inj z)
theorem s_ad : ¬ ("at" : Str) = "digits" := by decide +kernel
theorem k_ad : ¬ tk "at" = tk "digits" := fun z => s_ad (Sum.inr.inj z)
theorem s_lc : ¬ ("left" : Str) = "cells" := by decide +kernel
theorem k_lc : ¬ tk "left" = tk "cells" := fun z => s_lc (Sum.inr.inj z)
theorem s_la : ¬ ("left" : Str) = "at" := by decide +kernel
theorem k_la : ¬ tk "left" = tk "at" := fun z => s_la (Sum.inr.inj z)
theorem s_ln : ¬ ("left" : Str) = "number" := by decide +kernel
theorem k_ln : ¬ tk "left" = tk "number" := fun z => s_ln (Sum.inr.inj z)
theorem s_ld : ¬ ("left" : Str) = "digits" := by decide +kernel
theorem k_ld : ¬ tk "left" = tk "digits" := fun z => s_ld (Sum.inr.inj z)
theorem s_nc : ¬ ("number" : Str) = "cells" := by decide +kernel
theorem k_nc : ¬ tk "number" = tk "cells" := fun z => s_nc (Sum.inr.inj z)
theorem s_na : ¬ ("number" : Str) = "at" := by decide +kernel
theorem k_na : ¬ tk "number" = tk "at" := fun z => s_na (Sum.inr.inj z)
theorem s_nl : ¬ ("number" : Str) = "left" := by decide +kernel
theorem k_nl : ¬ tk "number" = tk "left" := fun z => s_nl (Sum.inr.inj z)
theorem s_nd : ¬ ("number" : Str) = "digits" := by decide +kernel
theorem k_nd : ¬ tk "number" = tk "digits" := fun z => s_nd (Sum.inr.inj z)
theorem s_dc : ¬ ("digits" : Str) = "cells" := by decide +kernel
theorem k_dc : ¬ tk "digits" = tk "cells" := fun z => s_dc (Sum.inr.inj z)
theorem s_da : ¬ ("digits" : Str) = "at" := by decide +kernel
theorem k_da : ¬ tk "digits" = tk "at" := fun z => s_da (Sum.inr.inj z)
theorem s_dl : ¬ ("digits" : Str) = "left" := by decide +kernel
theorem k_dl : ¬ tk "digits" = tk "left" := fun z => s_dl (Sum.inr.inj z)
theorem s_dn : ¬ ("digits" : Str) = "number" := by decide +kernel
theorem k_dn : ¬ tk "digits" = tk "number" := fun z => s_dn (Sum.inr.inj z)
section
variable {H : Hp} {d c : Addr} {a l n v : Int} {g : Bool}
theorem dg_cells : DGet (upd H d (.dK (drawKvs c a l n g))) d (.str "cells") (some (.ref c)) := dget_of (k := tk "cells") upd_same (valV_pos rfl)
theorem dg_at : DGet (upd H d (.dK (drawKvs c a l n g))) d (.str "at") (some (.int a)) := dget_of (k := tk "at") upd_same ((valV_neg k_ca).trans (valV_pos rfl))
theorem dg_left : DGet (upd H d (.dK (drawKvs c a l n g))) d (.str "left") (some (.int l)) := dget_of (k := tk "left") upd_same ((valV_neg k_cl).trans ((valV_neg k_al).trans (valV_pos rfl)))
theorem dg_number : DGet (upd H d (.dK (drawKvs c a l n g))) d (.str "number") (some (.int n)) := dget_of (k := tk "number") upd_same ((valV_neg k_cn).trans ((valV_neg k_an).trans ((valV_neg k_ln).trans (valV_pos rfl))))
theorem dg_digits : DGet (upd H d (.dK (drawKvs c a l n g))) d (.str "digits") (some (.bl g)) := dget_of (k := tk "digits") upd_same ((valV_neg k_cd).trans ((valV_neg k_ad).trans ((valV_neg k_ld).trans ((valV_neg k_nd).trans (valV_pos rfl)))))
theorem put_at : putK (drawKvs c a l n g) (tk "at") (.int v) = drawKvs c v l n g := by
  unfold putK drawKvs
  rw [if_pos (by simp)]
  simp only [List.map_cons, List.map_nil, k_ca, k_la, k_na, k_da, if_false, if_true]
theorem put_left : putK (drawKvs c a l n g) (tk "left") (.int v) = drawKvs c a v n g := by
  unfold putK drawKvs
  rw [if_pos (by simp)]
  simp only [List.map_cons, List.map_nil, k_cl, k_al, k_nl, k_dl, if_false, if_true]
theorem put_number : putK (drawKvs c a l n g) (tk "number") (.int v) = drawKvs c a l v g := by
  unfold putK drawKvs
  rw [if_pos (by simp)]
  simp only [List.map_cons, List.map_nil, k_cn, k_an, k_ln, k_dn, if_false, if_true]
theorem five : (drawKvs c a l n g).length < sizeLine := by
  show 5 < sizeLine
  decide
theorem dp_at : DPut (upd H d (.dK (drawKvs c a l n g))) d (.str "at") (.int v) (upd H d (.dK (drawKvs c v l n g))) := by
  have q := dput_of (k := tk "at") (v := .int v) (upd_same (H := H) (a := d) (o := .dK (drawKvs c a l n g))) five put_at
  rw [upd_upd] at q
  exact q
theorem dp_left : DPut (upd H d (.dK (drawKvs c a l n g))) d (.str "left") (.int v) (upd H d (.dK (drawKvs c a v n g))) := by
  have q := dput_of (k := tk "left") (v := .int v) (upd_same (H := H) (a := d) (o := .dK (drawKvs c a l n g))) five put_left
  rw [upd_upd] at q
  exact q
theorem dp_number : DPut (upd H d (.dK (drawKvs c a l n g))) d (.str "number") (.int v) (upd H d (.dK (drawKvs c a l v g))) := by
  have q := dput_of (k := tk "number") (v := .int v) (upd_same (H := H) (a := d) (o := .dK (drawKvs c a l n g))) five put_number
  rw [upd_upd] at q
  exact q
end
/-- a draw's dict stands at d, its cells at c, at most n draws were mixed -/
def DrawAt (H : Hp) (d c : Addr) (cs : List Int) (n : Nat) : Prop := ∃ (a l m : Int) (g : Bool), H d = some (.dK (drawKvs c a l m g)) ∧ H c = some (.lst (cs.map V.int)) ∧ 0 < cs.length ∧ cs.length ≤ 64 ∧ 0 ≤ a ∧ a ≤ n
section
variable {H H' : Hp} {d c p : Addr} {cs : List Int} {n m : Nat} {o : HO}
theorem DrawAt.mono (h : DrawAt H d c cs n) (e : n ≤ m) : DrawAt H d c cs m := by
  obtain ⟨a, l, k, g, h1, h2, h3, h4, h5, h6⟩ := h
  exact ⟨a, l, k, g, h1, h2, h3, h4, h5, by omega⟩
theorem DrawAt.same (h : DrawAt H d c cs n) (e : Same H H') : DrawAt H' d c cs n := by
  obtain ⟨a, l, k, g, h1, h2, h3⟩ := h
  exact ⟨a, l, k, g, e _ _ h1, e _ _ h2, h3⟩
theorem DrawAt.is (h : DrawAt H d c cs n) : ∃ kvs, H d = some (.dK kvs) := by
  obtain ⟨a, l, k, g, h1, _⟩ := h
  exact ⟨_, h1⟩
theorem DrawAt.cells (h : DrawAt H d c cs n) : H c = some (.lst (cs.map V.int)) := by
  obtain ⟨a, l, k, g, h1, h2, _⟩ := h
  exact h2
theorem DrawAt.ne (h : DrawAt H d c cs n) (hp : H p = none) : p ≠ d := by
  obtain ⟨kvs, e⟩ := h.is
  exact (ne_of_none e hp).symm
theorem DrawAt.neC (h : DrawAt H d c cs n) (hp : H p = none) : p ≠ c := (ne_of_none h.cells hp).symm
/-- another object is written -/
theorem DrawAt.upd (h : DrawAt H d c cs n) (h1 : p ≠ d) (h2 : p ≠ c) : DrawAt (L2.upd H p o) d c cs n := by
  obtain ⟨a, l, k, g, e1, e2, h3⟩ := h
  exact ⟨a, l, k, g, by rw [upd_ne h1.symm]; exact e1, by rw [upd_ne h2.symm]; exact e2, h3⟩
theorem keep_mut (k : Keep d H H') (h : H p = none) : Keep d H (L2.upd H' p o) := fun b x e nb => by
  rw [upd_ne (ne_of_none e h)]
  exact k b x e nb
end
theorem at_mod {cs : List Int} (h : 0 < cs.length) (k : Int) : ∃ z, atI (cs.map V.int) (k % ((cs.map V.int).length : Int)) = some (.int z) := by
  have h0 : (0 : Int) < ((cs.map V.int).length : Int) := by
    rw [List.length_map]
    omega
  have h1 := Int.emod_nonneg k (by omega : ((cs.map V.int).length : Int) ≠ 0)
  have h2 := Int.emod_lt_of_pos k h0
  obtain ⟨j, hj⟩ : ∃ j : Nat, k % ((cs.map V.int).length : Int) = (j : Int) := ⟨_, (Int.toNat_of_nonneg h1).symm⟩
  rw [hj] at h2 ⊢
  have hl : j < (cs.map V.int).length := by omega
  have hl2 : j < cs.length := by
    rw [List.length_map] at hl
    exact hl
  exact ⟨cs[j], atI_nat (by rw [List.getElem?_map, List.getElem?_eq_getElem hl2]; rfl)⟩
/-- a draw: a number below m comes, the draw's dict has changed, nothing else -/
def spPick : Sp := fun vs H Q _ => ∃ (d c : Addr) (cs : List Int) (n : Nat) (m : Int), vs = [.ref d, .int m] ∧ DrawAt H d c cs n ∧ 0 < m ∧ m < 1073741824 ∧ n < 1000000000 ∧
  ∀ (v : Int) (H' : Hp), 0 ≤ v → v < m → DrawAt H' d c cs (n + 1) → Keep d H H' → Q (.int v) H'
end FB

namespace FB
open PySem PySem.Spec PyProof.Rows L2
/-! ### data -/
theorem dpall_int {K : PySem.W.Frag} {H : Hp} : ∀ ns : List Int, DpAll K H (ns.map V.int) (ns.map PyData.int)
  | [] => .nil
  | n :: ns => .cons (.int n) (dpall_int ns)
theorem canlay_int : ∀ ns : List Int, PyData.canLayAll0 (ns.map PyData.int) = true
  | [] => rfl
  | n :: ns => by
    show (PyData.canLay0 (.int n) && PyData.canLayAll0 (ns.map PyData.int)) = true
    rw [canlay_int ns]
    rfl
theorem depth_int : ∀ ns : List Int, PyData.depthAll (ns.map PyData.int) ≤ 1
  | [] => by decide
  | n :: ns => by
    have h := depth_int ns
    simp only [List.map_cons, PyData.depthAll, PyData.depth]
    omega
theorem shaped_ints (ns : List Int) : SeqAt.shaped (.list (ns.map PyData.int)) = true := by
  unfold SeqAt.shaped
  have h1 : PyData.canLay0 (.list (ns.map PyData.int)) = true := canlay_int ns
  have h2 := depth_int ns
  rw [h1, decide_eq_true (show (PyData.list (ns.map PyData.int)).depth ≤ 64 by simp only [PyData.depth]; omega)]
  rfl
theorem merge_draw (c : Addr) (a l n : Int) (g : Bool) : mergeK [] (drawKvs c a l n g) = drawKvs c a l n g := by
  unfold mergeK drawKvs
  simp only [List.foldl_cons, List.foldl_nil]
  rw [putK_new (kvs := []) _ rfl]
  rw [putK_new (k := tk "at") _ (by simp only [List.nil_append]; exact (valV_neg k_ca).trans rfl)]
  rw [putK_new (k := tk "left") _ (by simp only [List.nil_append, List.cons_append]; exact (valV_neg k_cl).trans ((valV_neg k_al).trans rfl))]
  rw [putK_new (k := tk "number") _ (by simp only [List.nil_append, List.cons_append]; exact (valV_neg k_cn).trans ((valV_neg k_an).trans ((valV_neg k_ln).trans rfl)))]
  rw [putK_new (k := tk "digits") _ (by simp only [List.nil_append, List.cons_append]; exact (valV_neg k_cd).trans ((valV_neg k_ad).trans ((valV_neg k_ld).trans ((valV_neg k_nd).trans rfl))))]
  rfl
def spDrawn (K : PySem.W.Frag) : Sp := fun vs H Q _ => ∃ (a : Addr) (ns : List Int), vs = [.ref a] ∧ SqL K H a (ns.map V.int) ∧ ns.length ≤ 63 ∧
  ∀ (d c : Addr) (cs : List Int) (H' : Hp), Same H H' → H d = none → DrawAt H' d c cs 0 → Q (.ref d) H'

/-! ### texts -/
def ltS (a b : Str) : Bool := decide (a.cps.toList < b.cps.toList)
/-- whether the span (l, h) has the key k -/
def hasB (l h k : Str) : Bool := !ltS k l && (decide (V.str h = V.str "") || ltS k h)
def IsKey (z : Str) : Prop := 0 < z.length ∧ z.length ≤ 8 ∧ ∀ c ∈ z.cps.toList, 97 ≤ c ∧ c ≤ 122
def spKey : Sp := fun vs H Q _ => ∃ (d c : Addr) (cs : List Int) (n : Nat), vs = [.ref d] ∧ DrawAt H d c cs n ∧ n < 900000000 ∧ ∀ (z : Str) (H' : Hp), IsKey z → DrawAt H' d c cs (n + 11) → Keep d H H' → Q (.str z) H'
def spHas (K : PySem.W.Frag) : Sp := fun vs H Q _ => ∃ (p : Addr) (l h k : Str), vs = [.ref p, .str k] ∧ SqT K H p [.str l, .str h] ∧ Q (.bl (hasB l h k)) H
/-! ### spans -/
abbrev Sp3 := Addr × Str × Str
structure SpansAt (H : Hp) (a : Addr) (zs : List Sp3) : Prop where
  ls : H a = some (.lst (zs.map fun z => V.ref z.1))
  tp : ∀ z ∈ zs, H z.1 = some (.tup [.str z.2.1, .str z.2.2])
theorem SpansAt.keep {H H' : Hp} {a d : Addr} {zs : List Sp3} (h : SpansAt H a zs) (k : Keep d H H') (hd : ∃ kvs, H d = some (.dK kvs)) : SpansAt H' a zs := by
  obtain ⟨kvs, hd⟩ := hd
  exact ⟨k _ _ h.ls (ne_of h.ls hd (by intro z; cases z)), fun z hz => k _ _ (h.tp z hz) (ne_of (h.tp z hz) hd (by intro z; cases z))⟩
theorem SpansAt.same {H H' : Hp} {a : Addr} {zs : List Sp3} (h : SpansAt H a zs) (k : Same H H') : SpansAt H' a zs :=
  ⟨k _ _ h.ls, fun z hz => k _ _ (h.tp z hz)⟩
/-- the pairs of neighbours -/
def nexts : List Str → List (Str × Str)
  | x :: y :: r => (x, y) :: nexts (y :: r)
  | _ => []
def SpanList (zs : List Sp3) : Prop := ∃ ks : List Str, (∀ k ∈ ks, IsKey k) ∧ ks.Pairwise (fun a b => ltS a b = true) ∧ (zs.map (·.2)).Sublist (nexts (("" : Str) :: (ks ++ [("" : Str)]))) ∧ (∀ z ∈ zs, z.2 ≠ (("" : Str), ("a" : Str))) ∧ zs.length ≤ 30
def spSpans : Sp := fun vs H Q _ => ∃ (d c : Addr) (cs : List Int) (n : Nat) (m : Int), vs = [.ref d, .int m] ∧ DrawAt H d c cs n ∧ n < 900000000 - 1000 ∧ 0 < m ∧ m ≤ 20 ∧
  ∀ (l : Addr) (zs : List Sp3) (H' : Hp), SpanList zs → SpansAt H' l zs → DrawAt H' d c cs (n + 500) → Keep d H H' → H l = none → Q (.ref l) H'
def spSpanWith : Sp := fun vs H Q _ => ∃ (a : Addr) (zs : List Sp3) (k : Str), vs = [.ref a, .str k] ∧ SpansAt H a zs ∧
  Q (match zs.find? (fun z => hasB z.2.1 z.2.2 k) with | some z => .ref z.1 | none => .non) H
def spAsked : Sp := fun vs H Q _ => ∃ (d c : Addr) (cs : List Int) (n : Nat) (a : Addr) (zs : List Sp3), vs = [.ref d, .ref a] ∧ DrawAt H d c cs n ∧ n < 900000000 - 1000 ∧ SpansAt H a zs ∧ zs.length ≤ 30 ∧
  ∀ (l : Addr) (ks : List Str) (H' : Hp), (∃ ds : List Str, (∀ k ∈ ds, IsKey k) ∧ ks = ds ++ (zs.map fun z => [z.2.1, z.2.2].filter fun x => !decide (V.str x = V.str "")).flatten) → ks.length ≤ 100 → H' l = some (.lst (ks.map V.str)) → DrawAt H' d c cs (n + 200) → Keep d H H' → H l = none → Q (.ref l) H'
end FB

namespace FB
open PySem PySem.Spec PyProof.Rows L2
/-! ### the order of texts -/
theorem ltS_irrefl (a : Str) : ltS a a = false := decide_eq_false (List.lt_irrefl _)
theorem ltS_trans {a b c : Str} (h : ltS a b = true) (h' : ltS b c = true) : ltS a c = true := decide_eq_true (List.lt_trans (of_decide_eq_true h) (of_decide_eq_true h'))
theorem ltS_asymm {a b : Str} (h : ltS a b = true) : ltS b a = false := by
  cases e : ltS b a with
  | false => rfl
  | true => exact absurd (ltS_trans h e) (by rw [ltS_irrefl]; decide)
theorem ltS_tri {a b : Str} (h : ltS b a = false) (h' : a ≠ b) : ltS a b = true := by
  have h1 : ¬ b.cps.toList < a.cps.toList := of_decide_eq_false h
  apply decide_eq_true
  apply Decidable.byContradiction
  intro h2
  apply h'
  have e : a.cps.toList = b.cps.toList := List.le_antisymm (List.not_lt.mp h1) (List.not_lt.mp h2)
  cases a; cases b
  simp only [Str.mk.injEq]
  exact Array.toList_inj.mp e
theorem strict_of_rising : ∀ (p : Str) (l : List Str), risingS p l = true → (p :: l).Nodup → (p :: l).Pairwise (fun a b => ltS a b = true)
  | p, [], _, _ => by simp
  | p, x :: r, h, nd => by
    have h' : (!ltCps x.cps.toList p.cps.toList && risingS x r) = true := h
    rw [Bool.and_eq_true] at h'
    obtain ⟨h1, h2⟩ := h'
    have nd' := List.nodup_cons.mp nd
    have ih := strict_of_rising x r h2 nd'.2
    have hne : p ≠ x := fun e => nd'.1 (by rw [e]; simp)
    have hlt : ltS p x = true := by
      apply ltS_tri _ hne
      rw [ltCps_eq] at h1
      unfold ltS
      cases e : decide (x.cps.toList < p.cps.toList) with
      | false => rfl
      | true => rw [e] at h1; cases h1
    refine List.pairwise_cons.mpr ⟨fun y hy => ?_, ih⟩
    rcases List.mem_cons.mp hy with rfl | hy
    · exact hlt
    · exact ltS_trans hlt ((List.pairwise_cons.mp ih).1 y hy)
theorem strict_of_sorted (l : List Str) (h : sortedS l = true) (nd : l.Nodup) : l.Pairwise (fun a b => ltS a b = true) := by
  cases l with
  | nil => simp
  | cons p r => exact strict_of_rising p r h nd
theorem inV_str (z : Str) : ∀ ks : List Str, inV (.str z) (ks.map V.str) = decide (z ∈ ks)
  | [] => by simp [inV]
  | k :: r => by
    have ih := inV_str z r
    unfold inV at ih ⊢
    rw [List.map_cons, List.any_cons, ih]
    show ((k == z) || decide (z ∈ r)) = decide (z ∈ k :: r)
    by_cases e : k = z
    · subst e
      simp
    · have e2 : ¬ z = k := fun h => e h.symm
      simp [e, e2]
theorem flat_strs : ∀ ks : List Str, (ks.map V.str).all flatV = true
  | [] => rfl
  | k :: r => by
    rw [List.map_cons, List.all_cons, flat_strs r]
    rfl
theorem nexts_len : ∀ xs : List Str, (nexts xs).length = xs.length - 1
  | [] => rfl
  | [_] => rfl
  | x :: y :: r => by
    show (nexts (y :: r)).length + 1 = (y :: r).length + 1 - 1
    rw [nexts_len (y :: r)]
    simp
theorem nexts_get : ∀ (xs : List Str) (i : Nat) (x y : Str), xs[i]? = some x → xs[i + 1]? = some y → (nexts xs)[i]? = some (x, y)
  | [], _, _, _, h, _ => by simp at h
  | [_], 0, _, _, _, h => by simp at h
  | [_], i + 1, _, _, h, _ => by simp at h
  | a :: b :: r, 0, x, y, h, h2 => by
    have e1 : a = x := Option.some.inj h
    have e2 : b = y := Option.some.inj h2
    rw [← e1, ← e2]
    rfl
  | a :: b :: r, i + 1, x, y, h, h2 => nexts_get (b :: r) i x y h h2
theorem cut1 (xs : List V) : cutV xs (some 1) none = xs.drop 1 := by
  unfold cutV
  rw [show HT.sIx xs.length 0 (some 1) = min 1 xs.length from HT.sIx_nat xs.length 0 1, HT.sIx_none]
  cases xs with
  | nil => rfl
  | cons x r =>
    rw [show min 1 (x :: r).length = 1 by
      rw [List.length_cons]
      omega]
    show (List.take ((x :: r).length - 1) r) = r
    rw [List.length_cons, Nat.add_sub_cancel]
    exact List.take_length
/-- zip of two lists of any lengths: n turns -/
theorem for_zipG {K : PySem.W.Frag} {a b : Addr} {xs ys : List V} {g : TG} {tb : TS} {D : Ends} {σ : L2.St} {H : Hp} (n : Nat) (hx : n ≤ xs.length) (hy : n ≤ ys.length) (he : xs.length ≤ n ∨ ys.length ≤ n) (Pv : Nat → L2.St → Hp → Prop) (h0 : Pv 0 σ H) (hq : ∀ i σ H, Pv i σ H → SqL K H a xs ∧ SqL K H b ys)
    (hs : ∀ (i : Nat) (x y : V) (T : Addr) (σ : L2.St) (H : Hp), xs[i]? = some x → ys[i]? = some y → Pv i σ H → H T = none → g (.ref T) σ (upd H T (.tup [x, y])) fun σ2 H2 => tb { D with nx := Pv (i + 1), ct := Pv (i + 1), bk := D.nx } σ2 H2) (hd : ∀ σ H, Pv n σ H → D.nx σ H) :
    ∃ W : Nat → Nat → L2.St → Hp → Prop, (∃ m, W 0 m σ H) ∧ ∀ i m σ H, W i m σ H →
      ((Itz K a b).stop i H ∧ D.nx σ H) ∨ ((Itz K a b).go i H ∧ ∃ N : L2.St → Hp → Prop, (∀ σ' H', N σ' H' → ∃ m', m' < m ∧ W (i + 1) m' σ' H') ∧ ∀ v H', (Itz K a b).yld i H v H' → g v σ H' fun σ2 H2 => tb { D with nx := N, ct := N, bk := D.nx } σ2 H2) := by
  refine ⟨fun i m σ H => m = n - i ∧ i ≤ n ∧ Pv i σ H, ⟨n, rfl, Nat.zero_le _, h0⟩, ?_⟩
  rintro i m σ H ⟨rfl, hi, p⟩
  obtain ⟨qx, qy⟩ := hq i σ H p
  by_cases hlt : i < n
  · have h1 : xs[i]? = some (xs[i]'(by omega)) := List.getElem?_eq_getElem _
    have h2 : ys[i]? = some (ys[i]'(by omega)) := List.getElem?_eq_getElem _
    refine .inr ⟨⟨xs, ys, _, _, qx, qy, h1, h2⟩, Pv (i + 1), fun σ' H' p' => ⟨n - (i + 1), by omega, rfl, hlt, p'⟩, fun v H' y => ?_⟩
    obtain ⟨T, x', y', rfl, hT, rfl, f1, f2⟩ := y
    exact hs i x' y' T σ H (f1 xs qx) (f2 ys qy) p hT
  · have e : i = n := by omega
    subst e
    exact .inl ⟨⟨xs, ys, qx, qy, he⟩, hd σ H p⟩
/-! ### texts that are keys or empty -/
def KeyOr (z : Str) : Prop := z = "" ∨ IsKey z
theorem KeyOr.ok {z : Str} (h : KeyOr z) : PyData.strOk z = true := by
  rcases h with rfl | ⟨_, _, h⟩
  · decide +kernel
  · unfold PyData.strOk
    rw [Array.all_eq_true']
    intro c hc
    have := h c (Array.mem_toList_iff.mpr hc)
    exact decide_eq_true (by omega)
theorem shaped2 {x y : Str} (hx : KeyOr x) (hy : KeyOr y) : SeqAt.shaped (.tuple [.str x, .str y]) = true := by
  simp [SeqAt.shaped, PyData.canLay0, PyData.canLayAll0, PyData.depth, PyData.depthAll, hx.ok, hy.ok]
theorem key_a : KeyOr "a" := .inr (by unfold IsKey; decide +kernel)
theorem nexts_mem : ∀ (xs : List Str) (p : Str × Str), p ∈ nexts xs → p.1 ∈ xs ∧ p.2 ∈ xs
  | [], _, h => by simp [nexts] at h
  | [_], _, h => by simp [nexts] at h
  | a :: b :: r, p, h => by
    rcases List.mem_cons.mp h with rfl | h
    · simp
    · obtain ⟨h1, h2⟩ := nexts_mem (b :: r) p h
      exact ⟨List.mem_cons_of_mem _ h1, List.mem_cons_of_mem _ h2⟩
theorem full_keys {ys : List Str} (h : ∀ k ∈ ys, IsKey k) : ∀ z ∈ (("" : Str) :: (ys ++ [("" : Str)])), KeyOr z := fun z hz => by
  have : z = "" ∨ z ∈ ys ∨ z = "" := by simpa using hz
  rcases this with q | q | q
  · exact .inl q
  · exact .inr (h z q)
  · exact .inl q
theorem SpanList.keys {zs : List Sp3} (h : SpanList zs) : ∀ z ∈ zs, KeyOr z.2.1 ∧ KeyOr z.2.2 := fun z hz => by
  obtain ⟨ks, h1, _, h3, _⟩ := h
  have hm : z.2 ∈ nexts (("" : Str) :: (ks ++ [("" : Str)])) := h3.subset (List.mem_map.mpr ⟨z, hz, rfl⟩)
  obtain ⟨a, b⟩ := nexts_mem _ _ hm
  exact ⟨full_keys h1 _ a, full_keys h1 _ b⟩
end FB

namespace FB
open PySem PySem.Spec PyProof.Rows L2
/-! ### max of two and of three texts -/
section
variable {prog : Program} {w : World} {A : Around} {E : Value → Shared → Prop} {s : Shared}
theorem cmp_strs {P : Nat → Value → Prop} (val : Nat → Str) (hval : ∀ i v, P i v → ∃ t, v = .str (val i) t) : CmpOf prog w A .Gt P (fun i j => ltS (val j) (val i)) := fun i j vi vj s Q E hi hj h => by
  obtain ⟨t, rfl⟩ := hval i vi hi
  obtain ⟨u, rfl⟩ := hval j vj hj
  exact PySem.P.gt_str (t := t) (u := u) h
theorem max_two_strs {a b : Str} {t u : Tok} {Q : Value → Shared → Prop} (hh : A.handled = none)
    (h : ∀ h' tk, (∀ c o, s.heap.get? c = some o → h'.get? c = some o) → Q (if ltS a b = true then .str b u else .str a t) { s with heap := h', toks := tk }) :
    wpAny (model prog w) A (call (.builtin "max") [.str a t, .str b u]) Q E s := by
  have hT : (s.heap.push { cls := .type "tuple", data := .seq #[.str a t, .str b u] }).IsTuple s.heap.objs.size #[.str a t, .str b u] := ⟨_, Heap.get?_push_size _ rfl, rfl, 0, rfl⟩
  refine call_max_two (wpAny_pyIter_tuple hT ?_)
  have hsz : (s.heap.push { cls := .type "tuple", data := .seq #[.str a t, .str b u] }).objs.size = s.heap.objs.size + 1 := Heap.size_push ..
  refine ⟨_, [_, s.heap.objs.size], [_], _, _, _, _, rfl, Walks.tuple (A := A.in1) hh _ s.heap.objs.size (by rw [hsz]; exact Nat.ne_of_lt (Nat.lt_succ_self _)) #[.str a t, .str b u],
    ⟨⟨_, Heap.get?_push_size _ rfl, rfl, rfl⟩, hT.push _⟩, fun c hc => ?_, by simp, cmp_strs (fun i => if i = 0 then a else b) (fun i v hv => ?_), fun v h' tk hP hk => ?_⟩
  · show c < ((s.heap.push _).push _).objs.size
    rw [Heap.size_push, hsz]
    rcases List.mem_cons.mp hc with rfl | hc
    · rw [hsz]; exact Nat.lt_succ_self _
    · rcases List.mem_cons.mp hc with rfl | hc
      · exact Nat.lt_succ_of_lt (Nat.lt_succ_self _)
      · cases hc
  · match i, hv with
    | 0, hv => exact ⟨t, by simpa using hv.symm⟩
    | 1, hv => exact ⟨u, by simpa using hv.symm⟩
    | n + 2, hv => simp at hv
  · have hold : ∀ d o, s.heap.get? d = some o → h'.get? d = some o := fun d o e => by
      refine hk d o (fun hm => ?_) (Heap.get?_push_of_some _ (Heap.get?_push_of_some _ e))
      rcases List.mem_cons.mp hm with e1 | hm
      · have := Heap.lt_size e; rw [e1, hsz] at this; exact Nat.lt_irrefl _ (Nat.lt_of_succ_lt this)
      · cases hm
    have := h h' tk hold
    have hv : v = if ltS a b = true then Value.str b u else Value.str a t := by
      have hP' : (#[Value.str a t, .str b u])[argBest (fun i j => ltS (if j = 0 then a else b) (if i = 0 then a else b)) 1]? = some v := hP
      by_cases hba : ltS a b = true
      · have e : argBest (fun i j => ltS (if j = 0 then a else b) (if i = 0 then a else b)) 1 = 1 := by simp [argBest, hba]
        rw [e] at hP'
        simpa [hba] using hP'.symm
      · have e : argBest (fun i j => ltS (if j = 0 then a else b) (if i = 0 then a else b)) 1 = 0 := by simp [argBest, hba]
        rw [e] at hP'
        simpa [hba] using hP'.symm
    rw [hv]
    exact this
theorem max_three_strs {a b c : Str} {t u x : Tok} {Q : Value → Shared → Prop} (hh : A.handled = none)
    (h : ∀ h' tk, (∀ d o, s.heap.get? d = some o → h'.get? d = some o) → Q (if ltS a b = true then (if ltS b c = true then .str c x else .str b u) else (if ltS a c = true then .str c x else .str a t)) { s with heap := h', toks := tk }) :
    wpAny (model prog w) A (call (.builtin "max") [.str a t, .str b u, .str c x]) Q E s := by
  have hT : (s.heap.push { cls := .type "tuple", data := .seq #[.str a t, .str b u, .str c x] }).IsTuple s.heap.objs.size #[.str a t, .str b u, .str c x] := ⟨_, Heap.get?_push_size _ rfl, rfl, 0, rfl⟩
  refine call_max_three (wpAny_pyIter_tuple hT ?_)
  have hsz : (s.heap.push { cls := .type "tuple", data := .seq #[.str a t, .str b u, .str c x] }).objs.size = s.heap.objs.size + 1 := Heap.size_push ..
  refine ⟨_, [_, s.heap.objs.size], [_], _, _, _, _, rfl, Walks.tuple (A := A.in1) hh _ s.heap.objs.size (by rw [hsz]; exact Nat.ne_of_lt (Nat.lt_succ_self _)) #[.str a t, .str b u, .str c x],
    ⟨⟨_, Heap.get?_push_size _ rfl, rfl, rfl⟩, hT.push _⟩, fun d hd => ?_, by simp, cmp_strs (fun i => if i = 0 then a else if i = 1 then b else c) (fun i v hv => ?_), fun v h' tk hP hk => ?_⟩
  · show d < ((s.heap.push _).push _).objs.size
    rw [Heap.size_push, hsz]
    rcases List.mem_cons.mp hd with rfl | hd
    · rw [hsz]; exact Nat.lt_succ_self _
    · rcases List.mem_cons.mp hd with rfl | hd
      · exact Nat.lt_succ_of_lt (Nat.lt_succ_self _)
      · cases hd
  · match i, hv with
    | 0, hv => exact ⟨t, by simpa using hv.symm⟩
    | 1, hv => exact ⟨u, by simpa using hv.symm⟩
    | 2, hv => exact ⟨x, by simpa using hv.symm⟩
    | n + 3, hv => simp at hv
  · have hold : ∀ d o, s.heap.get? d = some o → h'.get? d = some o := fun d o e => by
      refine hk d o (fun hm => ?_) (Heap.get?_push_of_some _ (Heap.get?_push_of_some _ e))
      rcases List.mem_cons.mp hm with e1 | hm
      · have := Heap.lt_size e; rw [e1, hsz] at this; exact Nat.lt_irrefl _ (Nat.lt_of_succ_lt this)
      · cases hm
    have := h h' tk hold
    have hv : v = if ltS a b = true then (if ltS b c = true then Value.str c x else .str b u) else (if ltS a c = true then .str c x else .str a t) := by
      have hP' : (#[Value.str a t, .str b u, .str c x])[argBest (fun i j => ltS (if j = 0 then a else if j = 1 then b else c) (if i = 0 then a else if i = 1 then b else c)) 2]? = some v := hP
      by_cases hba : ltS a b = true
      · by_cases hc : ltS b c = true
        · have e : argBest (fun i j => ltS (if j = 0 then a else if j = 1 then b else c) (if i = 0 then a else if i = 1 then b else c)) 2 = 2 := by simp [argBest, hba, hc]
          rw [e] at hP'
          simpa [hba, hc] using hP'.symm
        · have e : argBest (fun i j => ltS (if j = 0 then a else if j = 1 then b else c) (if i = 0 then a else if i = 1 then b else c)) 2 = 1 := by simp [argBest, hba, hc]
          rw [e] at hP'
          simpa [hba, hc] using hP'.symm
      · by_cases hc : ltS a c = true
        · have e : argBest (fun i j => ltS (if j = 0 then a else if j = 1 then b else c) (if i = 0 then a else if i = 1 then b else c)) 2 = 2 := by simp [argBest, hba, hc]
          rw [e] at hP'
          simpa [hba, hc] using hP'.symm
        · have e : argBest (fun i j => ltS (if j = 0 then a else if j = 1 then b else c) (if i = 0 then a else if i = 1 then b else c)) 2 = 0 := by simp [argBest, hba, hc]
          rw [e] at hP'
          simpa [hba, hc] using hP'.symm
    rw [hv]
    exact this
end
def maxS (a b : Str) : Str := if ltS a b = true then b else a
section
variable {X : Cx}
theorem call_max2S (hc : X.calm = true) : CallR X (.builtin "max") (fun xs H Q => ∃ i j, xs = [.str i, .str j] ∧ Q (.str (maxS i j)) H) := by
  intro pins s σ H xs us Q I r h
  obtain ⟨i, j, rfl, q⟩ := h
  obtain ⟨u, w', rfl, ⟨t, rfl⟩, ⟨t', rfl⟩⟩ := vals2 r
  refine max_two_strs (I.ok.hd hc) fun h' tk k => ⟨_, H, I.kept k, ?_, q⟩
  unfold maxS
  by_cases hj : ltS i j = true
  · rw [if_pos hj, if_pos hj]; exact ⟨_, rfl⟩
  · rw [if_neg hj, if_neg hj]; exact ⟨_, rfl⟩
theorem call_max3S (hc : X.calm = true) : CallR X (.builtin "max") (fun xs H Q => ∃ i j k, xs = [.str i, .str j, .str k] ∧ Q (.str (maxS (maxS i j) k)) H) := by
  intro pins s σ H xs us Q I r h
  obtain ⟨i, j, k, rfl, q⟩ := h
  cases r with
  | cons r1 r2 =>
    obtain ⟨u, w', rfl, ⟨t', rfl⟩, ⟨t'', rfl⟩⟩ := vals2 r2
    obtain ⟨t, rfl⟩ := r1
    refine max_three_strs (I.ok.hd hc) fun h' tk k' => ⟨_, H, I.kept k', ?_, q⟩
    unfold maxS
    by_cases hj : ltS i j = true
    · rw [if_pos hj, if_pos hj]
      by_cases hk : ltS j k = true
      · rw [if_pos hk, if_pos hk]; exact ⟨_, rfl⟩
      · rw [if_neg hk, if_neg hk]; exact ⟨_, rfl⟩
    · rw [if_neg hj, if_neg hj]
      by_cases hk : ltS i k = true
      · rw [if_pos hk, if_pos hk]; exact ⟨_, rfl⟩
      · rw [if_neg hk, if_neg hk]; exact ⟨_, rfl⟩
/-! ### rules whose written part is named -/
variable {K : PySem.W.Frag}
theorem ix_listK (h : X.K = K) : IxR X (rIxL K) := h ▸ ix_list
theorem ix_tupK (h : X.K = K) : IxR X (rIxT K) := h ▸ ix_tup
theorem sl_listK (h : X.K = K) : SlR X (rSlL K) := h ▸ sl_list
theorem op_in_seqK (h : X.K = K) : OpR X (compareOp .In) (rIn K false) := h ▸ op_in_seq
theorem op_notIn_seqK (h : X.K = K) : OpR X (compareOp .NotIn) (rIn K true) := h ▸ op_notIn_seq
theorem op_eqDK (h : X.K = K) (hu : X.A.units + 64 < cLine) : OpR X (compareOp .Eq) (rEqD K) := h ▸ op_eqD hu
theorem op_neDK (h : X.K = K) (hu : X.A.units + 64 < cLine) : OpR X (compareOp .NotEq) (rNeD K) := h ▸ op_neD hu
theorem call_isiK' (h : X.K = K) : CallR X (.builtin "isinstance") (rIsi K) := h ▸ call_isi
theorem call_len_seqK (h : X.K = K) : CallR X (.builtin "len") (fun xs H Q => ∃ p ys, xs = [.ref p] ∧ (SqL K H p ys ∨ SqT K H p ys) ∧ Q (.int ys.length) H) := h ▸ call_len_seq
end
end FB

namespace FB
open PySem PySem.Spec PyProof.Rows L2
/-! ### joined spans -/
abbrev Sp2 := Str × Str
theorem nil_or_snoc {α : Type} (A : List α) : A = [] ∨ ∃ B p, A = B ++ [p] := by
  rcases List.eq_nil_or_concat A with h | ⟨B, p, h⟩
  · exact .inl h
  · exact .inr ⟨B, p, by rw [h, List.concat_eq_append]⟩
def jstep (k : Str) (acc : List Sp2) (z : Sp2) : List Sp2 :=
  match acc.getLast? with
  | some p => if p.2 = k ∧ z.1 = k then acc.dropLast ++ [(p.1, z.2)] else acc ++ [z]
  | none => acc ++ [z]
theorem jstep_nil (k : Str) (z : Sp2) : jstep k [] z = [z] := rfl
theorem jstep_yes {k : Str} {A : List Sp2} {p z : Sp2} (h : p.2 = k ∧ z.1 = k) : jstep k (A ++ [p]) z = A ++ [(p.1, z.2)] := by
  unfold jstep
  rw [List.getLast?_concat]
  simp only [if_pos h, List.dropLast_concat]
theorem jstep_no {k : Str} {A : List Sp2} {p z : Sp2} (h : ¬ (p.2 = k ∧ z.1 = k)) : jstep k (A ++ [p]) z = A ++ [p] ++ [z] := by
  unfold jstep
  rw [List.getLast?_concat]
  simp only [if_neg h]
theorem jstep_low {k : Str} {A : List Sp2} {z : Sp2} (h : z.1 ≠ k) : jstep k A z = A ++ [z] := by
  rcases nil_or_snoc A with rfl | ⟨B, p, rfl⟩
  · rfl
  · exact jstep_no fun q => h q.2
theorem jfold_low {k : Str} : ∀ (L acc : List Sp2), (∀ z ∈ L, z.1 ≠ k) → L.foldl (jstep k) acc = acc ++ L
  | [], acc, _ => by simp
  | z :: r, acc, h => by
    rw [List.foldl_cons, jstep_low (h z (by simp)), jfold_low r _ fun y hy => h y (by simp [hy]), List.append_assoc]
    rfl
structure Good (L : List Sp2) : Prop where
  pw : L.Pairwise (fun p q => p.2 ≠ ("" : Str) ∧ ltS q.1 p.2 = false)
  up : ∀ p ∈ L, p.2 = ("" : Str) ∨ ltS p.1 p.2 = true
theorem nexts_fst : ∀ (x : Str) (r : List Str) (q : Sp2), q ∈ nexts (x :: (r ++ [("" : Str)])) → q.1 ∈ x :: r
  | x, [], q, h => by
    have : q = (x, ("" : Str)) := by simpa [nexts] using h
    rw [this]
    simp
  | x, y :: r, q, h => by
    rcases List.mem_cons.mp h with rfl | h
    · simp
    · exact List.mem_cons_of_mem _ (nexts_fst y r q h)
theorem good_nexts : ∀ (x : Str) (ys : List Str), (x :: ys).Pairwise (fun a b => ltS a b = true) → (∀ y ∈ ys, y ≠ ("" : Str)) → Good (nexts (x :: (ys ++ [("" : Str)])))
  | x, [], _, _ => ⟨by simp [nexts], fun p hp => .inl (by have : p = (x, ("" : Str)) := by simpa [nexts] using hp
                                                          rw [this])⟩
  | x, y :: r, hp, hy => by
    obtain ⟨h1, h2⟩ := List.pairwise_cons.mp hp
    obtain ⟨g1, g2⟩ := good_nexts y r h2 fun z hz => hy z (by simp [hz])
    refine ⟨List.pairwise_cons.mpr ⟨fun q hq => ⟨hy y (by simp), ?_⟩, g1⟩, fun p hp => ?_⟩
    · have hm := nexts_fst y r q hq
      rcases List.mem_cons.mp hm with e | e
      · rw [e]
        exact ltS_irrefl _
      · exact ltS_asymm ((List.pairwise_cons.mp h2).1 _ e)
    · rcases List.mem_cons.mp hp with rfl | hp
      · exact .inr (h1 y (by simp))
      · exact g2 p hp
theorem Good.sub {L L' : List Sp2} (h : Good L) (s : L'.Sublist L) : Good L' := ⟨h.pw.sublist s, fun p hp => h.up p (s.subset hp)⟩
theorem ltS_ne {a b : Str} (h : ltS a b = true) : a ≠ b := fun e => by
  rw [e, ltS_irrefl] at h
  cases h
/-- not less, and less: less -/
theorem lt_of_nlt {a b c : Str} (h : ltS b a = false) (h' : ltS b c = true) : ltS a c = true ∨ a = b := by
  by_cases e : a = b
  · exact .inr e
  · exact .inl (ltS_trans (ltS_tri h e) h')
def dueJ (k : Str) (L : List Sp2) : List Sp2 :=
  match L.filter (fun p => decide (p.2 = k)), L.filter (fun p => decide (p.1 = k)) with
  | e :: _, b :: _ => (L.filter (fun p => decide (p ≠ b))).map fun p => if p = e then (e.1, b.2) else p
  | _, _ => L
theorem filter_none {α : Type} {p : α → Bool} {l : List α} (h : ∀ x ∈ l, p x = false) : l.filter p = [] := by
  rw [List.filter_eq_nil_iff]
  intro x hx
  rw [h x hx]
  decide
theorem filter_all {α : Type} {p : α → Bool} {l : List α} (h : ∀ x ∈ l, p x = true) : l.filter p = l := List.filter_eq_self.mpr h
theorem map_id_on {α : Type} {g : α → α} {l : List α} (h : ∀ x ∈ l, g x = x) : l.map g = l := by
  induction l with
  | nil => rfl
  | cons x r ih => rw [List.map_cons, h x (by simp), ih fun y hy => h y (by simp [hy])]
theorem join_due {k : Str} {L : List Sp2} (g : Good L) (hk : k ≠ ("" : Str)) : L.foldl (jstep k) [] = dueJ k L := by
  by_cases hex : ∃ q ∈ L, q.1 = k
  · obtain ⟨q, hq, rfl⟩ := hex
    obtain ⟨A, C, rfl⟩ := List.append_of_mem hq
    have pw := List.pairwise_append.mp g.pw
    have pC := (List.pairwise_cons.mp pw.2.1).1
    have upq := g.up q (by simp)
    -- what stands behind q
    have hqlt : ∀ x ∈ C, ltS q.1 q.2 = true := fun x hx => upq.resolve_left (pC x hx).1
    have hC1 : ∀ x ∈ C, x.1 ≠ q.1 := fun x hx e => by
      have := (pC x hx).2
      rw [e, hqlt x hx] at this
      cases this
    have hq2 : q.2 ≠ q.1 := fun e => by
      rcases upq with h | h
      · exact hk (e ▸ h)
      · exact ltS_ne h e.symm
    have hC2 : ∀ x ∈ C, x.2 ≠ q.1 := fun x hx e => by
      rcases g.up x (by simp [hx]) with h | h
      · exact hk (e ▸ h)
      · have h1 := (pC x hx).2
        have h2 := hqlt x hx
        by_cases e2 : q.2 = x.1
        · rw [← e2, e] at h
          rw [ltS_asymm h2] at h
          cases h
        · have h3 := ltS_tri h1 e2
          have h4 := ltS_trans h2 (ltS_trans h3 h)
          rw [e, ltS_irrefl] at h4
          cases h4
    -- what stands ahead of q
    have hA : ∀ x ∈ A, x.2 ≠ ("" : Str) ∧ ltS q.1 x.2 = false := fun x hx => pw.2.2 x hx q (by simp)
    have hAl : ∀ x ∈ A, ltS x.1 x.2 = true := fun x hx => (g.up x (by simp [hx])).resolve_left (hA x hx).1
    have hA1 : ∀ x ∈ A, x.1 ≠ q.1 := fun x hx e => by
      have h1 := hAl x hx
      rw [e, (hA x hx).2] at h1
      cases h1
    have ef : (A ++ q :: C).foldl (jstep q.1) [] = jstep q.1 A q ++ C := by
      rw [List.foldl_append, List.foldl_cons, jfold_low A [] hA1, List.nil_append, jfold_low C _ hC1]
    have eb : (A ++ q :: C).filter (fun p => decide (p.1 = q.1)) = [q] := by
      rw [List.filter_append, List.filter_cons, if_pos (decide_eq_true rfl), filter_none fun x hx => decide_eq_false (hA1 x hx), filter_none fun x hx => decide_eq_false (hC1 x hx)]
      rfl
    rw [ef]
    unfold dueJ
    rw [eb]
    rcases nil_or_snoc A with rfl | ⟨B, p, rfl⟩
    · have ee : (([] : List Sp2) ++ q :: C).filter (fun p => decide (p.2 = q.1)) = [] := filter_none fun x hx => by
        rcases List.mem_cons.mp hx with rfl | hx
        · exact decide_eq_false hq2
        · exact decide_eq_false (hC2 x hx)
      rw [ee, jstep_nil]
      rfl
    · have hB2 : ∀ x ∈ B, x.2 ≠ q.1 := fun x hx e => by
        have h1 := (List.pairwise_append.mp pw.1).2.2 x hx p (by simp)
        have h2 := hAl p (by simp)
        rw [e] at h1
        have h3 := (hA p (by simp)).2
        rcases lt_of_nlt h1.2 h2 with h4 | h4
        · rw [h4] at h3
          cases h3
        · rw [h4, h2] at h3
          cases h3
      have hBC : ∀ x ∈ q :: C, x.2 ≠ q.1 := fun x hx => by
        rcases List.mem_cons.mp hx with rfl | hx
        · exact hq2
        · exact hC2 x hx
      by_cases hp : p.2 = q.1
      · have ee : (B ++ [p] ++ q :: C).filter (fun p => decide (p.2 = q.1)) = [p] := by
          rw [List.filter_append, List.filter_append, filter_none fun x hx => decide_eq_false (hB2 x hx), filter_none fun x hx => decide_eq_false (hBC x hx), List.filter_cons, if_pos (decide_eq_true hp)]
          rfl
        have en : (B ++ [p] ++ q :: C).filter (fun x => decide (x ≠ q)) = B ++ [p] ++ C := by
          rw [List.filter_append, List.filter_cons, if_neg (by simp), filter_all (l := B ++ [p]) fun x hx => decide_eq_true (show x ≠ q from fun e => hA1 x hx (by rw [e])), filter_all (l := C) fun x hx => decide_eq_true (show x ≠ q from fun e => hC1 x hx (by rw [e]))]
        rw [ee, jstep_yes ⟨hp, rfl⟩]
        simp only
        rw [en, List.map_append, List.map_append, map_id_on fun x hx => if_neg fun e => hB2 x hx (by rw [e]; exact hp), map_id_on (l := C) fun x hx => if_neg fun e => hC2 x hx (by rw [e]; exact hp), List.map_singleton, if_pos rfl]
      · have ee : (B ++ [p] ++ q :: C).filter (fun p => decide (p.2 = q.1)) = [] := by
          rw [List.filter_append, List.filter_append, filter_none fun x hx => decide_eq_false (hB2 x hx), filter_none fun x hx => decide_eq_false (hBC x hx), List.filter_cons, if_neg (by rw [decide_eq_false hp]; decide)]
          rfl
        rw [ee, jstep_no fun h => hp h.1, List.append_assoc]
        rfl
  · have hn : ∀ z ∈ L, z.1 ≠ k := fun z hz e => hex ⟨z, hz, e⟩
    rw [jfold_low L [] hn, List.nil_append]
    unfold dueJ
    rw [filter_none (p := fun p => decide (p.1 = k)) fun x hx => decide_eq_false (hn x hx)]
    split
    · rename_i h
      cases h
    · rfl
theorem good_spans {zs : List Sp3} (h : SpanList zs) : Good (zs.map (·.2)) := by
  obtain ⟨ks, h1, h2, h3, _⟩ := h
  have g : Good (nexts (("" : Str) :: (ks ++ [("" : Str)]))) := by
    refine good_nexts "" ks (List.pairwise_cons.mpr ⟨fun y hy => ?_, h2⟩) fun y hy e => ?_
    · have hy' := h1 y hy
      refine ltS_tri ?_ fun e => ?_
      · apply decide_eq_false
        have ea : ("" : Str).cps.toList = [] := by decide +kernel
        rw [ea]
        exact List.not_lt_nil _
      · rw [← e] at hy'
        exact absurd hy'.1 (by decide +kernel)
    · have hy' := h1 y hy
      rw [e] at hy'
      exact absurd hy'.1 (by decide +kernel)
  exact g.sub h3
end FB

namespace FB
open PySem PySem.Spec PyProof.Rows L2
/-! ### every key kept -/
def akF (u : Str) : List Sp2 → Bool
  | [] => false
  | p :: r => if ltS u p.1 = true then false else if p.2 = "" then true else akF (maxS u p.2) r
def keptL (L : List Sp2) (e : Str) : Bool := L.any fun p => hasB p.1 p.2 e
def highs (L : List Sp2) : List Str := (L.map (·.2)).filter fun x => !decide (V.str x = V.str "")
theorem highs_mem {L : List Sp2} {e : Str} (h : e ∈ highs L) : ∃ p ∈ L, p.2 = e ∧ e ≠ "" := by
  obtain ⟨h1, h2⟩ := List.mem_filter.mp h
  obtain ⟨p, hp, rfl⟩ := List.mem_map.mp h1
  refine ⟨p, hp, rfl, fun e => ?_⟩
  rw [e, decide_eq_true rfl] at h2
  cases h2
theorem highs_of {L : List Sp2} {p : Sp2} (h : p ∈ L) (h' : p.2 ≠ "") : p.2 ∈ highs L := List.mem_filter.mpr ⟨List.mem_map.mpr ⟨p, h, rfl⟩, by
  rw [decide_eq_false fun e => h' (V.str.inj e)]
  rfl⟩
theorem has_yes {l h k : Str} (h1 : ltS k l = false) (h2 : h = "" ∨ ltS k h = true) : hasB l h k = true := by
  unfold hasB
  rw [h1]
  rcases h2 with e | e
  · rw [decide_eq_true (congrArg V.str e)]
    rfl
  · rw [e]
    simp
theorem has_no1 {l h k : Str} (h1 : ltS k l = true) : hasB l h k = false := by
  unfold hasB
  rw [h1]
  rfl
theorem has_no2 {l h k : Str} (h1 : h ≠ "") (h2 : ltS k h = false) : hasB l h k = false := by
  unfold hasB
  rw [h2, decide_eq_false fun e => h1 (V.str.inj e)]
  simp
theorem lt_key_a {l : Str} (h : KeyOr l) (h' : ltS l "a" = true) (ka : ∀ k, IsKey k → ltS k "a" = false) : l = "" := by
  rcases h with e | e
  · exact e
  · rw [ka l e] at h'
    cases h'
theorem ak_all (ka : ∀ k, IsKey k → ltS k "a" = false) {L : List Sp2} (g : Good L) (hk : ∀ p ∈ L, KeyOr p.1 ∧ KeyOr p.2) (hna : ∀ p ∈ L, p ≠ (("" : Str), ("a" : Str))) :
    ∀ (R A : List Sp2) (u : Str), L = A ++ R → (A = [] ∧ u = "a" ∨ ∃ B p, A = B ++ [p] ∧ u = p.2) → u ≠ "" → (∀ p ∈ A, p.2 ≠ "" ∧ ltS u p.2 = false) → (∀ e : Str, e = ("a" : Str) ∨ e ∈ highs A → e = u ∨ keptL L e = true) →
      akF u R = ((("a" : Str) :: highs L).all (keptL L))
  | [], A, u, hL, hu, hu0, hA, _ => by
    have hno : keptL L u = false := by
      unfold keptL
      rw [List.any_eq_false]
      intro p hp
      rw [hL, List.append_nil] at hp
      rw [has_no2 (hA p hp).1 (hA p hp).2]
      decide
    symm
    show _ = false
    rw [List.all_eq_false]
    refine ⟨u, ?_, by rw [hno]; decide⟩
    rcases hu with ⟨_, h⟩ | ⟨B, p, h, h'⟩
    · rw [h]
      simp
    · rw [h']
      refine List.mem_cons_of_mem _ (highs_of (by rw [hL, h]; simp) (by rw [← h']; exact hu0))
  | q :: r, A, u, hL, hu, hu0, hA, hE => by
    have gL := g
    rw [hL] at gL
    have pw := List.pairwise_append.mp gL.pw
    have pr := (List.pairwise_cons.mp pw.2.1).1
    have upq := gL.up q (by simp)
    have umem : u ∈ (("a" : Str) :: highs L) := by
      rcases hu with ⟨_, h⟩ | ⟨B, p, h, h'⟩
      · rw [h]
        simp
      · rw [h']
        refine List.mem_cons_of_mem _ (highs_of (by rw [hL, h]; simp) (by rw [← h']; exact hu0))
    unfold akF
    by_cases h1 : ltS u q.1 = true
    · rw [if_pos h1]
      symm
      rw [List.all_eq_false]
      refine ⟨u, umem, ?_⟩
      have hno : keptL L u = false := by
        unfold keptL
        rw [List.any_eq_false]
        intro p hp
        rw [hL] at hp
        rcases List.mem_append.mp hp with m | m
        · rw [has_no2 (hA p m).1 (hA p m).2]
          decide
        · have : ltS u p.1 = true := by
            rcases List.mem_cons.mp m with rfl | m
            · exact h1
            · have h2 := pr p m
              have h3 := upq.resolve_left h2.1
              by_cases e : q.2 = p.1
              · rw [← e]
                exact ltS_trans h1 h3
              · exact ltS_trans h1 (ltS_trans h3 (ltS_tri h2.2 e))
          rw [has_no1 this]
          decide
      rw [hno]
      decide
    · rw [if_neg h1]
      have h1' : ltS u q.1 = false := Bool.eq_false_iff.mpr h1
      by_cases h2 : q.2 = ""
      · rw [if_pos h2]
        symm
        rw [List.all_eq_true]
        have hr : r = [] := by
          cases r with
          | nil => rfl
          | cons x _ => exact absurd h2 (pr x (by simp)).1
        subst hr
        have hkq : ∀ e, e = u → keptL L e = true := fun e he => by
          unfold keptL
          rw [List.any_eq_true]
          exact ⟨q, by rw [hL]; simp, has_yes (by rw [he]; exact h1') (.inl h2)⟩
        intro e he
        have he' : e = ("a" : Str) ∨ e ∈ highs A := by
          rcases List.mem_cons.mp he with h | h
          · exact .inl h
          · obtain ⟨p, hp, rfl, hp0⟩ := highs_mem h
            rw [hL] at hp
            rcases List.mem_append.mp hp with m | m
            · exact .inr (highs_of m hp0)
            · rw [show p = q by simpa using m] at hp0
              exact absurd h2 hp0
        rcases hE e he' with h | h
        · exact hkq e h
        · exact h
      · rw [if_neg h2]
        have hlh := upq.resolve_left h2
        have hqm : q ∈ L := by rw [hL]; simp
        have huq : ltS u q.2 = true := by
          rcases hu with ⟨hA0, h⟩ | ⟨B, p, h, h'⟩
          · rw [h]
            refine ltS_tri (ka _ ((hk q hqm).2.resolve_left h2)) fun e => ?_
            rw [← e] at hlh
            have := lt_key_a (hk q hqm).1 hlh ka
            exact hna q hqm (by
              cases q
              simp only at this e
              rw [this, e])
          · have h3 := pw.2.2 p (by rw [h]; simp) q (by simp)
            rw [← h'] at h3
            by_cases e : u = q.1
            · rw [e]
              exact hlh
            · exact ltS_trans (ltS_tri h3.2 e) hlh
        have hmax : maxS u q.2 = q.2 := if_pos huq
        rw [hmax]
        refine ak_all ka g hk hna r (A ++ [q]) q.2 (by rw [hL, List.append_assoc]; rfl) (.inr ⟨A, q, rfl, rfl⟩) h2 (fun p hp => ?_) (fun e he => ?_)
        · rcases List.mem_append.mp hp with m | m
          · refine ⟨(hA p m).1, ?_⟩
            have := (hA p m).2
            by_cases e : p.2 = u
            · rw [e]
              exact ltS_asymm huq
            · exact ltS_asymm (ltS_trans (ltS_tri this e) huq)
          · rw [show p = q by simpa using m]
            exact ⟨h2, ltS_irrefl _⟩
        · have hkq : keptL L u = true := by
            unfold keptL
            rw [List.any_eq_true]
            exact ⟨q, hqm, has_yes h1' (.inr huq)⟩
          have he' : e = q.2 ∨ e = ("a" : Str) ∨ e ∈ highs A := by
            rcases he with h | h
            · exact .inr (.inl h)
            · obtain ⟨p, hp, rfl, hp0⟩ := highs_mem h
              rcases List.mem_append.mp hp with m | m
              · exact .inr (.inr (highs_of m hp0))
              · rw [show p = q by simpa using m]
                exact .inl rfl
          rcases he' with h | h
          · exact .inl h
          · rcases hE e h with h | h
            · rw [h]
              exact .inr hkq
            · exact .inr h
theorem ak_key : ∀ (R : List Sp2) (u k : Str), akF u R = true → ltS k u = false → keptL R k = true
  | [], _, _, h, _ => by cases h
  | q :: r, u, k, h, hk => by
    unfold akF at h
    by_cases h1 : ltS u q.1 = true
    · rw [if_pos h1] at h
      cases h
    · rw [if_neg h1] at h
      have h1' : ltS u q.1 = false := Bool.eq_false_iff.mpr h1
      have hkl : ltS k q.1 = false := by
        cases e : ltS k q.1 with
        | false => rfl
        | true =>
          by_cases e2 : k = u
          · rw [← e2, e] at h1'
            cases h1'
          · rw [ltS_trans (ltS_tri hk (fun z => e2 z.symm)) e] at h1'
            cases h1'
      unfold keptL
      rw [List.any_cons]
      by_cases h2 : q.2 = ""
      · rw [has_yes hkl (.inl h2)]
        rfl
      · rw [if_neg h2] at h
        cases e : ltS k q.2 with
        | true =>
          rw [has_yes hkl (.inr e)]
          rfl
        | false =>
          have : ltS k (maxS u q.2) = false := by
            unfold maxS
            split
            · exact e
            · exact hk
          have ih := ak_key r (maxS u q.2) k h this
          unfold keptL at ih
          rw [ih, Bool.or_true]
end FB

namespace FB
open PySem PySem.Spec PyProof.Rows L2
/-! ### data that are equal, sort by sort -/
def Pl : Nat → PyData → Prop
  | 0, d => d = .none ∨ (∃ i, d = .int i) ∨ ∃ x, d = .str x
  | n + 1, d => (d = .none ∨ (∃ i, d = .int i) ∨ ∃ x, d = .str x) ∨ ∃ ds, (d = .list ds ∨ d = .tuple ds) ∧ ∀ e ∈ ds, Pl n e
def spSame (K : PySem.W.Frag) (n : Nat) : Sp := fun vs H Q _ => ∃ (x y : V) (d : PyData), vs = [x, y] ∧ Dp K H x d ∧ Dp K H y d ∧ Pl n d ∧ ∀ H', Same H H' → Q (.bl true) H'
theorem ty_list {K : PySem.W.Frag} {H : Hp} {a : Addr} {xs : List V} (h : SqL K H a xs) : TyX K H (.ref a) (.type "list") := by
  rcases h with (h | ⟨o, h⟩) | ⟨o, its, n, hk, hc, _⟩
  · exact .base (.lst h)
  · exact .base (.frz h)
  · exact .kList hk hc
theorem ty_tup {K : PySem.W.Frag} {H : Hp} {a : Addr} {xs : List V} (h : SqT K H a xs) : TyX K H (.ref a) (.type "tuple") := by
  rcases h with (h | ⟨o, h⟩) | ⟨o, its, n, hk, hc, _⟩
  · exact .base (.tup h)
  · exact .fTuple h
  · exact .kTuple hk hc
theorem same_tup {K : PySem.W.Frag} {H H' : Hp} {a : Addr} {xs : List V} (e : Same H H') (h : SqT K H a xs) : SqT K H' a xs := by
  rcases h with (h | ⟨o, h⟩) | h
  · exact .inl (.inl (e _ _ h))
  · exact .inl (.inr ⟨o, e _ _ h⟩)
  · exact .inr h
mutual
theorem dp_same {K : PySem.W.Frag} {H H' : Hp} (e : Same H H') : ∀ (d : PyData) (v : V), Dp K H v d → Dp K H' v d
  | .none, _, h => by cases h; exact .non
  | .bool b, _, h => by cases h; exact .bl b
  | .int i, _, h => by cases h; exact .int i
  | .str x, _, h => by cases h; exact .str x
  | .list ds, _, h => by
    cases h with
    | lst hs ha => exact .lst (e.seq hs) (dpall_same e ds _ ha)
  | .tuple ds, _, h => by
    cases h with
    | tup hs ha => exact .tup (same_tup e hs) (dpall_same e ds _ ha)
  | .dict _, _, h => by cases h
theorem dpall_same {K : PySem.W.Frag} {H H' : Hp} (e : Same H H') : ∀ (ds : List PyData) (vs : List V), DpAll K H vs ds → DpAll K H' vs ds
  | [], _, h => by cases h; exact .nil
  | d :: ds, _, h => by
    cases h with
    | cons h1 h2 => exact .cons (dp_same e d _ h1) (dpall_same e ds _ h2)
end
theorem dpall_get {K : PySem.W.Frag} {H : Hp} : ∀ {vs : List V} {ds : List PyData} {i : Nat} {v : V}, DpAll K H vs ds → vs[i]? = some v → ∃ d, ds[i]? = some d ∧ Dp K H v d
  | _, _, _, _, .nil, h => by simp at h
  | x :: _, _, 0, v, .cons h1 h2, h => by
    have e : x = v := by simpa using h
    subst e
    exact ⟨_, rfl, h1⟩
  | _, _, i + 1, v, .cons h1 h2, h => by
    obtain ⟨d, e1, e2⟩ := dpall_get (i := i) (v := v) h2 (by simpa using h)
    exact ⟨d, by simpa using e1, e2⟩
theorem dpall_len {K : PySem.W.Frag} {H : Hp} : ∀ {vs : List V} {ds : List PyData}, DpAll K H vs ds → vs.length = ds.length
  | _, _, .nil => rfl
  | _, _, .cons _ h => by rw [List.length_cons, List.length_cons, dpall_len h]
section
variable {K : PySem.W.Frag}
theorem kt (a b : String) (r : Bool) (h : kitB a b = some r) : PySem.W.kitOne K (.type a) (.type b) = some r := kit_ty h
theorem ki_nl : PySem.W.kitOne K (.type "NoneType") (.type "list") = some false := kit_ty (by decide +kernel)
theorem ki_nt : PySem.W.kitOne K (.type "NoneType") (.type "tuple") = some false := kit_ty (by decide +kernel)
theorem ki_il : PySem.W.kitOne K (.type "int") (.type "list") = some false := kit_ty (by decide +kernel)
theorem ki_it : PySem.W.kitOne K (.type "int") (.type "tuple") = some false := kit_ty (by decide +kernel)
theorem ki_is : PySem.W.kitOne K (.type "int") (.type "str") = some false := kit_ty (by decide +kernel)
theorem ki_ii : PySem.W.kitOne K (.type "int") (.type "int") = some true := kit_ty (by decide +kernel)
theorem ki_ib : PySem.W.kitOne K (.type "int") (.type "bool") = some false := kit_ty (by decide +kernel)
theorem ki_sl : PySem.W.kitOne K (.type "str") (.type "list") = some false := kit_ty (by decide +kernel)
theorem ki_st : PySem.W.kitOne K (.type "str") (.type "tuple") = some false := kit_ty (by decide +kernel)
theorem ki_ss : PySem.W.kitOne K (.type "str") (.type "str") = some true := kit_ty (by decide +kernel)
theorem ki_ll : PySem.W.kitOne K (.type "list") (.type "list") = some true := kit_ty (by decide +kernel)
theorem ki_lt : PySem.W.kitOne K (.type "list") (.type "tuple") = some false := kit_ty (by decide +kernel)
theorem ki_tl : PySem.W.kitOne K (.type "tuple") (.type "list") = some false := kit_ty (by decide +kernel)
theorem ki_tt : PySem.W.kitOne K (.type "tuple") (.type "tuple") = some true := kit_ty (by decide +kernel)
theorem ki_bb : PySem.W.kitOne K (.type "bool") (.type "bool") = some true := kit_ty (by decide +kernel)
end
end FB

namespace FB
open PySem PySem.Spec PyProof.Rows L2
def spanD (z : Sp3) : PyData := .tuple [.str z.2.1, .str z.2.2]
theorem dp_span {K : PySem.W.Frag} {H : Hp} {z : Sp3} (h : H z.1 = some (.tup [.str z.2.1, .str z.2.2])) : Dp K H (.ref z.1) (spanD z) := .tup (SqT.of h) (.cons (.str _) (.cons (.str _) .nil))
theorem dpall_spans {K : PySem.W.Frag} {H : Hp} : ∀ zs : List Sp3, (∀ z ∈ zs, H z.1 = some (.tup [.str z.2.1, .str z.2.2])) → DpAll K H (zs.map fun z => V.ref z.1) (zs.map spanD)
  | [], _ => .nil
  | z :: r, h => .cons (dp_span (h z (by simp))) (dpall_spans r fun y hy => h y (by simp [hy]))
theorem lay_spans : ∀ zs : List Sp3, (∀ z ∈ zs, KeyOr z.2.1 ∧ KeyOr z.2.2) → PyData.canLayAll0 (zs.map spanD) = true ∧ PyData.depthAll (zs.map spanD) ≤ 1
  | [], _ => ⟨by simp [PyData.canLayAll0], by simp [PyData.depthAll]⟩
  | z :: r, h => by
    obtain ⟨h1, h2⟩ := lay_spans r fun y hy => h y (by simp [hy])
    obtain ⟨k1, k2⟩ := h z (by simp)
    refine ⟨?_, ?_⟩
    · rw [List.map_cons, PyData.canLayAll0, h1]
      simp [spanD, PyData.canLay0, PyData.canLayAll0, k1.ok, k2.ok]
    · rw [List.map_cons, PyData.depthAll]
      have : (spanD z).depth = 1 := by simp [spanD, PyData.depth, PyData.depthAll]
      omega
theorem shaped_spans {zs : List Sp3} (h : ∀ z ∈ zs, KeyOr z.2.1 ∧ KeyOr z.2.2) : SeqAt.shaped (.list (zs.map spanD)) = true := by
  obtain ⟨h1, h2⟩ := lay_spans zs h
  unfold SeqAt.shaped
  rw [PyData.canLay0, h1, decide_eq_true (show (PyData.list (zs.map spanD)).depth ≤ 64 by rw [PyData.depth]; omega)]
  rfl
theorem shaped_nil : SeqAt.shaped (.list []) = true := by decide +kernel
theorem eqv_nil : PyData.eqv (.list []) (.list []) = true := by simp [PyData.eqv, PyData.eqvAll]
theorem eqv_cons (x : PyData) (r : List PyData) : PyData.eqv (.list (x :: r)) (.list []) = false := by simp [PyData.eqv, PyData.eqvAll]
def spLaw (K : PySem.W.Frag) : Sp := fun vs H Q _ => ∃ (a : Addr) (ns : List Int), vs = [.ref a] ∧ SqL K H a (ns.map V.int) ∧ ns.length ≤ 63 ∧ ∀ H', Q (.bl true) H'
theorem pl_span (z : Sp3) : Pl 1 (spanD z) := .inr ⟨_, .inr rfl, fun e he => by
  have : e = .str z.2.1 ∨ e = .str z.2.2 := by simpa using he
  rcases this with h | h
  · exact .inr (.inr ⟨_, h⟩)
  · exact .inr (.inr ⟨_, h⟩)⟩
theorem pl_spans (zs : List Sp3) : Pl 2 (.list (zs.map spanD)) := .inr ⟨_, .inl rfl, fun e he => by
  obtain ⟨z, _, rfl⟩ := List.mem_map.mp he
  exact pl_span z⟩
theorem spanD_eq {ws us : List Sp3} (h : ws.map (·.2) = us.map (·.2)) : ws.map spanD = us.map spanD := by
  have e : ∀ l : List Sp3, l.map spanD = (l.map (·.2)).map fun p => PyData.tuple [.str p.1, .str p.2] := fun l => by
    rw [List.map_map]
    rfl
  rw [e ws, e us, h]
theorem dp_spans {K : PySem.W.Frag} {H : Hp} {a : Addr} {zs : List Sp3} (h : SpansAt H a zs) : Dp K H (.ref a) (.list (zs.map spanD)) := .lst (SqL.of h.ls) (dpall_spans zs h.tp)
theorem eqv_spans {zs : List Sp3} (h : ∀ z ∈ zs, KeyOr z.2.1 ∧ KeyOr z.2.2) : PyData.eqv (.list (zs.map spanD)) (.list (zs.map spanD)) = true := by
  refine SeqAt.eqv_refl _ ?_
  rw [PyData.canLay0]
  exact (lay_spans zs h).1
theorem asked_keys {zs : List Sp3} {ks : List Str} (hz : ∀ z ∈ zs, KeyOr z.2.1 ∧ KeyOr z.2.2) (h : ∃ ds : List Str, (∀ k ∈ ds, IsKey k) ∧ ks = ds ++ (zs.map fun z => [z.2.1, z.2.2].filter fun x => !decide (V.str x = V.str "")).flatten) : ∀ k ∈ ks, IsKey k := by
  obtain ⟨ds, h1, rfl⟩ := h
  intro k hk
  rcases List.mem_append.mp hk with m | m
  · exact h1 k m
  · obtain ⟨l, hl, hkl⟩ := List.mem_flatten.mp m
    obtain ⟨z, hz', rfl⟩ := List.mem_map.mp hl
    obtain ⟨m1, m2⟩ := List.mem_filter.mp hkl
    have hne : k ≠ "" := fun e => by
      rw [e, decide_eq_true rfl] at m2
      cases m2
    have : k = z.2.1 ∨ k = z.2.2 := by simpa using m1
    rcases this with rfl | rfl
    · exact (hz z hz').1.resolve_left hne
    · exact (hz z hz').2.resolve_left hne
end FB

namespace FB
open PySem PySem.Spec PyProof.Rows L2
/-! ### lists of spans that grow -/
theorem SpansAt.add {H : Hp} {pl : Addr} {ws : List Sp3} {z : Sp3} (h : SpansAt H pl ws) (hz : H z.1 = some (.tup [.str z.2.1, .str z.2.2])) :
    SpansAt (upd H pl (.lst (ws.map (fun z => V.ref z.1) ++ [.ref z.1]))) pl (ws ++ [z]) := by
  refine ⟨by rw [upd_same, List.map_append]; rfl, fun y hy => ?_⟩
  have hy' : H y.1 = some (.tup [.str y.2.1, .str y.2.2]) := by
    rcases List.mem_append.mp hy with m | m
    · exact h.tp y m
    · rw [show y = z by simpa using m]
      exact hz
  rw [upd_ne (ne_of hy' h.ls (by intro z; cases z))]
  exact hy'
theorem SpansAt.addNew {H : Hp} {pl t : Addr} {ws : List Sp3} {x y : Str} (h : SpansAt H pl ws) (ht : H t = none) :
    SpansAt (upd (upd H t (.tup [.str x, .str y])) pl (.lst (ws.map (fun z => V.ref z.1) ++ [.ref t]))) pl (ws ++ [(t, x, y)]) :=
  (h.same (same_new ht)).add (z := (t, x, y)) upd_same
theorem same_mut {H H' : Hp} {p : Addr} {o : HO} (k : Same H H') (h : H p = none) : Same H (upd H' p o) := fun b x e => by
  rw [upd_ne (ne_of_none e h)]
  exact k b x e
/-! ### the least key of a span -/
def leastS (l : Str) : Str := if l = "" then "a" else l
theorem key_ge_a {k : Str} (h : IsKey k) : ltS k "a" = false := by
  obtain ⟨h0, _, hc⟩ := h
  apply decide_eq_false
  have ea : ("a" : Str).cps.toList = [97] := by decide +kernel
  rw [ea]
  cases e : k.cps.toList with
  | nil =>
    have : k.length = 0 := by
      show k.cps.size = 0
      rw [← Array.length_toList, e]
      rfl
    omega
  | cons c r =>
    have h1 := (hc c (by rw [e]; simp)).1
    intro hlt
    rcases List.cons_lt_cons_iff.mp hlt with q | ⟨q, q'⟩
    · omega
    · exact absurd q' (by simp)
theorem isKey_of {z : Str} (h : KeyOr z) (h' : z ≠ "") : IsKey z := h.resolve_left h'
theorem a_key : IsKey "a" := by
  unfold IsKey
  decide +kernel
theorem lt_empty_a : ltS "" "a" = true := by decide +kernel
theorem no_lt_empty (k : Str) : ltS k "" = false := by
  apply decide_eq_false
  have ea : ("" : Str).cps.toList = [] := by decide +kernel
  rw [ea]
  exact List.not_lt_nil _
theorem empty_lt {k : Str} (h : k ≠ "") : ltS "" k = true := ltS_tri (no_lt_empty k) (fun e => h e.symm)
theorem IsKey.ne {z : Str} (h : IsKey z) : z ≠ "" := fun e => by
  subst e
  have := h.1
  exact absurd this (by decide +kernel)
theorem max_a {l : Str} (h : KeyOr l) : maxS l "a" = leastS l := by
  unfold maxS leastS
  rcases h with rfl | h
  · rw [if_pos lt_empty_a, if_pos rfl]
  · rw [key_ge_a h, if_neg (by decide), if_neg h.ne]
def canB (l h k : Str) : Bool := hasB l h k && ltS (maxS l "a") k
theorem can_eq {l h k : Str} (hl : KeyOr l) (hk : IsKey k) : canB l h k = (hasB l h k && !decide (V.str k = V.str (leastS l))) := by
  unfold canB
  rw [max_a hl]
  cases e : hasB l h k with
  | false => rfl
  | true =>
    have e1 : ltS k l = false := by
      unfold hasB at e
      rw [Bool.and_eq_true] at e
      cases q : ltS k l with
      | false => rfl
      | true => rw [q] at e; exact absurd e.1 (by decide)
    have e2 : ltS k (leastS l) = false := by
      unfold leastS
      split
      · exact key_ge_a hk
      · exact e1
    rw [Bool.true_and, Bool.true_and]
    by_cases q : k = leastS l
    · rw [← q, ltS_irrefl, decide_eq_true rfl]
      rfl
    · rw [ltS_tri e2 (fun z => q z.symm), decide_eq_false (fun z => q (V.str.inj z))]
      rfl
def spLeast (K : PySem.W.Frag) : Sp := fun vs H Q _ => ∃ (p : Addr) (l h : Str), vs = [.ref p] ∧ SqT K H p [.str l, .str h] ∧ ∀ H', Same H H' → Q (.str (leastS l)) H'
def spCan (K : PySem.W.Frag) : Sp := fun vs H Q _ => ∃ (p : Addr) (l h k : Str), vs = [.ref p, .str k] ∧ SqT K H p [.str l, .str h] ∧ Q (.bl (canB l h k)) H
def cutL (k : Str) (c : Str → Str → Bool) (zs : List (Str × Str)) : List (Str × Str) := (zs.map fun z => if c z.1 z.2 = true then [(z.1, k), (k, z.2)] else [z]).flatten
theorem cutL_snoc (k : Str) (c : Str → Str → Bool) (zs : List (Str × Str)) (z : Str × Str) : cutL k c (zs ++ [z]) = cutL k c zs ++ (if c z.1 z.2 = true then [(z.1, k), (k, z.2)] else [z]) := by
  unfold cutL
  rw [List.map_append, List.flatten_append]
  show _ ++ (_ ++ []) = _
  rw [List.append_nil]
theorem take_snoc {α : Type} {zs : List α} {i : Nat} {z : α} (h : zs[i]? = some z) : zs.take (i + 1) = zs.take i ++ [z] := by
  rw [List.take_add_one, h]
  rfl
/-- a new list of spans, made of those of a list and cut at the key as c says -/
def spCut (c : Str → Str → Str → Bool) : Sp := fun vs H Q _ => ∃ (a : Addr) (zs : List Sp3) (k : Str), vs = [.ref a, .str k] ∧ SpansAt H a zs ∧ zs.length ≤ 60 ∧
  ∀ (p : Addr) (ws : List Sp3) (H' : Hp), Same H H' → H p = none → SpansAt H' p ws → ws.map (·.2) = cutL k (fun l h => c l h k) (zs.map (·.2)) → ws.length ≤ 2 * zs.length → Q (.ref p) H'
end FB

namespace FB
open PySem PySem.Spec PyProof.Rows L2
def top (i : Nat) : Stmt := PySem.Challenge.pw_farbooks_k04_every_key_kept.main.body.getD i (.Pass ⟨0, 0, 0, 0⟩)
abbrev s_all_kept : Stmt := top 2
theorem sc_all_kept : FnScope ["spans", "least_unkept", "low", "high"] ["spans"] (defScope s_all_kept) := ⟨rfl, rfl, rfl, by decide +kernel, rfl, by decide +kernel, by decide +kernel⟩
abbrev s_drawn : Stmt := top 4
theorem sc_drawn : FnScope ["_law_script", "_law_cells"] ["_law_script"] (defScope s_drawn) := ⟨rfl, rfl, rfl, by decide +kernel, rfl, by decide +kernel, by decide +kernel⟩
abbrev s_pick : Stmt := top 5
theorem sc_pick : FnScope ["_law_draw", "_law_many", "_law_cells", "_law_value", "_law_k", "_law_m"] ["_law_draw", "_law_many"] (defScope s_pick) := ⟨rfl, rfl, rfl, by decide +kernel, rfl, by decide +kernel, by decide +kernel⟩
abbrev s_key : Stmt := top 6
theorem sc_key : FnScope ["_law_draw", "_law_way", "_law_k"] ["_law_draw"] (defScope s_key) := ⟨rfl, rfl, rfl, by decide +kernel, rfl, by decide +kernel, by decide +kernel⟩
abbrev s_spans : Stmt := top 7
theorem sc_spans : FnScope ["_law_draw", "_law_most", "_law_keys", "_law_k", "_law_key_here", "_law_spans_here", "_law_all_of_them", "_law_low", "_law_high"] ["_law_draw", "_law_most"] (defScope s_spans) := ⟨rfl, rfl, rfl, by decide +kernel, rfl, by decide +kernel, by decide +kernel⟩
abbrev s_has : Stmt := top 8
theorem sc_has : FnScope ["_law_span", "_law_key_here"] ["_law_span", "_law_key_here"] (defScope s_has) := ⟨rfl, rfl, rfl, by decide +kernel, rfl, by decide +kernel, by decide +kernel⟩
abbrev s_least : Stmt := top 9
theorem sc_least : FnScope ["_law_span"] ["_law_span"] (defScope s_least) := ⟨rfl, rfl, rfl, by decide +kernel, rfl, by decide +kernel, by decide +kernel⟩
abbrev s_asked : Stmt := top 10
theorem sc_asked : FnScope ["_law_draw", "_law_spans_here", "_law_keys", "_law_low", "_law_high", "_law_k", "_law_key_here"] ["_law_draw", "_law_spans_here"] (defScope s_asked) := ⟨rfl, rfl, rfl, by decide +kernel, rfl, by decide +kernel, by decide +kernel⟩
abbrev s_kept : Stmt := top 11
theorem sc_kept : FnScope ["_law_spans_here", "_law_key_here", "_law_span"] ["_law_spans_here", "_law_key_here"] (defScope s_kept) := ⟨rfl, rfl, rfl, by decide +kernel, rfl, by decide +kernel, by decide +kernel⟩
abbrev s_law : Stmt := top 12
theorem sc_law : FnScope ["_law_script", "_law_draw", "_law_spans_here", "_law_handed", "_law_found", "_law_ends", "_law_kept_here", "_law_span", "_law_key_here"] ["_law_script"] (defScope s_law) := ⟨rfl, rfl, rfl, by decide +kernel, rfl, by decide +kernel, by decide +kernel⟩
structure Blt (mg : Str → Option Value) : Prop where
  all : mg "all" = none
  any : mg "any" = none
  bool : mg "bool" = none
  int : mg "int" = none
  isinstance : mg "isinstance" = none
  len : mg "len" = none
  list : mg "list" = none
  max : mg "max" = none
  range : mg "range" = none
  sorted : mg "sorted" = none
  zip : mg "zip" = none
end FB

namespace FB
open PySem PySem.Spec PyProof.Rows L2
structure Txt (mg : Str → Option Value) : Prop where
  LEAST_KEY : ∃ t, mg "LEAST_KEY" = some (.str "a" t)
end FB

namespace FB
open PySem PySem.Spec PyProof.Rows L2
section
variable {P : Program} {w : World} {K : PySem.W.Frag} {mg : Str → Option Value} {base : Heap}
theorem ok_pick {f : Addr} {fd : FuncData} (F : Fun K "_law_pick" "_law_pick" s_pick f fd) (B : Blt mg) : FnOk P w K mg base CX0 1 f fd ["_law_draw", "_law_many"] spPick := by
  refine F.ok sc_pick (fun vs H Q E h => ?_) (fun cdv A outer s H vs Q E hr h => ?_)
  · obtain ⟨d, c, cs, n, m, rfl, _⟩ := h
    rfl
  · obtain ⟨d, c, cs, n, m, rfl, ⟨a, l, x, g, hd, hc, h0, h64, ha0, han⟩, hm, hm2, hn, q⟩ := h
    have hu := hu_of hr
    refine ⟨_, pss_cons (ps_set (i := 2) sc_pick.nd rfl (Or.inl rfl) (pe_dget hu (pv 0) pe_str (fun _ _ => rfl)))
    (pss_cons (ps_if (pt_val (pe_dget hu (pv 0) pe_str (fun _ _ => rfl)))
      (pss_cons (ps_set (i := 3) sc_pick.nd rfl (Or.inl rfl) (pe_op op_mod (pe_dget hu (pv 0) pe_str (fun _ _ => rfl)) (pv 1)))
      (pss_cons (ps_dput hu (pv 0) pe_str (pe_op op_fdiv (pe_dget hu (pv 0) pe_str (fun _ _ => rfl)) (pv 1)) rfl)
      (pss_cons (ps_dput hu (pv 0) pe_str (pe_op op_sub (pe_dget hu (pv 0) pe_str (fun _ _ => rfl)) pe_int) rfl)
      (pss_cons (ps_if (pt_cmpR op_eq (pe_dget hu (pv 0) pe_str (fun _ _ => rfl)) pe_int (nomark _))
        (pss_cons (ps_dput hu (pv 0) pe_str (pe_op op_add (pe_dget hu (pv 0) pe_str (fun _ _ => rfl)) pe_int) rfl)
        (pss_cons (ps_dput hu (pv 0) pe_str (pe_ix ix_list (pv 2) (pe_op op_mod (pe_dget hu (pv 0) pe_str (fun _ _ => rfl)) (pe_callB call_len_seq (by rfl) B.len (by decide +kernel) (pa_cons (pv 2) pa_nil))) (fun _ _ => rfl)) rfl)
        (pss_one (ps_dput hu (pv 0) pe_str pe_int rfl)))) pss_nil)
      (pss_one (ps_ret (pv 3))))))) pss_nil)
    (pss_cons (ps_dput hu (pv 0) pe_str (pe_op op_add (pe_dget hu (pv 0) pe_str (fun _ _ => rfl)) pe_int) rfl)
    (pss_cons (ps_set (i := 4) sc_pick.nd rfl (Or.inl rfl) (pe_dget hu (pv 0) pe_str (fun _ _ => rfl)))
    (pss_cons (ps_set (i := 5) sc_pick.nd rfl (Or.inl rfl) (pe_op op_mod (pe_op op_mul (pe_op op_add (pe_op op_add (pe_op op_mod (pe_ix ix_list (pv 2) (pe_op op_mod (pv 4) (pe_callB call_len_seq (by rfl) B.len (by decide +kernel) (pa_cons (pv 2) pa_nil))) (fun _ _ => rfl)) pe_int) (pe_op op_mul (pe_op op_mul (pv 4) (pv 4)) pe_int)) pe_int) pe_int) pe_int))
    (pss_cons (ps_set (i := 5) sc_pick.nd rfl (Or.inl rfl) (pe_op op_mod (pe_op op_mul (pv 5) (pv 5)) pe_int))
    (pss_one (ps_ret (pe_op op_mod (pe_op op_fdiv (pv 5) pe_int) (pv 1))))))))), ?_⟩
    have ncd : c ≠ d := ne_of hc hd (by intro z; cases z)
    obtain ⟨H0, rfl⟩ : ∃ H0, H = upd H0 d (.dK (drawKvs c a l x g)) := ⟨H, (upd_self hd).symm⟩
    have hc' : ∀ o, (upd H0 d o) c = some (.lst (cs.map V.int)) := fun o => by
      rw [upd_ne ncd] at hc ⊢
      exact hc
    have hsq : ∀ o, SqL K (upd H0 d o) c (cs.map V.int) := fun o => SqL.of (hc' o)
    have hlen : (0 : Int) < ((cs.map V.int).length : Int) := by
      rw [List.length_map]
      omega
    have kp : ∀ o o', Keep d (upd H0 d o) (upd H0 d o') := fun o o' b y e nb => by
      rw [upd_ne nb] at e ⊢
      exact e
    refine ⟨_, rfl, d, _, rfl, dg_cells, ?_⟩
    refine ⟨_, rfl, d, _, rfl, dg_digits, _, rfl, ?_⟩
    cases g with
    | true =>
      refine iteT ?_
      refine ⟨_, rfl, d, _, rfl, dg_number, _, rfl, _, _, rfl, rfl, hm, ?_⟩
      refine ⟨_, rfl, d, _, rfl, dg_number, _, rfl, _, _, rfl, rfl, ⟨hm, hm2⟩, _, rfl, d, _, rfl, dp_number, ?_⟩
      refine ⟨_, rfl, d, _, rfl, dg_left, _, _, rfl, rfl, _, rfl, d, _, rfl, dp_left, ?_⟩
      refine ⟨_, rfl, d, _, rfl, dg_left, rfl, _, rfl, ?_⟩
      have v0 := Int.emod_nonneg x (by omega : m ≠ 0)
      have v1 := Int.emod_lt_of_pos x hm
      refine ite2 (fun _ => ?_) (fun _ => ?_)
      · refine ⟨_, rfl, d, _, rfl, dg_at, _, _, rfl, rfl, _, rfl, d, _, rfl, dp_at, ?_⟩
        obtain ⟨z, hz⟩ := at_mod h0 (a + 1)
        refine ⟨_, rfl, _, rfl, d, _, rfl, dg_at, _, rfl, c, _, rfl, .inl (hsq _), _, _, rfl, rfl, hlen, c, _, _, _, rfl, rfl, hsq _, hz, _, rfl, d, _, rfl, dp_number, ?_⟩
        refine ⟨_, rfl, d, _, rfl, dp_left, ?_⟩
        exact ⟨_, rfl, q _ _ v0 v1 ⟨_, _, _, _, upd_same, hc' _, h0, h64, by omega, by omega⟩ (kp _ _)⟩
      · exact ⟨_, rfl, q _ _ v0 v1 ⟨_, _, _, _, upd_same, hc' _, h0, h64, by omega, by omega⟩ (kp _ _)⟩
    | false =>
      refine iteF ?_
      refine ⟨_, rfl, d, _, rfl, dg_at, _, _, rfl, rfl, _, rfl, d, _, rfl, dp_at, ?_⟩
      refine ⟨_, rfl, d, _, rfl, dg_at, ?_⟩
      obtain ⟨z, hz⟩ := at_mod h0 (a + 1)
      refine ⟨_, rfl, _, rfl, _, rfl, c, _, rfl, .inl (hsq _), _, _, rfl, rfl, hlen, c, _, _, _, rfl, rfl, hsq _, hz, _, _, rfl, rfl, (by show (0 : Int) < 2147483629; decide), _, rfl, _, rfl, _, _, rfl, rfl, .inl ⟨by omega, by omega⟩, _, _, rfl, rfl, .inr ⟨by decide, by decide⟩, _, _, rfl, rfl, _, _, rfl, rfl, _, _, rfl, rfl, .inr ⟨by decide, by decide⟩, _, _, rfl, rfl, (by show (0 : Int) < 2147483647; decide), ?_⟩
      generalize (z % 2147483629 + (a + 1) * (a + 1) * 7919 + 11) * 48271 = y
      have y0 := Int.emod_nonneg y (by decide : (2147483647 : Int) ≠ 0)
      have y1 := Int.emod_lt_of_pos y (by decide : (0 : Int) < 2147483647)
      refine ⟨_, rfl, _, rfl, _, _, rfl, rfl, .inl ⟨by omega, by omega⟩, _, _, rfl, rfl, (by show (0 : Int) < 1999999973; decide), ?_⟩
      exact ⟨_, rfl, _, _, rfl, rfl, ⟨by decide, by decide⟩, _, rfl, _, _, rfl, rfl, hm, q _ _ (Int.emod_nonneg _ (by omega)) (Int.emod_lt_of_pos _ hm) ⟨_, _, _, _, upd_same, hc' _, h0, h64, by omega, by omega⟩ (kp _ _)⟩
end
end FB

namespace FB
open PySem PySem.Spec PyProof.Rows L2
section
variable {P : Program} {w : World} {K : PySem.W.Frag} {mg : Str → Option Value} {base : Heap}
theorem ok_drawn {f : Addr} {fd : FuncData} (F : Fun K "_law_drawn" "_law_drawn" s_drawn f fd) (B : Blt mg) : FnOk P w K mg base CX0 1 f fd ["_law_script"] (spDrawn K) := by
  refine F.ok sc_drawn (fun vs H Q E h => ?_) (fun cdv A outer s H vs Q E hr h => ?_)
  · obtain ⟨a, ns, rfl, _⟩ := h
    rfl
  · obtain ⟨a, ns, rfl, hS, hl, q⟩ := h
    refine ⟨_, pss_cons (ps_set (i := 1) sc_drawn.nd rfl (Or.inl rfl) (pe_op op_cat (pe_callTy call_list_of (by rfl) B.list (by decide +kernel) (pa_cons (pv 0) pa_nil)) (pe_op op_rep (pe_lst (pa_cons pe_int pa_nil)) (pe_callTy call_int1 (by rfl) B.int (by decide +kernel) (pa_cons (pe_cmpR (op_eqD hr.units) (pv 0) (pe_lst pa_nil) (nomark _)) pa_nil)))))
    (pss_one (ps_ret (pe_disp (pps_cons pe_str (pv 1) (pps_cons pe_str pe_int (pps_cons pe_str pe_int (pps_cons pe_str (pe_op op_fdiv (pe_ix ix_list (pv 1) pe_int (fun _ _ => rfl)) pe_int) (pps_cons pe_str (pe_cmpR op_eq (pe_op op_mod (pe_ix ix_list (pv 1) pe_int (fun _ _ => rfl)) pe_int) pe_int (nomark _)) pps_nil))))) (by rfl) (by rfl) (fun z => by cases z) (by decide)))), ?_⟩
    refine ⟨_, rfl, a, _, rfl, .inl hS, fun l1 n1 => ?_⟩
    have s1 := same_new (o := .lst (ns.map V.int)) n1
    refine ⟨by show 1 ≤ sizeLine; decide, fun l2 n2 => ?_⟩
    have s2 := same_new (o := .lst [V.int 0]) n2
    refine ⟨_, rfl, Nat.zero_le _, fun l3 n3 => ?_⟩
    have s3 := same_new (o := .lst []) n3
    refine ⟨.list (ns.map PyData.int), .list [], .lst ((s1.trans (s2.trans s3)).seq hS) (dpall_int ns), .lst (SqL.of upd_same) .nil, shaped_ints ns, rfl, ?_⟩
    refine .inr ⟨_, rfl, ?_⟩
    have hb : ns = [] → PyData.eqv (.list (ns.map PyData.int)) (.list []) = true := fun e => by
      subst e
      rfl
    generalize PyData.eqv (.list (ns.map PyData.int)) (.list []) = b at hb
    have h2 : upd (upd (upd H l1 (.lst (ns.map V.int))) l2 (.lst [V.int 0])) l3 (.lst []) l2 = some (.lst [V.int 0]) := s3 _ _ upd_same
    have h1 : upd (upd (upd H l1 (.lst (ns.map V.int))) l2 (.lst [V.int 0])) l3 (.lst []) l1 = some (.lst (ns.map V.int)) := s3 _ _ (s2 _ _ upd_same)
    have hk : [V.int 0].length * (if b = true then (1 : Int) else 0).toNat ≤ sizeLine := by
      cases b <;> decide
    refine ⟨l2, _, _, rfl, rfl, h2, by cases b <;> decide, by cases b <;> decide, hk, fun l4 n4 => ?_⟩
    have s4 := same_new (o := .lst (List.replicate (if b = true then (1 : Int) else 0).toNat [V.int 0]).flatten) n4
    have ecs : ns.map V.int ++ (List.replicate (if b = true then (1 : Int) else 0).toNat [V.int 0]).flatten = (ns ++ List.replicate (if b = true then (1 : Int) else 0).toNat 0).map V.int := by
      cases b <;> simp
    have el : (ns.map V.int).length + (List.replicate (if b = true then (1 : Int) else 0).toNat [V.int 0]).flatten.length ≤ sizeLine := by
      have h : 64 ≤ sizeLine := by decide
      cases b <;> simp <;> omega
    refine ⟨l1, l4, _, _, rfl, rfl, s4 _ _ h1, upd_same, el, fun c nc => ?_⟩
    rw [ecs]
    have hlen : 0 < (ns ++ List.replicate (if b = true then (1 : Int) else 0).toNat 0).length ∧ (ns ++ List.replicate (if b = true then (1 : Int) else 0).toNat 0).length ≤ 64 := by
      rw [List.length_append, List.length_replicate]
      cases ns with
      | nil =>
        rw [hb rfl]
        decide
      | cons x r =>
        rw [List.length_cons] at hl ⊢
        omega
    generalize (ns ++ List.replicate (if b = true then (1 : Int) else 0).toNat 0) = cs at hlen
    have s5 := same_new (o := .lst (cs.map V.int)) nc
    have sm := s1.trans (s2.trans (s3.trans (s4.trans s5)))
    have hc5 : upd (upd (upd (upd (upd H l1 (.lst (ns.map V.int))) l2 (.lst [V.int 0])) l3 (.lst [])) l4 (.lst (List.replicate (if b = true then (1 : Int) else 0).toNat [V.int 0]).flatten)) c (.lst (cs.map V.int)) c = some (.lst (cs.map V.int)) := upd_same
    generalize upd (upd (upd (upd (upd H l1 (.lst (ns.map V.int))) l2 (.lst [V.int 0])) l3 (.lst [])) l4 (.lst (List.replicate (if b = true then (1 : Int) else 0).toNat [V.int 0]).flatten)) c (.lst (cs.map V.int)) = H5 at sm hc5
    obtain ⟨x, r, rfl⟩ : ∃ x r, cs = x :: r := by
      cases cs with
      | nil => exact absurd hlen.1 (by decide)
      | cons x r => exact ⟨x, r, rfl⟩
    refine fun d nd => ?_
    have s6 := same_new (o := .dK []) nd
    have hx : atI ((x :: r).map V.int) 0 = some (.int x) := atI_nat (j := 0) rfl
    refine ⟨_, rfl, _, rfl, c, _, _, _, rfl, rfl, SqL.of (s6 _ _ hc5), hx, _, _, rfl, rfl, ⟨by decide, by decide⟩, _, rfl, c, _, _, _, rfl, rfl, SqL.of (s6 _ _ hc5), hx, _, _, rfl, rfl, (by show (0 : Int) < 2; decide), rfl, upd_same, drawKvs c 0 60 (x / 2) (decide (V.int (x % 2) = V.int 0)), rfl, (by show 5 ≤ 15; decide), ?_⟩
    rw [merge_draw, upd_upd]
    have s7 := same_new (o := .dK (drawKvs c 0 60 (x / 2) (decide (V.int (x % 2) = V.int 0)))) nd
    exact q d c (x :: r) _ (sm.trans s7) (sm.free nd) ⟨0, 60, _, _, upd_same, s7 _ _ hc5, hlen.1, hlen.2, by decide, by decide⟩
end
end FB

namespace FB
open PySem PySem.Spec PyProof.Rows L2
section
variable {P : Program} {w : World} {K : PySem.W.Frag} {mg : Str → Option Value} {base : Heap}
theorem ok_has {f : Addr} {fd : FuncData} (F : Fun K "_law_has" "_law_has" s_has f fd) : FnOk P w K mg base CX0 1 f fd ["_law_span", "_law_key_here"] (spHas K) := by
  refine F.ok sc_has (fun vs H Q E h => ?_) (fun cdv A outer s H vs Q E hr h => ?_)
  · obtain ⟨p, l, h, k, rfl, _⟩ := h
    rfl
  · obtain ⟨p, l, h, k, rfl, hT, q⟩ := h
    refine ⟨_, pss_one (ps_ret (pe_and (pe_not (pe_cmpR op_lt_str (pv 1) (pe_ix ix_tup (pv 0) pe_int (fun _ _ => rfl)) (nomark _))) (pe_one (pe_or (pe_cmpR op_eq (pe_ix ix_tup (pv 0) pe_int (fun _ _ => rfl)) pe_str (nomark _)) (pe_one (pe_cmpR op_lt_str (pv 1) (pe_ix ix_tup (pv 0) pe_int (fun _ _ => rfl)) (nomark _))))))), ?_⟩
    refine ⟨_, rfl, _, rfl, p, _, _, _, rfl, rfl, hT, atI_nat (j := 0) rfl, _, _, rfl, rfl, _, rfl, _, rfl, ite2 (fun e1 => ?_) (fun e1 => ?_)⟩
    · refine ⟨_, rfl, p, _, _, _, rfl, rfl, hT, atI_nat (j := 1) rfl, rfl, _, rfl, ite2 (fun e2 => ?_) (fun e2 => ?_)⟩
      · have e : hasB l h k = true := by
          unfold hasB ltS
          rw [e1, e2]
          rfl
        rw [e] at q
        exact q
      · have e : hasB l h k = decide (k.cps.toList < h.cps.toList) := by
          unfold hasB ltS
          rw [e1, Bool.eq_false_iff.mpr e2]
          rfl
        rw [e] at q
        exact ⟨_, rfl, _, rfl, p, _, _, _, rfl, rfl, hT, atI_nat (j := 1) rfl, _, _, rfl, rfl, q⟩
    · have e : hasB l h k = false := by
        unfold hasB ltS
        rw [Bool.eq_false_iff.mpr e1]
        rfl
      rw [e] at q
      exact q
end
end FB

namespace FB
open PySem PySem.Spec PyProof.Rows L2
def abc : Str := "abcdefghijklmnopqrstuvwxyz"
theorem abc_at : ∀ j : Nat, j < 26 → abc.cps.toList[j]? = some (97 + j) := by decide +kernel
theorem letter {v : Int} (h0 : 0 ≤ v) (h1 : v < 26) : ∃ c : Nat, atI abc.cps.toList v = some c ∧ 97 ≤ c ∧ c ≤ 122 := by
  obtain ⟨j, rfl⟩ : ∃ j : Nat, v = (j : Int) := ⟨v.toNat, (Int.toNat_of_nonneg h0).symm⟩
  exact ⟨97 + j, atI_nat (abc_at j (by omega)), by omega, by omega⟩
theorem abc_len : abc.length ≤ sizeLine := by decide +kernel
def menu : List Str := ["a", "b", "aa", "ab", "m", "mm", "z", "zzzzzzzz", "azzzzzzz", "aaaaaaaa"]
theorem menu_keys : ∀ z ∈ menu, IsKey z := by
  unfold IsKey
  decide +kernel
theorem at_list {α : Type} {xs : List α} {v : Int} (h0 : 0 ≤ v) (h1 : v < (xs.length : Int)) : ∃ x ∈ xs, atI xs v = some x := by
  obtain ⟨j, rfl⟩ : ∃ j : Nat, v = (j : Int) := ⟨v.toNat, (Int.toNat_of_nonneg h0).symm⟩
  have hj : j < xs.length := by omega
  exact ⟨xs[j], List.getElem_mem hj, atI_nat (List.getElem?_eq_getElem hj)⟩
def Letter (y : Str) : Prop := ∃ c : Nat, y = ⟨#[c]⟩ ∧ 97 ≤ c ∧ c ≤ 122
theorem key_k {c : Nat} (h : 97 ≤ c) (h2 : c ≤ 122) : IsKey (("k" : Str) ++ ⟨#[c]⟩) := by
  have e : ("k" : Str) ++ (⟨#[c]⟩ : Str) = ⟨#[107, c]⟩ := by rfl
  rw [e]
  refine ⟨by show 0 < 2; decide, by show 2 ≤ 8; decide, fun x hx => ?_⟩
  have : x = 107 ∨ x = c := by simpa using hx
  omega
theorem join_letters : ∀ ys : List Str, (∀ y ∈ ys, Letter y) → (Str.join ⟨#[]⟩ ys).length = ys.length ∧ ∀ c ∈ (Str.join ⟨#[]⟩ ys).cps.toList, 97 ≤ c ∧ c ≤ 122
  | [], _ => ⟨rfl, fun c hc => by simp [Str.join, Str.empty] at hc⟩
  | y :: r, h => by
    obtain ⟨c, rfl, h1, h2⟩ := h y (by simp)
    obtain ⟨e1, e2⟩ := join_letters r fun y hy => h y (by simp [hy])
    have ej : Str.join ⟨#[]⟩ (⟨#[c]⟩ :: r) = (⟨#[c]⟩ : Str) ++ Str.join ⟨#[]⟩ r := join_nil_cons _ _
    rw [ej]
    have ec : ((⟨#[c]⟩ : Str) ++ Str.join ⟨#[]⟩ r).cps = #[c] ++ (Str.join ⟨#[]⟩ r).cps := rfl
    refine ⟨?_, fun x hx => ?_⟩
    · show ((⟨#[c]⟩ : Str) ++ Str.join ⟨#[]⟩ r).cps.size = _
      rw [ec]
      have : (Str.join ⟨#[]⟩ r).cps.size = r.length := e1
      simp [this]
      omega
    · rw [ec] at hx
      have : x = c ∨ x ∈ (Str.join ⟨#[]⟩ r).cps.toList := by simpa using hx
      rcases this with q | q
      · omega
      · exact e2 x q
theorem sum_letters : ∀ ys : List Str, (∀ y ∈ ys, Letter y) → (ys.map (·.length)).sum = ys.length
  | [], _ => rfl
  | y :: r, h => by
    obtain ⟨c, rfl, _⟩ := h y (by simp)
    have ih := sum_letters r fun y hy => h y (by simp [hy])
    rw [List.map_cons, List.sum_cons, ih, List.length_cons]
    show 1 + r.length = r.length + 1
    omega
theorem txt_join (ys : List Str) : Txt.join ("" : Str) ys = Str.join ⟨#[]⟩ ys := by
  have h := join_plain_closes ("" : Str) ys
  exact (beq_iff_eq.mp h)
section
variable {P : Program} {w : World} {K : PySem.W.Frag} {mg : Str → Option Value} {base : Heap}
theorem ok_key {f : Addr} {fd : FuncData} (F : Fun K "_law_key" "_law_key" s_key f fd) (B : Blt mg) (D_pick : DefOk P w K mg base 1 "_law_pick" ["_law_draw", "_law_many"] spPick) : FnOk P w K mg base CX0 2 f fd ["_law_draw"] spKey := by
  refine F.ok sc_key (fun vs H Q E h => ?_) (fun cdv A outer s H vs Q E hr h => ?_)
  · obtain ⟨d, c0, cs, n, rfl, _⟩ := h
    rfl
  · obtain ⟨d, c0, cs, n, rfl, hD, hn, q⟩ := h
    refine ⟨_, pss_cons (ps_set (i := 1) sc_key.nd rfl (Or.inl rfl) (pe_def D_pick (hr.mono (by omega)) (by rfl) (pa_cons (pv 0) (pa_cons pe_int pa_nil))))
    (pss_cons (ps_if (pt_cmpR op_eq (pv 1) pe_int (nomark _))
      (pss_one (ps_ret (pe_ix ix_list (pe_lst (pa_cons pe_str (pa_cons pe_str (pa_cons pe_str (pa_cons pe_str (pa_cons pe_str (pa_cons pe_str (pa_cons pe_str (pa_cons pe_str (pa_cons pe_str (pa_cons pe_str pa_nil))))))))))) (pe_def D_pick (hr.mono (by omega)) (by rfl) (pa_cons (pv 0) (pa_cons pe_int pa_nil))) (fun _ _ => rfl)))) pss_nil)
    (pss_cons (ps_if (pt_cmpR op_eq (pv 1) pe_int (nomark _))
      (pss_one (ps_ret (pe_op op_add_str pe_str (pe_ix ix_str pe_str (pe_def D_pick (hr.mono (by omega)) (by rfl) (pa_cons (pv 0) (pa_cons pe_int pa_nil))) (fun _ _ => rfl))))) pss_nil)
    (pss_one (ps_ret (pe_join pe_str (pe_lc (own := [("_law_k", 2)]) (g := gName 2) (tt := tYes) rfl sc_key.nd (pi_range1 (by rfl) B.range (pa_cons (pe_op op_add pe_int (pe_def D_pick (hr.mono (by omega)) (by rfl) (pa_cons (pv 0) (pa_cons pe_int pa_nil)))) pa_nil)) (blkOk_by (own := [("_law_k", 2)]) (N := ["_law_draw", "_law_way", "_law_k"]) (sc := defScope s_key) (by decide +kernel)) (fun _ _ _ _ _ => pg_name (i := 2) sc_key.nd rfl (Or.inl rfl)) (fun _ _ _ _ _ => pts_nil) (fun _ _ _ _ _ => pe_ix ix_str pe_str (pe_def D_pick (hr.mono (by omega)) (by rfl) (pa_cons (pv 0) (pa_cons pe_int pa_nil))) (fun _ _ => rfl)))))))), ?_⟩
    refine ⟨_, rfl, d, c0, cs, n, 3, rfl, hD, by decide, by decide, by omega, fun v H1 v0 v1 D1 k1 => ?_⟩
    obtain ⟨kvs1, hd1⟩ := D1.is
    refine ⟨_, rfl, rfl, _, rfl, ite2 (fun e => ?_) (fun e => ?_)⟩
    · refine ⟨by show 10 ≤ sizeLine; decide, fun l nl => ?_⟩
      have s2 := same_new (o := .lst (menu.map V.str)) nl
      refine ⟨_, rfl, d, c0, cs, n + 1, 10, rfl, D1.same s2, by decide, by decide, by omega, fun v2 H2 w0 w1 D2 k2 => ?_⟩
      obtain ⟨z', hz', ha⟩ := at_list (xs := menu.map V.str) w0 (by show v2 < 10; exact w1)
      obtain ⟨z, hz, rfl⟩ := List.mem_map.mp hz'
      have nld : l ≠ d := (ne_of_none hd1 nl).symm
      refine ⟨l, _, _, _, rfl, rfl, SqL.of (k2 _ _ upd_same nld), ha, ?_⟩
      exact q z H2 (menu_keys z hz) (D2.mono (by omega)) (k1.trans ((keep_same s2).trans k2))
    · refine ⟨_, rfl, rfl, _, rfl, ite2 (fun e => ?_) (fun e => ?_)⟩
      · refine ⟨_, rfl, d, c0, cs, n + 1, 26, rfl, D1, by decide, by decide, by omega, fun v2 H2 w0 w1 D2 k2 => ?_⟩
        obtain ⟨c, hc, c1, c2⟩ := letter w0 w1
        refine ⟨abc, _, c, rfl, rfl, abc_len, hc, _, _, rfl, rfl, by show 1 + 1 ≤ sizeLine; decide, ?_⟩
        exact q _ H2 (key_k c1 c2) (D2.mono (by omega)) (k1.trans k2)
      · refine ⟨⟨_, rfl⟩, _, rfl, d, c0, cs, n + 1, 8, rfl, D1, by decide, by decide, by omega, fun v2 H2 w0 w1 D2 k2 => ?_⟩
        obtain ⟨kvs2, hd2⟩ := D2.is
        refine ⟨_, _, rfl, rfl, _, rfl, by omega, by omega, fun D nD => lc_range (lo := 0) (n := (1 + v2).toNat) (fun i H' => ∃ ys : List Str, ys.length = i ∧ (∀ y ∈ ys, Letter y) ∧ H' D = some (.lst (ys.map V.str)) ∧ DrawAt H' d c0 cs (n + 2 + i) ∧ Keep d H2 H') ?_ ?_ ?_⟩
        · exact ⟨[], rfl, fun y hy => by simp at hy, upd_same, D2.same (same_new nD), keep_same (same_new nD)⟩
        · rintro i H' hi ⟨ys, hl, hy, hDl, D', k'⟩
          have nDd : D ≠ d := (ne_of_none hd2 nD).symm
          refine ⟨rfl, ?_⟩
          refine ⟨_, rfl, d, c0, cs, n + 2 + i, 26, rfl, D', by decide, by decide, by omega, fun v3 H3 x0 x1 D3 k3 => ?_⟩
          obtain ⟨c, hc, c1, c2⟩ := letter x0 x1
          have hD3 := k3 _ _ hDl nDd
          refine ⟨abc, _, c, rfl, rfl, abc_len, hc, _, hD3, small1000 (by rw [List.length_map]; omega), ys ++ [⟨#[c]⟩], by rw [List.length_append, hl]; rfl, fun y my => ?_, ?_, ?_, ?_⟩
          · rcases List.mem_append.mp my with m | m
            · exact hy y m
            · exact ⟨c, by simpa using m, c1, c2⟩
          · rw [upd_same, List.map_append]
            rfl
          · exact D3.upd nDd (D2.neC nD)
          · exact keep_mut (k'.trans k3) nD
        · rintro H' ⟨ys, hl, hy, hDl, D', k'⟩
          refine ⟨_, D, ys, rfl, rfl, .inl (SqL.of hDl), by rw [sum_letters ys hy]; show ys.length + ys.length * 0 ≤ _; omega, ?_⟩
          rw [txt_join]
          obtain ⟨e1, e2⟩ := join_letters ys hy
          exact q _ H' ⟨by rw [e1]; omega, by rw [e1]; omega, e2⟩ (D'.mono (by omega)) (k1.trans (k2.trans k'))
end
end FB

namespace FB
open PySem PySem.Spec PyProof.Rows L2
section
variable {P : Program} {w : World} {K : PySem.W.Frag} {mg : Str → Option Value} {base : Heap}
theorem ok_spans {f : Addr} {fd : FuncData} (F : Fun K "_law_spans" "_law_spans" s_spans f fd) (B : Blt mg) (D_pick : DefOk P w K mg base 1 "_law_pick" ["_law_draw", "_law_many"] spPick) (D_key : DefOk P w K mg base 2 "_law_key" ["_law_draw"] spKey) :
    FnOk P w K mg base CX0 3 f fd ["_law_draw", "_law_most"] spSpans := by
  refine F.ok sc_spans (fun vs H Q E h => ?_) (fun cdv A outer s H vs Q E hr h => ?_)
  · obtain ⟨d, c, cs, n, m, rfl, _⟩ := h
    rfl
  · obtain ⟨d, c, cs, n, m, rfl, hD, hn, hm0, hm1, q⟩ := h
    refine ⟨_, pss_cons (ps_set (i := 2) sc_spans.nd rfl (Or.inl rfl) (pe_lst pa_nil))
    (pss_cons (ps_for PassesOwn.never rfl (pi_range1 (by rfl) B.range (pa_cons (pe_def D_pick (hr.mono (by omega)) (by rfl) (pa_cons (pv 0) (pa_cons (pv 1) pa_nil))) pa_nil)) (pg_name (i := 3) sc_spans.nd rfl (Or.inl rfl))
      (pss_cons (ps_set (i := 4) sc_spans.nd rfl (Or.inl rfl) (pe_def D_key (hr.mono (by omega)) (by rfl) (pa_cons (pv 0) pa_nil)))
      (pss_one (ps_if (pt_cmpR op_notIn_seq (pv 4) (pv 2) (by rfl))
        (pss_one (ps_expr (pe_bm PySem.F.plainAttrs_list PySem.F.slot_list_append PySem.F.type_list_append mt_append (pv 2) (pa_cons (pv 4) pa_nil)))) pss_nil))))
    (pss_cons (ps_set (i := 2) sc_spans.nd rfl (Or.inl rfl) (pe_op op_cat (pe_op op_cat (pe_lst (pa_cons pe_str pa_nil)) (pe_callB cr_sortedS (by rfl) B.sorted (by decide +kernel) (pa_cons (pv 2) pa_nil))) (pe_lst (pa_cons pe_str pa_nil))))
    (pss_cons (ps_set (i := 5) sc_spans.nd rfl (Or.inl rfl) (pe_lst pa_nil))
    (pss_cons (ps_set (i := 6) sc_spans.nd rfl (Or.inl rfl) (pe_cmpR op_eq (pe_def D_pick (hr.mono (by omega)) (by rfl) (pa_cons (pv 0) (pa_cons pe_int pa_nil))) pe_int (nomark _)))
    (pss_cons (ps_for PassesOwn.never rfl (pi_zip (by rfl) B.zip (pa_cons (pv 2) (pa_cons (pe_slice sl_list (pv 2) (po_some pe_int) po_none) pa_nil))) (pg_tup rfl (pgs_cons (pg_name (i := 7) sc_spans.nd rfl (Or.inl rfl)) (pgs_cons (pg_name (i := 8) sc_spans.nd rfl (Or.inl rfl)) pgs_nil)))
      (pss_one (ps_if (PW.pt (pw_and (pt_cmpR (op_neD hr.units) (pe_tup (pa_cons (pv 7) (pa_cons (pv 8) pa_nil))) (pe_tup (pa_cons pe_str (pa_cons pe_str pa_nil))) (nomark _)) (pw_and1 (PW.pt (pw_or (pt_val (pv 6)) (pw_or1 (pt_cmpR op_gt (pe_def D_pick (hr.mono (by omega)) (by rfl) (pa_cons (pv 0) (pa_cons pe_int pa_nil))) pe_int (nomark _))))))))
        (pss_one (ps_expr (pe_bm PySem.F.plainAttrs_list PySem.F.slot_list_append PySem.F.type_list_append mt_append (pv 5) (pa_cons (pe_tup (pa_cons (pv 7) (pa_cons (pv 8) pa_nil))) pa_nil)))) pss_nil)))
    (pss_one (ps_ret (pv 5)))))))), ?_⟩
    refine ⟨Nat.zero_le _, fun kl nkl => ?_⟩
    have s1 := same_new (o := .lst []) nkl
    have nkd : kl ≠ d := hD.ne nkl
    have nkc : kl ≠ c := hD.neC nkl
    refine ⟨_, rfl, _, rfl, d, c, cs, n, m, rfl, hD.same s1, hm0, by omega, by omega, fun v H2 v0 v1 D2 k2 => ?_⟩
    refine ⟨v, rfl, by omega, by omega, for_range (lo := 0) (n := v.toNat) (fun i σ H' => ∃ v3 v4, ∃ ks : List Str, σ = [some (.ref d), some (.int m), some (.ref kl), v3, v4, none, none, none, none] ∧ ks.length ≤ i ∧ (∀ k ∈ ks, IsKey k) ∧ ks.Nodup ∧ H' kl = some (.lst (ks.map V.str)) ∧ DrawAt H' d c cs (n + 1 + 11 * i) ∧ Keep d H H') ?_ ?_ ?_⟩
    · exact ⟨none, none, [], rfl, Nat.zero_le _, fun k hk => by simp at hk, List.nodup_nil, k2 _ _ upd_same nkd, D2, (keep_same s1).trans k2⟩
    · rintro i σ H' hi ⟨v3, v4, ks, rfl, hl, hk, nd, hkl, D', k'⟩
      refine ⟨_, rfl, d, c, cs, n + 1 + 11 * i, rfl, D', by omega, fun z H3 hz D3 k3 => ?_⟩
      have hkl3 := k3 _ _ hkl nkd
      refine ⟨_, rfl, _, rfl, kl, _, rfl, .inl (SqL.of hkl3), rfl, flat_strs ks, _, rfl, ite2 (fun e => ?_) (fun e => ?_)⟩
      · have e1 : (!inV (.str z) (ks.map V.str)) = true := e
        rw [inV_str] at e1
        have hno : z ∉ ks := by
          intro h
          rw [decide_eq_true h] at e1
          cases e1
        refine ⟨_, rfl, .inl ⟨rfl, _, SqL.of hkl3⟩, _, rfl, kl, _, _, rfl, rfl, hkl3, small1000 (by rw [List.length_map]; omega), _, _, ks ++ [z], rfl, by rw [List.length_append]; show ks.length + 1 ≤ _; omega, fun x hx => ?_, ?_, ?_, ?_, ?_⟩
        · rcases List.mem_append.mp hx with h | h
          · exact hk x h
          · rw [show x = z by simpa using h]
            exact hz
        · rw [List.nodup_append]
          exact ⟨nd, by simp, fun a ha b hb e => hno (by rw [show b = z by simpa using hb] at e; rw [← e]; exact ha)⟩
        · rw [upd_same, List.map_append]
          rfl
        · exact (D3.upd nkd nkc).mono (by omega)
        · exact keep_mut (k'.trans k3) nkl
      · exact ⟨_, _, ks, rfl, by omega, hk, nd, hkl3, D3.mono (by omega), k'.trans k3⟩
    · rintro σ H3 ⟨v3, v4, ks, rfl, hl, hk, nd, hkl, D3, k3⟩
      -- keys = [''] + sorted(keys) + ['']
      refine ⟨by show 1 ≤ sizeLine; decide, fun l1 n1 => ?_⟩
      have t1 := same_new (o := .lst [V.str ""]) n1
      refine ⟨_, rfl, kl, ks, rfl, SqL.of (t1 _ _ hkl), by omega, fun ys p perm srt np => ?_⟩
      have t2 := same_new (o := .lst (ys.map V.str)) np
      have hyl : ys.length ≤ 20 := by
        rw [perm.length_eq]
        omega
      have hys : ∀ k ∈ ys, IsKey k := fun k h => hk k (perm.mem_iff.mp h)
      have hst := strict_of_sorted ys srt (perm.nodup_iff.mpr nd)
      refine ⟨l1, p, _, _, rfl, rfl, t2 _ _ upd_same, upd_same, by rw [List.length_map]; show 1 + ys.length ≤ sizeLine; exact Nat.le_trans (show 1 + ys.length ≤ 100 by omega) (by decide), fun l2 n2 => ?_⟩
      have t3 := same_new (o := .lst ([V.str ""] ++ ys.map V.str)) n2
      refine ⟨by show 1 ≤ sizeLine; decide, fun l3 n3 => ?_⟩
      have t4 := same_new (o := .lst [V.str ""]) n3
      refine ⟨l2, l3, _, _, rfl, rfl, t4 _ _ upd_same, upd_same, by rw [List.length_append, List.length_map]; show 1 + ys.length + 1 ≤ sizeLine; exact Nat.le_trans (show 1 + ys.length + 1 ≤ 100 by omega) (by decide), fun l4 n4 => ?_⟩
      have t5 := same_new (o := .lst ([V.str ""] ++ ys.map V.str ++ [V.str ""])) n4
      have t15 := t1.trans (t2.trans (t3.trans (t4.trans t5)))
      have efull : [V.str ""] ++ ys.map V.str ++ [V.str ""] = ((("" : Str) :: (ys ++ [("" : Str)])).map V.str) := by simp
      rw [efull] at t5 t15 ⊢
      have h4 : upd (upd (upd (upd (upd H3 l1 (.lst [V.str ""])) p (.lst (ys.map V.str))) l2 (.lst ([V.str ""] ++ ys.map V.str))) l3 (.lst [V.str ""])) l4 (.lst ((("" : Str) :: (ys ++ [("" : Str)])).map V.str)) l4 = some (.lst ((("" : Str) :: (ys ++ [("" : Str)])).map V.str)) := upd_same
      generalize upd (upd (upd (upd (upd H3 l1 (.lst [V.str ""])) p (.lst (ys.map V.str))) l2 (.lst ([V.str ""] ++ ys.map V.str))) l3 (.lst [V.str ""])) l4 (.lst ((("" : Str) :: (ys ++ [("" : Str)])).map V.str)) = H4 at t15 h4
      have hfl : (("" : Str) :: (ys ++ [("" : Str)])).length = ys.length + 2 := by simp
      have D4 := D3.same t15
      have k4 := k3.trans (keep_same t15)
      have hfk := full_keys hys
      generalize hfull : (("" : Str) :: (ys ++ [("" : Str)])) = full at h4 hfl hfk
      -- spans_here = []
      refine ⟨Nat.zero_le _, fun sl nsl => ?_⟩
      have u1 := same_new (o := .lst []) nsl
      have nsd : sl ≠ d := D4.ne nsl
      have nsc : sl ≠ c := D4.neC nsl
      have ns4 : sl ≠ l4 := (ne_of_none h4 nsl).symm
      have nslH : H sl = none := keep_free k4 (by obtain ⟨kk, hkk⟩ := D4.is; exact ⟨_, hkk⟩) nsl
      refine ⟨_, rfl, d, c, cs, n + 1 + 11 * v.toNat, 2, rfl, D4.same u1, by decide, by decide, by omega, fun v5 H5 _ _ D5 k5 => ?_⟩
      refine ⟨rfl, ?_⟩
      have h45 := k5 _ _ (u1 _ _ h4) (by intro z; subst z; obtain ⟨kk, hkk⟩ := D4.is; rw [hkk] at h4; cases h4)
      have hs5 := k5 _ _ (upd_same (H := H4) (a := sl) (o := .lst [])) nsd
      -- zip(keys, keys[1:])
      refine ⟨_, rfl, _, rfl, _, rfl, l4, _, rfl, SqL.of h45, fun cc ncc => ?_⟩
      have w1 := same_new (o := .lst (cutV (full.map V.str) (some 1) none)) ncc
      rw [cut1] at w1 ⊢
      have D6 := D5.same w1
      have h46 := w1 _ _ h45
      have hs6 := w1 _ _ hs5
      have hc6 : upd H5 cc (.lst ((full.map V.str).drop 1)) cc = some (.lst ((full.map V.str).drop 1)) := upd_same
      have k6 := (keep_mut (o := .lst []) k4 nslH)
      have k6 := (keep_mut (o := .lst []) k4 nslH).trans (k5.trans (keep_same w1))
      have nscc : sl ≠ cc := ne_of_none hs5 ncc
      have ncd : cc ≠ d := D5.ne ncc
      have n4d : l4 ≠ d := by intro z; subst z; obtain ⟨kk, hkk⟩ := D4.is; rw [hkk] at h4; cases h4
      generalize upd H5 cc (.lst ((full.map V.str).drop 1)) = H6 at D6 h46 hs6 hc6 k6
      obtain ⟨Pv, hPv⟩ : ∃ Pv : Nat → L2.St → Hp → Prop, ∀ i σ H', Pv i σ H' ↔ ∃ y7 y8, ∃ zs : List Sp3, σ = [some (.ref d), some (.int m), some (.ref l4), v3, v4, some (.ref sl), some (.bl (decide (V.int v5 = V.int 0))), y7, y8] ∧ (zs.map (·.2)).Sublist ((nexts full).take i) ∧ (∀ z ∈ zs, z.2 ≠ (("" : Str), ("a" : Str))) ∧ zs.length ≤ i ∧ SpansAt H' sl zs ∧ H' l4 = some (.lst (full.map V.str)) ∧ H' cc = some (.lst ((full.map V.str).drop 1)) ∧ DrawAt H' d c cs (n + 2 + 11 * v.toNat + i) ∧ Keep d H H' := ⟨_, fun _ _ _ => Iff.rfl⟩
      refine ⟨l4, cc, _, _, rfl, SqL.of h46, SqL.of hc6, for_zipG (xs := full.map V.str) (ys := (full.map V.str).drop 1) (ys.length + 1) (by rw [List.length_map]; omega) (by rw [List.length_drop, List.length_map]; omega) (.inr (by rw [List.length_drop, List.length_map]; omega)) Pv ?_ ?_ ?_ ?_⟩
      · exact (hPv _ _ _).mpr ⟨none, none, [], rfl, by simp, fun z hz => by simp at hz, Nat.le_refl _, ⟨hs6, fun z hz => by simp at hz⟩, h46, hc6, D6.mono (by omega), k6⟩
      · intro i σ H' hp
        obtain ⟨_, _, _, _, _, _, _, _, a1, a2, _, _⟩ := (hPv _ _ _).mp hp
        exact ⟨SqL.of a1, SqL.of a2⟩
      · intro i x y T σ H' hx hy hp nT
        obtain ⟨y7, y8, zs, rfl, hsub, hno, hzl, hZ, a1, a2, D', k'⟩ := (hPv _ _ _).mp hp
        rw [List.getElem?_map] at hx
        rw [List.getElem?_drop, List.getElem?_map, Nat.add_comm 1 i] at hy
        obtain ⟨x, hx', rfl⟩ := Option.map_eq_some_iff.mp hx
        obtain ⟨y, hy', rfl⟩ := Option.map_eq_some_iff.mp hy
        have hg := nexts_get full i x y hx' hy'
        have hil : i < ys.length + 1 := by
          have := (List.getElem?_eq_some_iff.mp hy').1
          omega
        have etake : (nexts full).take (i + 1) = (nexts full).take i ++ [(x, y)] := by
          rw [List.take_add_one, hg]
          rfl
        refine ⟨T, _, rfl, SqT.of upd_same, rfl, _, _, rfl, _, _, rfl, rfl, ?_⟩
        have x1 := same_new (o := .tup [V.str x, V.str y]) nT
        -- nothing is put
        have els : ∀ H7, SpansAt H7 sl zs → H7 l4 = some (.lst (full.map V.str)) → H7 cc = some (.lst ((full.map V.str).drop 1)) → DrawAt H7 d c cs (n + 2 + 11 * v.toNat + (i + 1)) → Keep d H H7 →
            Pv (i + 1) [some (.ref d), some (.int m), some (.ref l4), v3, v4, some (.ref sl), some (.bl (decide (V.int v5 = V.int 0))), some (.str x), some (.str y)] H7 := fun H7 b1 b2 b3 b4 b5 =>
          (hPv _ _ _).mpr ⟨_, _, zs, rfl, by rw [etake]; exact hsub.trans (List.sublist_append_left _ _), hno, by omega, b1, b2, b3, b4, b5⟩
        have app : ∀ H7, (x, y) ≠ (("" : Str), ("a" : Str)) → SpansAt H7 sl zs → H7 l4 = some (.lst (full.map V.str)) → H7 cc = some (.lst ((full.map V.str).drop 1)) → DrawAt H7 d c cs (n + 2 + 11 * v.toNat + (i + 1)) → Keep d H H7 → ∀ t, H7 t = none →
            Pv (i + 1) [some (.ref d), some (.int m), some (.ref l4), v3, v4, some (.ref sl), some (.bl (decide (V.int v5 = V.int 0))), some (.str x), some (.str y)] (upd (upd H7 t (.tup [.str x, .str y])) sl (.lst (zs.map (fun z => V.ref z.1) ++ [.ref t]))) := fun H7 hxy b1 b2 b3 b4 b5 t nt => by
          have st := same_new (o := .tup [V.str x, V.str y]) nt
          refine (hPv _ _ _).mpr ⟨_, _, zs ++ [(t, x, y)], rfl, ?_, ?_, ?_, ⟨?_, ?_⟩, ?_, ?_, ?_, ?_⟩
          · rw [etake, List.map_append]
            exact hsub.append (List.Sublist.refl _)
          · intro z hz
            rcases List.mem_append.mp hz with h | h
            · exact hno z h
            · rw [show z = (t, x, y) by simpa using h]
              exact hxy
          · rw [List.length_append]
            show zs.length + 1 ≤ i + 1
            omega
          · rw [upd_same, List.map_append]
            rfl
          · intro z hz
            have hz' : upd H7 t (.tup [.str x, .str y]) z.1 = some (.tup [.str z.2.1, .str z.2.2]) := by
              rcases List.mem_append.mp hz with h | h
              · exact st _ _ (b1.tp z h)
              · rw [show z = (t, x, y) by simpa using h]
                exact upd_same
            rw [upd_ne (ne_of hz' (st _ _ b1.ls) (by intro z; cases z))]
            exact hz'
          · rw [upd_ne ns4.symm]
            exact st _ _ b2
          · rw [upd_ne nscc.symm]
            exact st _ _ b3
          · exact (b4.same st).upd nsd nsc
          · exact keep_mut (b5.trans (keep_same st)) nslH
        have hlen : (zs.map (fun z => V.ref z.1)).length < sizeLine := by
          rw [List.length_map]
          exact small1000 (by omega)
        -- (low, high) != ('', 'a')
        refine ⟨_, rfl, _, rfl, by show 2 ≤ sizeLine; decide, fun t1 n1 => ?_⟩
        have x2 := same_new (o := .tup [V.str x, V.str y]) n1
        refine ⟨by show 2 ≤ sizeLine; decide, fun t2 n2 => ?_⟩
        have x3 := same_new (o := .tup [V.str "", V.str "a"]) n2
        refine ⟨.tuple [.str x, .str y], .tuple [.str "", .str "a"], .tup (SqT.of (x3 _ _ upd_same)) (.cons (.str _) (.cons (.str _) .nil)), .tup (SqT.of upd_same) (.cons (.str _) (.cons (.str _) .nil)), shaped2 (hfk x (List.mem_of_getElem? hx')) (hfk y (List.mem_of_getElem? hy')), shaped2 (.inl rfl) key_a, _, rfl, ?_⟩
        have xs := x1.trans (x2.trans x3)
        generalize upd (upd (upd H' T (.tup [V.str x, V.str y])) t1 (.tup [V.str x, V.str y])) t2 (.tup [V.str "", V.str "a"]) = H7 at xs
        have b1 := hZ.same xs
        have b2 := xs _ _ a1
        have b3 := xs _ _ a2
        have b4 := (D'.same xs).mono (show n + 2 + 11 * v.toNat + i ≤ n + 2 + 11 * v.toNat + (i + 1) by omega)
        have b5 := k'.trans (keep_same xs)
        refine ite2 (fun e1 => ?_) (fun e1 => ?_)
        · have hxy : (x, y) ≠ (("" : Str), ("a" : Str)) := fun z => by
            have e2 : x = "" := congrArg Prod.fst z
            have e3 : y = "a" := congrArg Prod.snd z
            subst e2 e3
            revert e1
            decide +kernel
          refine ⟨_, rfl, _, rfl, ite2 (fun e2 => ?_) (fun e2 => ?_)⟩
          · exact ⟨_, rfl, .inl ⟨rfl, _, SqL.of b1.ls⟩, _, rfl, _, rfl, by show 2 ≤ sizeLine; decide, fun t nt => ⟨sl, _, _, rfl, rfl, (same_new nt) _ _ b1.ls, hlen, app H7 hxy b1 b2 b3 b4 b5 t nt⟩⟩
          · refine ⟨_, rfl, d, c, cs, n + 2 + 11 * v.toNat + i, 3, rfl, D'.same xs, by decide, by decide, by omega, fun v6 H8 _ _ D8 k8 => ?_⟩
            have c1 : SpansAt H8 sl zs := b1.keep k8 (b4.is)
            have c2 := k8 _ _ b2 n4d
            have c3 := k8 _ _ b3 ncd
            refine ⟨_, _, rfl, rfl, _, rfl, ite2 (fun e3 => ?_) (fun e3 => ?_)⟩
            · exact ⟨_, rfl, .inl ⟨rfl, _, SqL.of c1.ls⟩, _, rfl, _, rfl, by show 2 ≤ sizeLine; decide, fun t nt => ⟨sl, _, _, rfl, rfl, (same_new nt) _ _ c1.ls, hlen, app H8 hxy c1 c2 c3 D8 (b5.trans k8) t nt⟩⟩
            · exact els H8 c1 c2 c3 D8 (b5.trans k8)
        · exact els H7 b1 b2 b3 b4 b5
      · intro σ H7 hp
        obtain ⟨y7, y8, zs, rfl, hsub, hno, hzl, hZ, a1, a2, D', k'⟩ := (hPv _ _ _).mp hp
        refine ⟨_, rfl, ?_⟩
        refine q sl zs H7 ⟨ys, hys, hst, ?_, hno, by omega⟩ hZ (D'.mono (by omega)) k' nslH
        rw [hfull]
        exact hsub.trans (List.take_sublist _ _)
end
end FB

namespace FB
open PySem PySem.Spec PyProof.Rows L2
abbrev ends2 (z : Sp3) : List Str := [z.2.1, z.2.2].filter fun x => !decide (V.str x = V.str "")
theorem ends2_len (z : Sp3) : (ends2 z).length ≤ 2 := List.length_filter_le _ _
theorem flat_len : ∀ zs : List Sp3, (zs.map ends2).flatten.length ≤ 2 * zs.length
  | [] => by simp
  | z :: r => by
    have := flat_len r
    have := ends2_len z
    rw [List.map_cons, List.flatten_cons, List.length_append, List.length_cons]
    omega
section
variable {P : Program} {w : World} {K : PySem.W.Frag} {mg : Str → Option Value} {base : Heap}
theorem ok_asked {f : Addr} {fd : FuncData} (F : Fun K "_law_asked" "_law_asked" s_asked f fd) (B : Blt mg) (D_pick : DefOk P w K mg base 1 "_law_pick" ["_law_draw", "_law_many"] spPick) (D_key : DefOk P w K mg base 2 "_law_key" ["_law_draw"] spKey) :
    FnOk P w K mg base CX0 3 f fd ["_law_draw", "_law_spans_here"] spAsked := by
  refine F.ok sc_asked (fun vs H Q E h => ?_) (fun cdv A outer s H vs Q E hr h => ?_)
  · obtain ⟨d, c, cs, n, a, zs, rfl, _⟩ := h
    rfl
  · obtain ⟨d, c, cs, n, a, zs, rfl, hD, hn, hZ, hzl, q⟩ := h
    refine ⟨_, pss_cons (ps_setLc (i := 2) (own := [("_law_k", 5)]) (g := gName 5) (tt := tYes) rfl sc_asked.nd rfl rfl (sw_true rfl rfl rfl (by decide +kernel)) (pi_range1 (by rfl) B.range (pa_cons (pe_op op_add pe_int (pe_def D_pick (hr.mono (by omega)) (by rfl) (pa_cons (pv 0) (pa_cons pe_int pa_nil)))) pa_nil)) (blkOk_by (own := [("_law_k", 5)]) (N := ["_law_draw", "_law_spans_here", "_law_keys", "_law_low", "_law_high", "_law_k", "_law_key_here"]) (sc := defScope s_asked) (by decide +kernel)) (fun _ _ _ _ _ => pg_name (i := 5) sc_asked.nd rfl (Or.inl rfl)) (fun _ _ _ _ _ => pts_nil) (fun _ _ _ _ _ => pe_def D_key (hr.mono (by omega)) (by rfl) (pa_cons (pv 0) pa_nil)))
    (pss_cons (ps_for PassesOwn.never rfl (pi_list (pv 1)) (pg_tup rfl (pgs_cons (pg_name (i := 3) sc_asked.nd rfl (Or.inl rfl)) (pgs_cons (pg_name (i := 4) sc_asked.nd rfl (Or.inl rfl)) pgs_nil)))
      (pss_one (ps_expr (pe_bm PySem.F.plainAttrs_list PySem.F.slot_list_extend PySem.F.type_list_extend mt_extend (pv 2) (pa_cons (pe_lc (own := [("_law_key_here", 6)]) (g := gName 6) rfl sc_asked.nd (pi_tup (pe_tup (pa_cons (pv 3) (pa_cons (pv 4) pa_nil)))) (blkOk_by (own := [("_law_key_here", 6)]) (N := ["_law_draw", "_law_spans_here", "_law_keys", "_law_low", "_law_high", "_law_k", "_law_key_here"]) (sc := defScope s_asked) (by decide +kernel)) (fun _ _ _ _ _ => pg_name (i := 6) sc_asked.nd rfl (Or.inl rfl)) (fun _ _ _ _ _ => pts_one (pt_cmpR op_ne (pv 6) pe_str (nomark _))) (fun _ _ _ _ _ => pv 6)) pa_nil)))))
    (pss_one (ps_ret (pv 2)))), ?_⟩
    refine ⟨_, rfl, d, c, cs, n, 6, rfl, hD, by decide, by decide, by omega, fun v H1 v0 v1 D1 k1 => ?_⟩
    refine ⟨_, _, rfl, rfl, _, rfl, by omega, by omega, fun D nD => ?_⟩
    have nDd : D ≠ d := D1.ne nD
    have nDc : D ≠ c := D1.neC nD
    have nDH : H D = none := keep_free k1 (by obtain ⟨kk, hkk⟩ := D1.is; exact ⟨_, hkk⟩) nD
    refine lc_range (lo := 0) (n := (1 + v).toNat) (fun i H' => ∃ ys : List Str, ys.length = i ∧ (∀ y ∈ ys, IsKey y) ∧ H' D = some (.lst (ys.map V.str)) ∧ DrawAt H' d c cs (n + 1 + 11 * i) ∧ Keep d H H') ?_ ?_ ?_
    · exact ⟨[], rfl, fun y hy => by simp at hy, upd_same, D1.same (same_new nD), keep_mut k1 nDH⟩
    · rintro i H' hi ⟨ys, hl, hy, hDl, D', k'⟩
      refine ⟨rfl, ?_⟩
      refine ⟨_, rfl, d, c, cs, n + 1 + 11 * i, rfl, D', by omega, fun z H3 hz D3 k3 => ?_⟩
      refine ⟨_, k3 _ _ hDl nDd, small1000 (by rw [List.length_map]; omega), ys ++ [z], by rw [List.length_append, hl]; rfl, fun y my => ?_, ?_, ?_, ?_⟩
      · rcases List.mem_append.mp my with m | m
        · exact hy y m
        · rw [show y = z by simpa using m]
          exact hz
      · rw [upd_same, List.map_append]
        rfl
      · exact (D3.upd nDd nDc).mono (by omega)
      · exact keep_mut (k'.trans k3) nDH
    · rintro H2 ⟨ds, hdl, hds, hDl, D2, k2⟩
      refine ⟨_, rfl, a, rfl, ⟨_, SqL.of (hZ.keep k2 hD.is).ls⟩, for_list (K := K) (a := a) (xs := zs.map fun z => V.ref z.1) (fun i σ H' => ∃ v3 v4, σ = [some (.ref d), some (.ref a), some (.ref D), v3, v4, none, none] ∧ H' D = some (.lst ((ds ++ ((zs.take i).map ends2).flatten).map V.str)) ∧ DrawAt H' d c cs (n + 100) ∧ Keep d H H') ?_ ?_ ?_ ?_⟩
      · exact ⟨none, none, rfl, by simpa using hDl, D2.mono (by omega), k2⟩
      · rintro i σ H' _ ⟨_, _, _, _, _, k'⟩
        exact SqL.of (hZ.keep k' hD.is).ls
      · rintro i x σ H' hi ⟨v3, v4, rfl, hDl', D', k'⟩
        rw [List.getElem?_map] at hi
        obtain ⟨z, hz, rfl⟩ := Option.map_eq_some_iff.mp hi
        have hm : z ∈ zs := List.mem_of_getElem? hz
        have hZ' := hZ.keep k' hD.is
        refine ⟨z.1, _, rfl, SqT.of (hZ'.tp z hm), rfl, _, _, rfl, _, _, rfl, rfl, ?_⟩
        refine ⟨_, rfl, .inl ⟨rfl, _, SqL.of hDl'⟩, _, rfl, _, rfl, by show 2 ≤ sizeLine; decide, fun tt ntt => ?_⟩
        have s1 := same_new (o := .tup [V.str z.2.1, V.str z.2.2]) ntt
        refine ⟨tt, rfl, ⟨_, SqT.of upd_same⟩, fun D2 nD2 => ?_⟩
        refine lc_tup (K := K) (a := tt) (xs := [V.str z.2.1, V.str z.2.2]) (fun i H'' => H'' D2 = some (.lst ((([z.2.1, z.2.2].take i).filter fun x => !decide (V.str x = V.str "")).map V.str)) ∧ Same (upd H' tt (.tup [V.str z.2.1, V.str z.2.2])) H'') ?_ ?_ ?_ ?_
        · exact ⟨upd_same, same_new nD2⟩
        · rintro i H'' _ ⟨_, sm⟩
          exact SqT.of (sm _ _ upd_same)
        · rintro j x H'' hj ⟨hD2, sm⟩
          have hj' : ([z.2.1, z.2.2].map V.str)[j]? = some x := hj
          rw [List.getElem?_map] at hj'
          obtain ⟨y, hy, rfl⟩ := Option.map_eq_some_iff.mp hj'
          have et : [z.2.1, z.2.2].take (j + 1) = [z.2.1, z.2.2].take j ++ [y] := by
            rw [List.take_add_one, hy]
            rfl
          refine ⟨rfl, _, rfl, rfl, _, rfl, ite2 (fun e => ?_) (fun e => ?_)⟩
          · refine ⟨_, rfl, _, hD2, small1000 (by rw [List.length_map]; exact Nat.le_trans (List.length_filter_le _ _) (by rw [List.length_take]; show min j 2 ≤ 1000; omega)), ?_, fun b o h => ?_⟩
            · rw [upd_same, et, List.filter_append, List.map_append]
              have e1 : [y].filter (fun x => !decide (V.str x = V.str "")) = [y] := by simp only [List.filter_cons, List.filter_nil, e, if_true]
              rw [e1]
              rfl
            · rw [upd_ne (ne_of_none h nD2)]
              exact sm b o h
          · refine ⟨?_, sm⟩
            rw [hD2, et, List.filter_append]
            have e1 : [y].filter (fun x => !decide (V.str x = V.str "")) = [] := by simp only [List.filter_cons, List.filter_nil, if_neg e]
            rw [e1, List.append_nil]
        · rintro H'' ⟨hD2, sm⟩
          have sH := s1.trans sm
          have e2 : (([z.2.1, z.2.2].take 2).filter fun x => !decide (V.str x = V.str "")) = ends2 z := rfl
          have hD2 : H'' D2 = some (.lst ((ends2 z).map V.str)) := hD2
          have hlen : ((ds ++ ((zs.take i).map ends2).flatten).map V.str).length + ((ends2 z).map V.str).length ≤ sizeLine := by
            have f1 := flat_len (zs.take i)
            have f2 := ends2_len z
            rw [List.length_take] at f1
            rw [List.length_map, List.length_map, List.length_append]
            exact Nat.le_trans (show ds.length + ((zs.take i).map ends2).flatten.length + (ends2 z).length ≤ 100 by omega) (by decide)
          refine ⟨D, D2, _, _, rfl, rfl, sH _ _ hDl', hD2, hlen, _, _, rfl, ?_, ?_, ?_⟩
          · rw [upd_same, List.take_add_one, hz]
            have e3 : (ds ++ ((zs.take i ++ (some z).toList).map ends2).flatten) = (ds ++ ((zs.take i).map ends2).flatten) ++ ends2 z := by
              rw [List.map_append, List.flatten_append, List.append_assoc]
              show ds ++ (((zs.take i).map ends2).flatten ++ (ends2 z ++ [])) = _
              rw [List.append_nil]
            rw [e3, List.map_append (l₂ := ends2 z)]
          · exact (D'.same sH).upd nDd nDc
          · exact keep_mut (k'.trans (keep_same sH)) nDH
      · rintro σ H' ⟨v3, v4, rfl, hDl', D', k'⟩
        rw [List.length_map, List.take_length] at hDl'
        have f1 := flat_len zs
        refine ⟨_, rfl, q D _ H' ⟨ds, hds, rfl⟩ ?_ hDl' (D'.mono (by omega)) k' nDH⟩
        rw [List.length_append]
        exact (show ds.length + (zs.map ends2).flatten.length ≤ 100 by omega)
end
end FB

namespace FB
open PySem PySem.Spec PyProof.Rows L2
def spAllKept : Sp := fun vs H Q _ => ∃ (a : Addr) (zs : List Sp3), vs = [.ref a] ∧ SpansAt H a zs ∧ Q (.bl (akF "a" (zs.map (·.2)))) H
def spKept : Sp := fun vs H Q _ => ∃ (a : Addr) (zs : List Sp3) (k : Str), vs = [.ref a, .str k] ∧ SpansAt H a zs ∧ zs.length ≤ 900 ∧ ∀ H', Same H H' → Q (.bl (keptL (zs.map (·.2)) k)) H'
theorem akF_cons (u : Str) (p : Sp2) (r : List Sp2) : akF u (p :: r) = if ltS u p.1 = true then false else if p.2 = "" then true else akF (maxS u p.2) r := rfl
section
variable {P : Program} {w : World} {K : PySem.W.Frag} {mg : Str → Option Value} {base : Heap}
theorem ok_kept {f : Addr} {fd : FuncData} (F : Fun K "_law_kept" "_law_kept" s_kept f fd) (B : Blt mg) (D_has : DefOk P w K mg base 1 "_law_has" ["_law_span", "_law_key_here"] (spHas K)) : FnOk P w K mg base CX0 2 f fd ["_law_spans_here", "_law_key_here"] spKept := by
  refine F.ok sc_kept (fun vs H Q E h => ?_) (fun cdv A outer s H vs Q E hr h => ?_)
  · obtain ⟨a, zs, k, rfl, _⟩ := h
    rfl
  · obtain ⟨a, zs, k, rfl, hZ, hzl, q⟩ := h
    refine ⟨_, pss_one (ps_ret (pe_callB (cr_any rfl) (by rfl) B.any (by decide +kernel) (pa_cons (pe_lc (own := [("_law_span", 2)]) (g := gName 2) (tt := tYes) rfl sc_kept.nd (pi_list (pv 0)) (blkOk_by (own := [("_law_span", 2)]) (N := ["_law_spans_here", "_law_key_here", "_law_span"]) (sc := defScope s_kept) (by decide +kernel)) (fun _ _ _ _ _ => pg_name (i := 2) sc_kept.nd rfl (Or.inl rfl)) (fun _ _ _ _ _ => pts_nil) (fun _ _ _ _ _ => pe_def D_has (hr.mono (by omega)) (by rfl) (pa_cons (pv 2) (pa_cons (pv 1) pa_nil)))) pa_nil))), ?_⟩
    refine ⟨_, rfl, a, rfl, ⟨_, SqL.of hZ.ls⟩, fun D nD => ?_⟩
    refine lc_list (K := K) (a := a) (xs := zs.map fun z => V.ref z.1) (fun i H' => H' D = some (.lst (((zs.take i).map fun z => hasB z.2.1 z.2.2 k).map V.bl)) ∧ Same H H') ?_ ?_ ?_ ?_
    · exact ⟨upd_same, same_new nD⟩
    · rintro i H' _ ⟨_, sm⟩
      exact SqL.of (sm _ _ hZ.ls)
    · rintro i x H' hi ⟨hD, sm⟩
      rw [List.getElem?_map] at hi
      obtain ⟨z, hz, rfl⟩ := Option.map_eq_some_iff.mp hi
      have hm : z ∈ zs := List.mem_of_getElem? hz
      have hil : i < zs.length := (List.getElem?_eq_some_iff.mp hz).1
      refine ⟨rfl, _, rfl, _, rfl, z.1, z.2.1, z.2.2, k, rfl, SqT.of (sm _ _ (hZ.tp z hm)), _, hD, small1000 (by rw [List.length_map, List.length_map, List.length_take]; omega), ?_, same_mut sm nD⟩
      rw [upd_same, take_snoc hz, List.map_append, List.map_append]
      rfl
    · rintro H' ⟨hD, sm⟩
      rw [List.length_map, List.take_length] at hD
      refine ⟨D, _, rfl, SqL.of hD, ?_⟩
      have e : (zs.map fun z => hasB z.2.1 z.2.2 k).any id = keptL (zs.map (·.2)) k := by
        unfold keptL
        rw [List.any_map, List.any_map]
        rfl
      rw [e]
      exact q H' sm
theorem ok_all_kept {f : Addr} {fd : FuncData} (F : Fun K "all_kept" "all_kept" s_all_kept f fd) (B : Blt mg) (T : Txt mg) : FnOk P w K mg base CX0 1 f fd ["spans"] spAllKept := by
  obtain ⟨tL, h_LEAST_KEY⟩ := T.LEAST_KEY
  refine F.ok sc_all_kept (fun vs H Q E h => ?_) (fun cdv A outer s H vs Q E hr h => ?_)
  · obtain ⟨a, zs, rfl, _⟩ := h
    rfl
  · obtain ⟨a, zs, rfl, hZ, q⟩ := h
    refine ⟨_, pss_cons (ps_set (i := 1) sc_all_kept.nd rfl (Or.inl rfl) (pe_glob (v := .str "a") rfl h_LEAST_KEY ⟨_, rfl⟩))
    (pss_cons (ps_for PassesOwn.never rfl (pi_list (pv 0)) (pg_tup rfl (pgs_cons (pg_name (i := 2) sc_all_kept.nd rfl (Or.inl rfl)) (pgs_cons (pg_name (i := 3) sc_all_kept.nd rfl (Or.inl rfl)) pgs_nil)))
      (pss_cons (ps_if (pt_cmpR op_gt_str (pv 2) (pv 1) (nomark _))
        (pss_one (ps_ret pe_bl)) pss_nil)
      (pss_cons (ps_if (pt_cmpR op_eq (pv 3) pe_str (nomark _))
        (pss_one (ps_ret pe_bl)) pss_nil)
      (pss_one (ps_set (i := 1) sc_all_kept.nd rfl (Or.inl rfl) (pe_callB (call_max2S rfl) (by rfl) B.max (by decide +kernel) (pa_cons (pv 1) (pa_cons (pv 3) pa_nil))))))))
    (pss_one (ps_ret pe_bl))), ?_⟩
    refine ⟨_, rfl, a, rfl, ⟨_, SqL.of hZ.ls⟩, for_list (K := K) (a := a) (xs := zs.map fun z => V.ref z.1) (fun i σ H' => ∃ u v2 v3, σ = [some (.ref a), some (.str u), v2, v3] ∧ H' = H ∧ akF "a" (zs.map (·.2)) = akF u ((zs.map (·.2)).drop i)) ⟨_, none, none, rfl, rfl, rfl⟩ ?_ ?_ ?_⟩
    · rintro i σ H' _ ⟨_, _, _, _, rfl, _⟩
      exact SqL.of hZ.ls
    · rintro i x σ H' hi ⟨u, v2, v3, rfl, rfl, hak⟩
      rw [List.getElem?_map] at hi
      obtain ⟨z, hz, rfl⟩ := Option.map_eq_some_iff.mp hi
      have hm : z ∈ zs := List.mem_of_getElem? hz
      have ed : (zs.map (·.2)).drop i = z.2 :: (zs.map (·.2)).drop (i + 1) := by
        have h1 : i < (zs.map (·.2)).length := by
          rw [List.length_map]
          exact (List.getElem?_eq_some_iff.mp hz).1
        rw [List.drop_eq_getElem_cons h1]
        congr 1
        have := (List.getElem?_eq_some_iff.mp hz).2
        rw [List.getElem_map, this]
      rw [ed, akF_cons] at hak
      refine ⟨z.1, _, rfl, SqT.of (hZ.tp z hm), rfl, _, _, rfl, _, _, rfl, rfl, ?_⟩
      refine ⟨_, rfl, _, rfl, _, _, rfl, rfl, _, rfl, ite2 (fun e1 => ?_) (fun e1 => ?_)⟩
      · rw [if_pos (show ltS u z.2.1 = true from e1)] at hak
        rw [show akF "a" (zs.map (·.2)) = false from hak] at q
        exact q
      · rw [if_neg (show ¬ ltS u z.2.1 = true from e1)] at hak
        refine ⟨_, rfl, rfl, _, rfl, ite2 (fun e2 => ?_) (fun e2 => ?_)⟩
        · rw [if_pos (V.str.inj (of_decide_eq_true e2))] at hak
          rw [show akF "a" (zs.map (·.2)) = true from hak] at q
          exact q
        · rw [if_neg fun h => e2 (decide_eq_true (congrArg V.str h))] at hak
          exact ⟨_, rfl, _, rfl, _, _, rfl, _, _, _, rfl, rfl, hak⟩
    · rintro σ H' ⟨u, v2, v3, rfl, rfl, hak⟩
      rw [List.length_map, List.drop_eq_nil_of_le (by rw [List.length_map]; exact Nat.le_refl _)] at hak
      rw [show akF "a" (zs.map (·.2)) = false from hak] at q
      exact q
end
end FB

namespace FB
open PySem PySem.Spec PyProof.Rows L2
section
variable {P : Program} {w : World} {K : PySem.W.Frag} {mg : Str → Option Value} {base : Heap}
theorem ok_law {f : Addr} {fd : FuncData} (F : Fun K "law" "law" s_law f fd) (B : Blt mg) (T : Txt mg) (A_all_kept : DefAt K mg "all_kept" s_all_kept ["spans"])
    (A_drawn : DefAt K mg "_law_drawn" s_drawn ["_law_script"]) (A_pick : DefAt K mg "_law_pick" s_pick ["_law_draw", "_law_many"]) (A_key : DefAt K mg "_law_key" s_key ["_law_draw"]) (A_spans : DefAt K mg "_law_spans" s_spans ["_law_draw", "_law_most"])
    (A_has : DefAt K mg "_law_has" s_has ["_law_span", "_law_key_here"]) (A_asked : DefAt K mg "_law_asked" s_asked ["_law_draw", "_law_spans_here"]) (A_kept : DefAt K mg "_law_kept" s_kept ["_law_spans_here", "_law_key_here"]) : FnOk P w K mg base CX0 4 f fd ["_law_script"] (spLaw K) := by
  have D_all_kept : DefOk P w K mg base 1 "all_kept" ["spans"] spAllKept := A_all_kept.ok fun _ _ F => ok_all_kept F B T
  have D_has : DefOk P w K mg base 1 "_law_has" ["_law_span", "_law_key_here"] (spHas K) := A_has.ok fun _ _ F => ok_has F
  have D_kept : DefOk P w K mg base 2 "_law_kept" ["_law_spans_here", "_law_key_here"] spKept := A_kept.ok fun _ _ F => ok_kept F B D_has
  have D_pick : DefOk P w K mg base 1 "_law_pick" ["_law_draw", "_law_many"] spPick := A_pick.ok fun _ _ F => ok_pick F B
  have D_drawn : DefOk P w K mg base 1 "_law_drawn" ["_law_script"] (spDrawn K) := A_drawn.ok fun _ _ F => ok_drawn F B
  have D_key : DefOk P w K mg base 2 "_law_key" ["_law_draw"] spKey := A_key.ok fun _ _ F => ok_key F B D_pick
  have D_spans : DefOk P w K mg base 3 "_law_spans" ["_law_draw", "_law_most"] spSpans := A_spans.ok fun _ _ F => ok_spans F B D_pick D_key
  have D_asked : DefOk P w K mg base 3 "_law_asked" ["_law_draw", "_law_spans_here"] spAsked := A_asked.ok fun _ _ F => ok_asked F B D_pick D_key
  refine F.ok sc_law (fun vs H Q E h => ?_) (fun cdv A outer s H vs Q E hr h => ?_)
  · obtain ⟨a, ns, rfl, _⟩ := h
    rfl
  · obtain ⟨a, ns, rfl, hS, hl, q⟩ := h
    refine ⟨_, pss_cons (ps_set (i := 1) sc_law.nd rfl (Or.inl rfl) (pe_def D_drawn (hr.mono (by omega)) (by rfl) (pa_cons (pv 0) pa_nil)))
    (pss_cons (ps_set (i := 2) sc_law.nd rfl (Or.inr rfl) (pe_def D_spans (hr.mono (by omega)) (by rfl) (pa_cons (pv 1) (pa_cons pe_int pa_nil))))
    (pss_cons (ps_set (i := 3) sc_law.nd rfl (Or.inl rfl) (pe_callTy call_list_of (by rfl) B.list (by decide +kernel) (pa_cons (pv 2) pa_nil)))
    (pss_cons (ps_set (i := 4) sc_law.nd rfl (Or.inl rfl) (pe_def D_all_kept (hr.mono (by omega)) (by rfl) (pa_cons (pv 3) pa_nil)))
    (pss_cons (ps_set (i := 5) sc_law.nd rfl (Or.inl rfl) (pe_op op_cat (pe_lst (pa_cons pe_str pa_nil)) (pe_lc (own := [("_law_span", 7)]) (g := gName 7) rfl sc_law.nd (pi_list (pv 2)) (blkOk_by (own := [("_law_span", 7)]) (N := ["_law_script", "_law_draw", "_law_spans_here", "_law_handed", "_law_found", "_law_ends", "_law_kept_here", "_law_span", "_law_key_here"]) (sc := defScope s_law) (by decide +kernel)) (fun _ _ _ _ _ => pg_name (i := 7) sc_law.nd rfl (Or.inl rfl)) (fun _ _ _ _ _ => pts_one (pt_cmpR op_ne (pe_ix (ix_tupK (K := K) rfl) (pv 7) pe_int (fun _ _ => rfl)) pe_str (nomark _))) (fun _ _ _ _ _ => pe_ix (ix_tupK (K := K) rfl) (pv 7) pe_int (fun _ _ => rfl)))))
    (pss_cons (ps_if (PW.pt (pw_or (pt_not (pt_val (pe_callB call_isi (by rfl) B.isinstance (by decide +kernel) (pa_cons (pv 4) (pa_cons (pe_bltn (v := .ty "bool") (by rfl) B.bool (by decide +kernel) rfl) pa_nil))))) (pw_or1 (pt_cmpR (op_neD hr.units) (pv 3) (pv 2) (nomark _)))))
      (pss_one (ps_ret pe_bl)) pss_nil)
    (pss_cons (ps_if (pt_cmpR op_ne (pv 4) (pe_callB (cr_all rfl) (by rfl) B.all (by decide +kernel) (pa_cons (pe_lc (own := [("_law_key_here", 8)]) (g := gName 8) (tt := tYes) rfl sc_law.nd (pi_list (pv 5)) (blkOk_by (own := [("_law_key_here", 8)]) (N := ["_law_script", "_law_draw", "_law_spans_here", "_law_handed", "_law_found", "_law_ends", "_law_kept_here", "_law_span", "_law_key_here"]) (sc := defScope s_law) (by decide +kernel)) (fun _ _ _ _ _ => pg_name (i := 8) sc_law.nd rfl (Or.inl rfl)) (fun _ _ _ _ _ => pts_nil) (fun _ _ _ _ _ => pe_def D_kept (hr.mono (by omega)) (by rfl) (pa_cons (pv 2) (pa_cons (pv 8) pa_nil)))) pa_nil)) (nomark _))
      (pss_one (ps_ret pe_bl)) pss_nil)
    (pss_cons (ps_setLc (i := 6) (own := [("_law_key_here", 8)]) (g := gName 8) (tt := tYes) rfl sc_law.nd rfl rfl (sw_true rfl rfl rfl (by decide +kernel)) (pi_list (pe_def D_asked (hr.mono (by omega)) (by rfl) (pa_cons (pv 1) (pa_cons (pv 2) pa_nil)))) (blkOk_by (own := [("_law_key_here", 8)]) (N := ["_law_script", "_law_draw", "_law_spans_here", "_law_handed", "_law_found", "_law_ends", "_law_kept_here", "_law_span", "_law_key_here"]) (sc := defScope s_law) (by decide +kernel)) (fun _ _ _ _ _ => pg_name (i := 8) sc_law.nd rfl (Or.inl rfl)) (fun _ _ _ _ _ => pts_nil) (fun _ _ _ _ _ => pe_def D_kept (hr.mono (by omega)) (by rfl) (pa_cons (pv 2) (pa_cons (pv 8) pa_nil))))
    (pss_one (ps_ret (pe_or (pe_not (pv 4)) (pe_one (pe_callB (cr_all rfl) (by rfl) B.all (by decide +kernel) (pa_cons (pv 6) pa_nil))))))))))))), ?_⟩
    refine ⟨_, rfl, a, ns, rfl, hS, hl, fun d c cs H1 s1 nd D1 => ?_⟩
    refine ⟨_, rfl, d, c, cs, 0, 10, rfl, D1, by decide, by decide, by decide, fun l zs H2 hSL hZ D2 k2 nl => ?_⟩
    have hzl : zs.length ≤ 30 := by
      obtain ⟨_, _, _, _, _, h⟩ := hSL
      exact h
    have hna : ∀ p ∈ zs.map (·.2), p ≠ (("" : Str), ("a" : Str)) := fun p hp => by
      obtain ⟨z, hz, rfl⟩ := List.mem_map.mp hp
      obtain ⟨_, _, _, _, h, _⟩ := hSL
      exact h z hz
    have hkeys := hSL.keys
    have hkL : ∀ p ∈ zs.map (·.2), KeyOr p.1 ∧ KeyOr p.2 := fun p hp => by
      obtain ⟨z, hz, rfl⟩ := List.mem_map.mp hp
      exact hkeys z hz
    have hak : akF "a" (zs.map (·.2)) = ((("a" : Str) :: highs (zs.map (·.2))).all (keptL (zs.map (·.2)))) :=
      ak_all (fun k hk => key_ge_a hk) (good_spans hSL) hkL hna _ [] "a" rfl (.inl ⟨rfl, rfl⟩) (by decide +kernel) (fun p hp => by simp at hp) (fun e he => by
        rcases he with h | h
        · exact .inl h
        · simp [highs] at h)
    -- handed, found
    refine ⟨_, rfl, l, _, rfl, .inl (SqL.of hZ.ls), fun hl nhl => ?_⟩
    have t0 := same_new (o := .lst (zs.map fun z => V.ref z.1)) nhl
    have hZ0 := hZ.same t0
    have hZh : SpansAt (upd H2 hl (.lst (zs.map fun z => V.ref z.1))) hl zs := ⟨upd_same, hZ0.tp⟩
    have D3 := D2.same t0
    refine ⟨_, rfl, hl, zs, rfl, hZh, ?_⟩
    generalize upd H2 hl (.lst (zs.map fun z => V.ref z.1)) = H3 at hZ0 hZh D3
    -- ends
    refine ⟨by show 1 ≤ sizeLine; decide, fun l1 n1 => ?_⟩
    have t1 := same_new (o := .lst [V.str "a"]) n1
    have hZ1 := hZ0.same t1
    refine ⟨_, rfl, l, rfl, ⟨_, SqL.of hZ1.ls⟩, fun D nD => ?_⟩
    refine lc_list (K := K) (a := l) (xs := zs.map fun z => V.ref z.1) (fun i H' => H' D = some (.lst ((highs ((zs.take i).map (·.2))).map V.str)) ∧ Same (upd H3 l1 (.lst [V.str "a"])) H') ?_ ?_ ?_ ?_
    · exact ⟨upd_same, same_new nD⟩
    · rintro i H' _ ⟨_, sm⟩
      exact SqL.of (sm _ _ hZ1.ls)
    · rintro i x H' hi ⟨hD, sm⟩
      rw [List.getElem?_map] at hi
      obtain ⟨z, hz, rfl⟩ := Option.map_eq_some_iff.mp hi
      have hm : z ∈ zs := List.mem_of_getElem? hz
      have hil : i < zs.length := (List.getElem?_eq_some_iff.mp hz).1
      have hT : SqT K H' z.1 [.str z.2.1, .str z.2.2] := SqT.of (sm _ _ (hZ1.tp z hm))
      have eh : highs ((zs.take (i + 1)).map (·.2)) = highs ((zs.take i).map (·.2)) ++ [z.2.2].filter fun x => !decide (V.str x = V.str "") := by
        unfold highs
        rw [take_snoc hz, List.map_append, List.map_append, List.filter_append]
        rfl
      refine ⟨rfl, _, rfl, z.1, _, _, _, rfl, rfl, hT, atI_nat (j := 1) rfl, rfl, _, rfl, ite2 (fun e => ?_) (fun e => ?_)⟩
      · refine ⟨_, rfl, z.1, _, _, _, rfl, rfl, hT, atI_nat (j := 1) rfl, _, hD, small1000 (by rw [List.length_map]; exact Nat.le_trans (List.length_filter_le _ _) (by rw [List.length_map, List.length_map, List.length_take]; omega)), ?_, same_mut sm nD⟩
        rw [upd_same, eh, List.map_append, List.filter_cons, if_pos e]
        rfl
      · refine ⟨?_, sm⟩
        rw [hD, eh, List.filter_cons, if_neg e, List.filter_nil, List.append_nil]
    rintro H4 ⟨hD, sm4⟩
    rw [List.length_map, List.take_length] at hD
    have hhl : (highs (zs.map (·.2))).length ≤ 30 := by
      refine Nat.le_trans (List.length_filter_le _ _) ?_
      rw [List.length_map, List.length_map]
      exact hzl
    refine ⟨l1, D, _, _, rfl, rfl, sm4 _ _ upd_same, hD, Nat.le_trans (show _ ≤ 100 by rw [List.length_map]; show 1 + _ ≤ 100; omega) (by decide), fun el nel => ?_⟩
    have t2 := same_new (o := .lst ([V.str "a"] ++ (highs (zs.map (·.2))).map V.str)) nel
    have s34 := (t1.trans sm4).trans t2
    have hZ4 := hZ0.same s34
    have hZh4 := hZh.same s34
    have D4 := D3.same s34
    have hel : upd H4 el (.lst ([V.str "a"] ++ (highs (zs.map (·.2))).map V.str)) el = some (.lst ((("a" : Str) :: highs (zs.map (·.2))).map V.str)) := upd_same
    generalize upd H4 el (.lst ([V.str "a"] ++ (highs (zs.map (·.2))).map V.str)) = H5 at hZ4 hZh4 D4 hel
    generalize hE : (("a" : Str) :: highs (zs.map (·.2))) = ends at hel hak
    have hEl : ends.length ≤ 31 := by
      rw [← hE]
      show _ + 1 ≤ 31
      omega
    -- isinstance(found, bool), handed != spans_here
    refine ⟨_, rfl, _, _, _, _, _, rfl, .ty _, .base (.bl _), ki_bb, _, rfl, ?_⟩
    refine iteF ?_
    refine ⟨_, rfl, _, rfl, _, _, dp_spans hZh4, dp_spans hZ4, shaped_spans hkeys, shaped_spans hkeys, _, rfl, ?_⟩
    rw [eqv_spans hkeys]
    -- found != all(..)
    refine ⟨_, rfl, _, rfl, el, rfl, ⟨_, SqL.of hel⟩, fun D2' nD2 => ?_⟩
    refine lc_list (K := K) (a := el) (xs := ends.map V.str) (fun i H' => H' D2' = some (.lst (((ends.take i).map (keptL (zs.map (·.2)))).map V.bl)) ∧ Same H5 H') ?_ ?_ ?_ ?_
    · exact ⟨upd_same, same_new nD2⟩
    · rintro i H' _ ⟨_, sm⟩
      exact SqL.of (sm _ _ hel)
    · rintro i x H' hi ⟨hD', sm⟩
      rw [List.getElem?_map] at hi
      obtain ⟨e, he, rfl⟩ := Option.map_eq_some_iff.mp hi
      have hil : i < ends.length := (List.getElem?_eq_some_iff.mp he).1
      refine ⟨rfl, _, rfl, _, rfl, l, zs, e, rfl, hZ4.same sm, by omega, fun H'' sm2 => ?_⟩
      refine ⟨_, sm2 _ _ hD', small1000 (by rw [List.length_map, List.length_map, List.length_take]; omega), ?_, same_mut (sm.trans sm2) nD2⟩
      rw [upd_same, take_snoc he, List.map_append, List.map_append]
      rfl
    rintro H6 ⟨hD6, sm6⟩
    rw [List.length_map, List.take_length] at hD6
    refine ⟨D2', _, rfl, SqL.of hD6, rfl, _, rfl, ?_⟩
    have eall : (ends.map (keptL (zs.map (·.2)))).all id = ends.all (keptL (zs.map (·.2))) := by
      rw [List.all_map]
      rfl
    rw [eall, ← hak]
    refine iteNS rfl ?_
    -- kept_here
    have hZ6 := hZ4.same sm6
    have D6 := D4.same sm6
    refine ⟨_, rfl, _, rfl, d, c, cs, _, l, zs, rfl, D6, by decide, hZ6, hzl, fun kl ks H7 hks hkl hkls D7 k7 nkl => ?_⟩
    have hZ7 := hZ6.keep k7 D6.is
    have hkk := asked_keys hkeys hks
    refine ⟨kl, rfl, ⟨_, SqL.of hkls⟩, fun D3' nD3 => ?_⟩
    refine lc_list (K := K) (a := kl) (xs := ks.map V.str) (fun i H' => H' D3' = some (.lst (((ks.take i).map (keptL (zs.map (·.2)))).map V.bl)) ∧ Same H7 H') ?_ ?_ ?_ ?_
    · exact ⟨upd_same, same_new nD3⟩
    · rintro i H' _ ⟨_, sm⟩
      exact SqL.of (sm _ _ hkls)
    · rintro i x H' hi ⟨hD', sm⟩
      rw [List.getElem?_map] at hi
      obtain ⟨e, he, rfl⟩ := Option.map_eq_some_iff.mp hi
      have hil : i < ks.length := (List.getElem?_eq_some_iff.mp he).1
      refine ⟨rfl, _, rfl, _, rfl, l, zs, e, rfl, hZ7.same sm, by omega, fun H'' sm2 => ?_⟩
      refine ⟨_, sm2 _ _ hD', small1000 (by rw [List.length_map, List.length_map, List.length_take]; omega), ?_, same_mut (sm.trans sm2) nD3⟩
      rw [upd_same, take_snoc he, List.map_append, List.map_append]
      rfl
    rintro H8 ⟨hD8, sm8⟩
    rw [List.length_map, List.take_length] at hD8
    refine ⟨_, rfl, _, rfl, _, rfl, ite2 (fun e => q H8) (fun e => ?_)⟩
    have hfound : akF "a" (zs.map (·.2)) = true := by
      cases h : akF "a" (zs.map (·.2)) with
      | true => rfl
      | false => rw [h] at e; exact absurd rfl e
    refine ⟨_, rfl, D3', _, rfl, SqL.of hD8, ?_⟩
    have e8 : (ks.map (keptL (zs.map (·.2)))).all id = true := by
      rw [List.all_map, List.all_eq_true]
      intro k hk
      exact ak_key _ "a" k hfound (key_ge_a (hkk k hk))
    rw [e8]
    exact q H8
end
theorem all_mk {l : PySem.W.OpenLaw} {w : World} {K : PySem.W.Frag} {h : Heap} {mg : Str → Option Value} {fa f0 f1 f2 f3 f4 f5 f6 f7 f8 f9 : Addr} (X : K.In h) (G : h.Ns mainGlobals mg) (hfa : mg "law" = some (.ref fa))
    {od0 an0 od1 an1 od2 an2 od3 an3 od4 an4 od5 an5 od6 an6 od7 an7 od8 an8 od9 an9 : Option Addr} {sl0 sl1 sl2 sl3 sl4 sl5 sl6 sl7 sl8 sl9 : Array (Option Value)} {oc0 kV0 dc0 pm0 cd0 ct0 oc1 kV1 dc1 pm1 cd1 ct1 oc2 kV2 dc2 pm2 cd2 ct2 oc3 kV3 dc3 pm3 cd3 ct3 oc4 kV4 dc4 pm4 cd4 ct4 oc5 kV5 dc5 pm5 cd5 ct5 oc6 kV6 dc6 pm6 cd6 ct6 oc7 kV7 dc7 pm7 cd7 ct7 oc8 kV8 dc8 pm8 cd8 ct8 oc9 kV9 dc9 pm9 cd9 ct9 : Value}
    (a0 : PySem.W.nsIn K mainGlobals "all_kept" = some (some (.ref f0)))
    (l0 : K.lookup f0 = some ⟨oc0, od0, .func (PySem.W.fnOf "all_kept" "all_kept" (defArgs s_all_kept) (defBody s_all_kept) (defScope s_all_kept) .none kV0 dc0 pm0 an0 cd0 ct0), sl0⟩)
    (c0 : PySem.W.codeIn K cd0 "all_kept" = true) (k0 : PySem.W.keepIn K (.ref f0) = true)
    (a1 : PySem.W.nsIn K mainGlobals "_law_drawn" = some (some (.ref f1)))
    (l1 : K.lookup f1 = some ⟨oc1, od1, .func (PySem.W.fnOf "_law_drawn" "_law_drawn" (defArgs s_drawn) (defBody s_drawn) (defScope s_drawn) .none kV1 dc1 pm1 an1 cd1 ct1), sl1⟩)
    (c1 : PySem.W.codeIn K cd1 "_law_drawn" = true) (k1 : PySem.W.keepIn K (.ref f1) = true)
    (a2 : PySem.W.nsIn K mainGlobals "_law_pick" = some (some (.ref f2)))
    (l2 : K.lookup f2 = some ⟨oc2, od2, .func (PySem.W.fnOf "_law_pick" "_law_pick" (defArgs s_pick) (defBody s_pick) (defScope s_pick) .none kV2 dc2 pm2 an2 cd2 ct2), sl2⟩)
    (c2 : PySem.W.codeIn K cd2 "_law_pick" = true) (k2 : PySem.W.keepIn K (.ref f2) = true)
    (a3 : PySem.W.nsIn K mainGlobals "_law_key" = some (some (.ref f3)))
    (l3 : K.lookup f3 = some ⟨oc3, od3, .func (PySem.W.fnOf "_law_key" "_law_key" (defArgs s_key) (defBody s_key) (defScope s_key) .none kV3 dc3 pm3 an3 cd3 ct3), sl3⟩)
    (c3 : PySem.W.codeIn K cd3 "_law_key" = true) (k3 : PySem.W.keepIn K (.ref f3) = true)
    (a4 : PySem.W.nsIn K mainGlobals "_law_spans" = some (some (.ref f4)))
    (l4 : K.lookup f4 = some ⟨oc4, od4, .func (PySem.W.fnOf "_law_spans" "_law_spans" (defArgs s_spans) (defBody s_spans) (defScope s_spans) .none kV4 dc4 pm4 an4 cd4 ct4), sl4⟩)
    (c4 : PySem.W.codeIn K cd4 "_law_spans" = true) (k4 : PySem.W.keepIn K (.ref f4) = true)
    (a5 : PySem.W.nsIn K mainGlobals "_law_has" = some (some (.ref f5)))
    (l5 : K.lookup f5 = some ⟨oc5, od5, .func (PySem.W.fnOf "_law_has" "_law_has" (defArgs s_has) (defBody s_has) (defScope s_has) .none kV5 dc5 pm5 an5 cd5 ct5), sl5⟩)
    (c5 : PySem.W.codeIn K cd5 "_law_has" = true) (k5 : PySem.W.keepIn K (.ref f5) = true)
    (a6 : PySem.W.nsIn K mainGlobals "_law_least" = some (some (.ref f6)))
    (l6 : K.lookup f6 = some ⟨oc6, od6, .func (PySem.W.fnOf "_law_least" "_law_least" (defArgs s_least) (defBody s_least) (defScope s_least) .none kV6 dc6 pm6 an6 cd6 ct6), sl6⟩)
    (c6 : PySem.W.codeIn K cd6 "_law_least" = true) (k6 : PySem.W.keepIn K (.ref f6) = true)
    (a7 : PySem.W.nsIn K mainGlobals "_law_asked" = some (some (.ref f7)))
    (l7 : K.lookup f7 = some ⟨oc7, od7, .func (PySem.W.fnOf "_law_asked" "_law_asked" (defArgs s_asked) (defBody s_asked) (defScope s_asked) .none kV7 dc7 pm7 an7 cd7 ct7), sl7⟩)
    (c7 : PySem.W.codeIn K cd7 "_law_asked" = true) (k7 : PySem.W.keepIn K (.ref f7) = true)
    (a8 : PySem.W.nsIn K mainGlobals "_law_kept" = some (some (.ref f8)))
    (l8 : K.lookup f8 = some ⟨oc8, od8, .func (PySem.W.fnOf "_law_kept" "_law_kept" (defArgs s_kept) (defBody s_kept) (defScope s_kept) .none kV8 dc8 pm8 an8 cd8 ct8), sl8⟩)
    (c8 : PySem.W.codeIn K cd8 "_law_kept" = true) (k8 : PySem.W.keepIn K (.ref f8) = true)
    (a9 : PySem.W.nsIn K mainGlobals "law" = some (some (.ref f9)))
    (l9 : K.lookup f9 = some ⟨oc9, od9, .func (PySem.W.fnOf "law" "law" (defArgs s_law) (defBody s_law) (defScope s_law) .none kV9 dc9 pm9 an9 cd9 ct9), sl9⟩)
    (c9 : PySem.W.codeIn K cd9 "law" = true) (k9 : PySem.W.keepIn K (.ref f9) = true)
    (z0 : PySem.W.nsIn K mainGlobals "all" = some none)
    (z1 : PySem.W.nsIn K mainGlobals "any" = some none)
    (z2 : PySem.W.nsIn K mainGlobals "bool" = some none)
    (z3 : PySem.W.nsIn K mainGlobals "int" = some none)
    (z4 : PySem.W.nsIn K mainGlobals "isinstance" = some none)
    (z5 : PySem.W.nsIn K mainGlobals "len" = some none)
    (z6 : PySem.W.nsIn K mainGlobals "list" = some none)
    (z7 : PySem.W.nsIn K mainGlobals "max" = some none)
    (z8 : PySem.W.nsIn K mainGlobals "range" = some none)
    (z9 : PySem.W.nsIn K mainGlobals "sorted" = some none)
    (z10 : PySem.W.nsIn K mainGlobals "zip" = some none)
    {t0 : Tok} (y0 : PySem.W.nsIn K mainGlobals "LEAST_KEY" = some (some (.str "a" t0))) :
    ∃ fd : FuncData, (∀ (s : Shared) (v : Value), BindsTo s fd ⟨[v], []⟩ [("_law_script", v)]) ∧ ∀ base : Heap, K.In base → base.Ns mainGlobals mg → FnOk l.prog w K mg base CX0 4 fa fd ["_law_script"] (spLaw K) := by
  have e := hfa.symm.trans (PySem.W.mg_of X G a9)
  cases e
  have B : Blt mg := ⟨PySem.W.mg_none_of X G z0, PySem.W.mg_none_of X G z1, PySem.W.mg_none_of X G z2, PySem.W.mg_none_of X G z3, PySem.W.mg_none_of X G z4, PySem.W.mg_none_of X G z5, PySem.W.mg_none_of X G z6, PySem.W.mg_none_of X G z7, PySem.W.mg_none_of X G z8, PySem.W.mg_none_of X G z9, PySem.W.mg_none_of X G z10⟩
  have T : Txt mg := ⟨⟨_, PySem.W.mg_of X G y0⟩⟩
  have F0 := fun_mk (st := s_all_kept) l0 c0 k0
  have b0 := F0.binds (ps := ["spans"]) fun _ _ _ _ _ _ us hl => match us, hl with | [_], _ => rfl
  have A_all_kept : DefAt K mg "all_kept" s_all_kept ["spans"] := ⟨_, _, F0, PySem.W.mg_of X G a0, b0⟩
  have F1 := fun_mk (st := s_drawn) l1 c1 k1
  have b1 := F1.binds (ps := ["_law_script"]) fun _ _ _ _ _ _ us hl => match us, hl with | [_], _ => rfl
  have A_drawn : DefAt K mg "_law_drawn" s_drawn ["_law_script"] := ⟨_, _, F1, PySem.W.mg_of X G a1, b1⟩
  have F2 := fun_mk (st := s_pick) l2 c2 k2
  have b2 := F2.binds (ps := ["_law_draw", "_law_many"]) fun _ _ _ _ _ _ us hl => match us, hl with | [_, _], _ => rfl
  have A_pick : DefAt K mg "_law_pick" s_pick ["_law_draw", "_law_many"] := ⟨_, _, F2, PySem.W.mg_of X G a2, b2⟩
  have F3 := fun_mk (st := s_key) l3 c3 k3
  have b3 := F3.binds (ps := ["_law_draw"]) fun _ _ _ _ _ _ us hl => match us, hl with | [_], _ => rfl
  have A_key : DefAt K mg "_law_key" s_key ["_law_draw"] := ⟨_, _, F3, PySem.W.mg_of X G a3, b3⟩
  have F4 := fun_mk (st := s_spans) l4 c4 k4
  have b4 := F4.binds (ps := ["_law_draw", "_law_most"]) fun _ _ _ _ _ _ us hl => match us, hl with | [_, _], _ => rfl
  have A_spans : DefAt K mg "_law_spans" s_spans ["_law_draw", "_law_most"] := ⟨_, _, F4, PySem.W.mg_of X G a4, b4⟩
  have F5 := fun_mk (st := s_has) l5 c5 k5
  have b5 := F5.binds (ps := ["_law_span", "_law_key_here"]) fun _ _ _ _ _ _ us hl => match us, hl with | [_, _], _ => rfl
  have A_has : DefAt K mg "_law_has" s_has ["_law_span", "_law_key_here"] := ⟨_, _, F5, PySem.W.mg_of X G a5, b5⟩
  have F6 := fun_mk (st := s_least) l6 c6 k6
  have b6 := F6.binds (ps := ["_law_span"]) fun _ _ _ _ _ _ us hl => match us, hl with | [_], _ => rfl
  have A_least : DefAt K mg "_law_least" s_least ["_law_span"] := ⟨_, _, F6, PySem.W.mg_of X G a6, b6⟩
  have F7 := fun_mk (st := s_asked) l7 c7 k7
  have b7 := F7.binds (ps := ["_law_draw", "_law_spans_here"]) fun _ _ _ _ _ _ us hl => match us, hl with | [_, _], _ => rfl
  have A_asked : DefAt K mg "_law_asked" s_asked ["_law_draw", "_law_spans_here"] := ⟨_, _, F7, PySem.W.mg_of X G a7, b7⟩
  have F8 := fun_mk (st := s_kept) l8 c8 k8
  have b8 := F8.binds (ps := ["_law_spans_here", "_law_key_here"]) fun _ _ _ _ _ _ us hl => match us, hl with | [_, _], _ => rfl
  have A_kept : DefAt K mg "_law_kept" s_kept ["_law_spans_here", "_law_key_here"] := ⟨_, _, F8, PySem.W.mg_of X G a8, b8⟩
  have F9 := fun_mk (st := s_law) l9 c9 k9
  exact ⟨PySem.W.fnOf "law" "law" (defArgs s_law) (defBody s_law) (defScope s_law) .none kV9 dc9 pm9 an9 cd9 ct9, fun s v => .of_eq rfl, fun base _ _ => ok_law F9 B T A_all_kept A_drawn A_pick A_key A_spans A_has A_asked A_kept⟩
end FB
open PySem PySem.W PyProof.Rows
set_option maxRecDepth 100000 in
set_option maxHeartbeats 0 in
theorem PySem.Challenge.cw_farbooks_k04_every_key_kept_holds : PySem.Challenge.rw_farbooks_k04_every_key_kept.Holds := by
  w_on; o_law; k_head; (case hw => w_witness2)
  k_fill
  refine L2.walk_of (l := PySem.Challenge.rw_farbooks_k04_every_key_kept) (n := 63) (k := 4) (x := "_law_script") (CX := fun _ => L2.CX0) (sp := fun w => FB.spLaw _) rfl (by decide) rfl ⟨rfl, by decide, by decide⟩ (fun w h Y => PySem.W.kIn_of Y) ?F (fun _ _ a ns hl _ hS => ⟨a, ns, rfl, hS, hl, fun _ => rfl⟩) (fun _ _ _ _ _ h => h)
  case F =>
    intro w mg fa h KX G hmg
    refine' FB.all_mk KX G hmg ?a0 ?l0 ?c0 ?k0 ?a1 ?l1 ?c1 ?k1 ?a2 ?l2 ?c2 ?k2 ?a3 ?l3 ?c3 ?k3 ?a4 ?l4 ?c4 ?k4 ?a5 ?l5 ?c5 ?k5 ?a6 ?l6 ?c6 ?k6 ?a7 ?l7 ?c7 ?k7 ?a8 ?l8 ?c8 ?k8 ?a9 ?l9 ?c9 ?k9 ?z0 ?z1 ?z2 ?z3 ?z4 ?z5 ?z6 ?z7 ?z8 ?z9 ?z10 ?y0
    (case a0 => k_is); (case l0 => k_is); (case c0 => k_is); (case k0 => k_is); (case a1 => k_is); (case l1 => k_is)
    (case c1 => k_is); (case k1 => k_is); (case a2 => k_is); (case l2 => k_is); (case c2 => k_is); (case k2 => k_is)
    (case a3 => k_is); (case l3 => k_is); (case c3 => k_is); (case k3 => k_is); (case a4 => k_is); (case l4 => k_is)
    (case c4 => k_is); (case k4 => k_is); (case a5 => k_is); (case l5 => k_is); (case c5 => k_is); (case k5 => k_is)
    (case a6 => k_is); (case l6 => k_is); (case c6 => k_is); (case k6 => k_is); (case a7 => k_is); (case l7 => k_is)
    (case c7 => k_is); (case k7 => k_is); (case a8 => k_is); (case l8 => k_is); (case c8 => k_is); (case k8 => k_is)
    (case a9 => k_is); (case l9 => k_is); (case c9 => k_is); (case k9 => k_is); (case z0 => k_is); (case z1 => k_is)
    (case z2 => k_is); (case z3 => k_is); (case z4 => k_is); (case z5 => k_is); (case z6 => k_is); (case z7 => k_is)
    (case z8 => k_is); (case z9 => k_is); (case z10 => k_is); (case y0 => k_is)
