import PyProof.Rows.All
import Wide.All
import OpenK.AllK
import Wide.FinOn
import HandS.ForMost
import PySem.Challenge.RW_everyfloor_k10_whole_makers_of_sets
import HandS.IsInst
import KE.GoesEnum
import HandS.Style
import HandS.Walk
import HandS.TupAny
import HandS.RevRange
import HandS.Conv
import HandS.ForExc
import HandS.TryMany
import HandS.More
import HandS.ClsMeth
import HandS.OwnEq
import HandS.ExcInit
import HandS.ExcField
import HandS.Defaults
import HandS.Lambda
import HandS.EndTab
set_option Elab.async false
set_option linter.all false
set_option maxRecDepth 100000
set_option maxHeartbeats 4000000
namespace Ef
open PySem PySem.Spec PyProof.Rows L2
def top (i : Nat) : Stmt := PySem.Challenge.pw_everyfloor_k10_whole_makers_of_sets.main.body.getD i (.Pass ⟨0, 0, 0, 0⟩)
abbrev sPen : Stmt := top 27
abbrev sDraw : Stmt := top 28
abbrev sPick : Stmt := top 29
/-! ### the pen -/
def penD (l : Addr) (a b : Int) : List (Key × V) := [(.inr "cells", .ref l), (.inr "at", .int a), (.inr "left", .int b)]
theorem pen_cells (l : Addr) (a b : Int) : valV (penD l a b) (Sum.inr "cells") = some (.ref l) := by with_unfolding_all rfl
theorem pen_at (l : Addr) (a b : Int) : valV (penD l a b) (Sum.inr "at") = some (.int a) := by with_unfolding_all rfl
theorem pen_left (l : Addr) (a b : Int) : valV (penD l a b) (Sum.inr "left") = some (.int b) := by with_unfolding_all rfl
theorem put_at (l : Addr) (a b c : Int) : putK (penD l a b) (Sum.inr "at") (.int c) = penD l c b := by with_unfolding_all rfl
theorem put_left (l : Addr) (a b c : Int) : putK (penD l a b) (Sum.inr "left") (.int c) = penD l a c := by with_unfolding_all rfl
/-- at p stands the pen: its list of ints at l, its place a, what is left b -/
structure Pen (H : Hp) (p l : Addr) (ns : List Int) (a b : Int) : Prop where
  hd : H p = some (.dK (penD l a b))
  hl : H l = some (.lst (ns.map V.int))
  len : ns.length ≤ 63
  a0 : 0 ≤ a
  b0 : 0 ≤ b
/-- all that is tracked but p is as it was -/
def Kp (p : Addr) (H H' : Hp) : Prop := ∀ x o, x ≠ p → H x = some o → H' x = some o
theorem Kp.refl (p : Addr) (H : Hp) : Kp p H H := fun _ _ _ h => h
theorem Kp.trans {p : Addr} {H H1 H2 : Hp} (a : Kp p H H1) (b : Kp p H1 H2) : Kp p H H2 := fun x o n h => b x o n (a x o n h)
theorem Kp.put {p : Addr} {H : Hp} (o : HO) : Kp p H (upd H p o) := fun x u n h => by rw [upd_ne n]; exact h
theorem Kp.new {p q : Addr} {H : Hp} (o : HO) (hq : H q = none) : Kp p H (upd H q o) := fun x u n h => by rw [upd_ne (ne_of_none h hq)]; exact h
/-! ### data -/
theorem dp_ints {K : PySem.W.Frag} {H : Hp} : ∀ ns : List Int, DpAll K H (ns.map V.int) (ns.map PyData.int)
  | [] => .nil
  | n :: ns => .cons (.int n) (dp_ints ns)
theorem dp_bls {K : PySem.W.Frag} {H : Hp} : ∀ bs : List Bool, DpAll K H (bs.map V.bl) (bs.map PyData.bool)
  | [] => .nil
  | n :: ns => .cons (.bl n) (dp_bls ns)
theorem can_ints : ∀ ns : List Int, PyData.canLayAll0 (ns.map PyData.int) = true ∧ PyData.depthAll (ns.map PyData.int) = 0
  | [] => ⟨rfl, rfl⟩
  | n :: ns => by
    obtain ⟨h1, h2⟩ := can_ints ns
    constructor
    · show (PyData.canLay0 (.int n) && PyData.canLayAll0 (ns.map PyData.int)) = true
      rw [h1]; rfl
    · show max (PyData.depth (.int n)) (PyData.depthAll (ns.map PyData.int)) = 0
      rw [h2]; rfl
theorem can_bls : ∀ ns : List Bool, PyData.canLayAll0 (ns.map PyData.bool) = true ∧ PyData.depthAll (ns.map PyData.bool) = 0
  | [] => ⟨rfl, rfl⟩
  | n :: ns => by
    obtain ⟨h1, h2⟩ := can_bls ns
    constructor
    · show (PyData.canLay0 (.bool n) && PyData.canLayAll0 (ns.map PyData.bool)) = true
      rw [h1]; rfl
    · show max (PyData.depth (.bool n)) (PyData.depthAll (ns.map PyData.bool)) = 0
      rw [h2]; rfl
theorem sh_list {ds : List PyData} (h1 : PyData.canLayAll0 ds = true) (h2 : PyData.depthAll ds = 0) : SeqAt.shaped (.list ds) = true ∧ SeqAt.shaped (.tuple ds) = true := by
  constructor
  · show (PyData.canLayAll0 ds && decide (PyData.depthAll ds + 1 ≤ 64)) = true
    rw [h1, h2]; rfl
  · show (PyData.canLayAll0 ds && decide (PyData.depthAll ds + 1 ≤ 64)) = true
    rw [h1, h2]; rfl
theorem eqv_nil (ns : List Int) : PyData.eqv (.list (ns.map PyData.int)) (.list []) = ns.isEmpty := by
  cases ns with
  | nil => rfl
  | cons n ns => rfl
theorem eqv_bls : ∀ as bs : List Bool, PyData.eqvAll (as.map PyData.bool) (bs.map PyData.bool) = decide (as = bs)
  | [], [] => rfl
  | [], _ :: _ => rfl
  | _ :: _, [] => rfl
  | a :: as, b :: bs => by
    show (PyData.eqv (.bool a) (.bool b) && PyData.eqvAll (as.map PyData.bool) (bs.map PyData.bool)) = _
    rw [eqv_bls as bs]
    show ((a == b) && decide (as = bs)) = decide (a :: as = b :: bs)
    by_cases h1 : a = b <;> by_cases h2 : as = bs <;> simp [h1, h2]
end Ef
set_option Elab.async false
set_option linter.all false
set_option maxRecDepth 100000
set_option maxHeartbeats 4000000
namespace Ef
open PySem PySem.Spec PyProof.Rows L2
structure TxtP (mg : Str → Option Value) : Prop where
  int : mg "int" = none
  len : mg "len" = none
  list : mg "list" = none
/-- what a draw promises -/
def spDraw : Sp := fun vs H Q _ => ∃ (p l : Addr) (ns : List Int) (a b m : Int), vs = [.ref p, .int m] ∧ Pen H p l ns a b ∧ a ≤ 1073741824 ∧ 1 ≤ m ∧ m < 1073741824 ∧
  ∀ (d a' b' : Int) (H' : Hp), 0 ≤ d → d < m → a' ≤ a + 1 → Pen H' p l ns a' b' → Kp p H H' → Q (.int d) H'
theorem scDraw : FnScope ["pen", "many", "digit", "at", "cell", "mixed"] ["pen", "many"] (defScope sDraw) := ⟨rfl, rfl, rfl, by decide +kernel, rfl, by decide +kernel, by decide +kernel⟩
section
variable {P : Program} {w : World} {K : PySem.W.Frag} {mg : Str → Option Value} {base : Heap}
theorem Pen.ne {H : Hp} {p l : Addr} {ns : List Int} {a b : Int} (h : Pen H p l ns a b) : l ≠ p := ne_of h.hl h.hd (by intro q; cases q)
theorem Pen.put {H : Hp} {p l : Addr} {ns : List Int} {a b : Int} (h : Pen H p l ns a b) {a' b' : Int} (ha : 0 ≤ a') (hb : 0 ≤ b') : Pen (upd H p (.dK (penD l a' b'))) p l ns a' b' :=
  ⟨upd_same, by rw [upd_ne h.ne]; exact h.hl, h.len, ha, hb⟩
theorem Pen.kp {H H' : Hp} {p l : Addr} {ns : List Int} {a b : Int} (h : Pen H p l ns a b) (k : Kp p H H') (hp : H' p = H p) : Pen H' p l ns a b := ⟨hp.trans h.hd, k _ _ h.ne h.hl, h.len, h.a0, h.b0⟩
theorem emB (x k : Int) (h : 0 < k) (h2 : k < 2 ^ 64) : -(2 ^ 64) < x % k ∧ x % k < 2 ^ 64 := by
  have h1 := Int.emod_nonneg x (show k ≠ 0 by omega)
  have h3 := Int.emod_lt_of_pos x h
  omega
theorem Pen.gl {H : Hp} {p l : Addr} {ns : List Int} {a b : Int} (h : Pen H p l ns a b) : DGet H p (.str "left") (some (.int b)) := by
  have z := DGet.k (k := Sum.inr "left") h.hd
  rw [pen_left] at z
  exact z
theorem Pen.ga {H : Hp} {p l : Addr} {ns : List Int} {a b : Int} (h : Pen H p l ns a b) : DGet H p (.str "at") (some (.int a)) := by
  have z := DGet.k (k := Sum.inr "at") h.hd
  rw [pen_at] at z
  exact z
theorem Pen.gc {H : Hp} {p l : Addr} {ns : List Int} {a b : Int} (h : Pen H p l ns a b) : DGet H p (.str "cells") (some (.ref l)) := by
  have z := DGet.k (k := Sum.inr "cells") h.hd
  rw [pen_cells] at z
  exact z
theorem Pen.pl {H : Hp} {p l : Addr} {ns : List Int} {a b c : Int} (h : Pen H p l ns a b) : DPut H p (.str "left") (.int c) (upd H p (.dK (penD l a c))) := by
  have z := DPut.k (k := Sum.inr "left") (v := .int c) h.hd (by show 3 < sizeLine; decide)
  rw [put_left] at z
  exact z
theorem Pen.pa {H : Hp} {p l : Addr} {ns : List Int} {a b c : Int} (h : Pen H p l ns a b) : DPut H p (.str "at") (.int c) (upd H p (.dK (penD l c b))) := by
  have z := DPut.k (k := Sum.inr "at") (v := .int c) h.hd (by show 3 < sizeLine; decide)
  rw [put_at] at z
  exact z
theorem ok_draw {f : Addr} {fd : FuncData} (F : Fun K "_law_draw" "_law_draw" sDraw f fd) (T : TxtP mg) : FnOk P w K mg base CX0 1 f fd ["pen", "many"] spDraw := by
  refine F.ok scDraw (fun vs H Q E h => ?_) (fun cdv A outer s H vs Q E hr h => ?_)
  · obtain ⟨p, l, ns, a, b, m, rfl, _⟩ := h
    rfl
  · obtain ⟨p, l, ns, a, b, m, rfl, hP, ha, hm1, hm2, q⟩ := h
    have hu := hu_of hr
    refine ⟨_, (pss_cons (ps_if (pt_cmpR op_ge (pe_dget hu (pv 0) pe_str (fun _ _ => rfl)) (pv 1) (nomark _)) (pss_cons (ps_set (i := 2) scDraw.nd rfl (.inl rfl) (pe_op op_mod (pe_callTy call_int1 (by rfl) T.int (by decide +kernel) (pa_cons (pe_dget hu (pv 0) pe_str (fun _ _ => rfl)) pa_nil)) (pv 1)))
      (pss_cons (ps_dput hu (pv 0) pe_str (pe_op op_fdiv (pe_dget hu (pv 0) pe_str (fun _ _ => rfl)) (pv 1)) rfl)
      (pss_one (ps_ret (pv 2))))) pss_nil)
      (pss_cons (ps_set (i := 3) scDraw.nd rfl (.inl rfl) (pe_dget hu (pv 0) pe_str (fun _ _ => rfl)))
      (pss_cons (ps_dput hu (pv 0) pe_str (pe_op op_add (pv 3) pe_int) rfl)
      (pss_cons (ps_set (i := 4) scDraw.nd rfl (.inl rfl) (pe_op op_add (pe_op op_mul pe_int (pv 3)) pe_int))
      (pss_cons (ps_if (pt_cmpR (op_neD hr.units) (pe_dget hu (pv 0) pe_str (fun _ _ => rfl)) (pe_lst pa_nil) (nomark _)) (pss_one (ps_set (i := 4) scDraw.nd rfl (.inl rfl) (pe_ix ix_list (pe_dget hu (pv 0) pe_str (fun _ _ => rfl)) (pe_op op_mod (pe_callTy call_int1 (by rfl) T.int (by decide +kernel) (pa_cons (pv 3) pa_nil)) (pe_callB call_len_seq (by rfl) T.len PySem.boot_len (pa_cons (pe_dget hu (pv 0) pe_str (fun _ _ => rfl)) pa_nil))) (fun _ _ => rfl)))) pss_nil)
      (pss_cons (ps_if (pw_and (pt_cmpR op_lt (pv 3) (pe_callB call_len_seq (by rfl) T.len PySem.boot_len (pa_cons (pe_dget hu (pv 0) pe_str (fun _ _ => rfl)) pa_nil)) (nomark _)) (pw_and1 (pt_cmpR op_ge (pv 4) (pe_op op_pow pe_int pe_int) (nomark _)))).pt (pss_cons (ps_dput hu (pv 0) pe_str (pe_op op_fdiv (pe_op op_sub (pv 4) (pe_op op_pow pe_int pe_int)) (pv 1)) rfl)
      (pss_one (ps_ret (pe_op op_mod (pe_callTy call_int1 (by rfl) T.int (by decide +kernel) (pa_cons (pe_op op_sub (pv 4) (pe_op op_pow pe_int pe_int)) pa_nil)) (pv 1))))) pss_nil)
      (pss_cons (ps_set (i := 5) scDraw.nd rfl (.inl rfl) (pe_op op_add (pe_op op_add (pe_op op_add (pe_op op_mul (pe_op op_mod (pe_callTy call_int1 (by rfl) T.int (by decide +kernel) (pa_cons (pv 4) pa_nil)) pe_int) pe_int) (pe_op op_mul (pe_op op_mul pe_int (pv 3)) (pv 3))) (pe_op op_mul pe_int (pv 3))) pe_int))
      (pss_cons (ps_set (i := 5) scDraw.nd rfl (.inl rfl) (pe_op op_mod (pe_callTy call_int1 (by rfl) T.int (by decide +kernel) (pa_cons (pv 5) pa_nil)) pe_int))
      (pss_cons (ps_set (i := 5) scDraw.nd rfl (.inl rfl) (pe_op op_mod (pe_callTy call_int1 (by rfl) T.int (by decide +kernel) (pa_cons (pe_op op_mul (pv 5) (pe_op op_add (pv 5) pe_int)) pa_nil)) pe_int))
      (pss_one (ps_ret (pe_op op_mod (pe_callTy call_int1 (by rfl) T.int (by decide +kernel) (pa_cons (pe_op op_fdiv (pe_op op_mod (pe_callTy call_int1 (by rfl) T.int (by decide +kernel) (pa_cons (pe_op op_mul (pv 5) (pv 5)) pa_nil)) pe_int) pe_int) pa_nil)) (pv 1))))))))))))), ?_⟩
    -- if pen['left'] >= many
    refine ⟨_, rfl, p, _, rfl, hP.gl, _, rfl, _, _, rfl, rfl, _, rfl, ?_⟩
    refine ite2 (fun hb => ?_) (fun hb => ?_)
    · -- digit; pen['left']; return
      refine ⟨_, rfl, p, _, rfl, hP.gl, .inl ⟨_, rfl, ?_⟩⟩
      refine ⟨_, rfl, _, _, rfl, rfl, by omega, ?_⟩
      refine ⟨_, rfl, p, _, rfl, hP.gl, _, rfl, _, _, rfl, rfl, ⟨by omega, hm2⟩, _, rfl, p, _, rfl, hP.pl, ?_⟩
      refine ⟨_, rfl, ?_⟩
      exact q _ _ _ _ (Int.emod_nonneg _ (by omega)) (Int.emod_lt_of_pos _ (by omega)) (by omega) (hP.put hP.a0 (Int.ediv_nonneg hP.b0 (by omega))) (Kp.put _)
    · -- at = pen['at']; pen['at'] = at + 1
      refine ⟨_, rfl, p, _, rfl, hP.ga, ?_⟩
      refine ⟨_, rfl, _, _, rfl, rfl, _, rfl, p, _, rfl, hP.pa, ?_⟩
      have hP1 := hP.put (a' := a + 1) (b' := b) (by have := hP.a0; omega) hP.b0
      have a0 := hP.a0
      have b0 := hP.b0
      have k1 : Kp p H (upd H p (.dK (penD l (a + 1) b))) := Kp.put _
      have aE : ∀ {x : Int}, x = a → -(2 ^ 64) < x ∧ x < 2 ^ 64 := fun e => by subst e; constructor <;> omega
      -- cell = 37 * at + 11
      refine ⟨_, rfl, _, _, rfl, rfl, .inl ⟨by decide, by decide⟩, _, _, rfl, rfl, ?_⟩
      -- if pen['cells'] != []
      refine ⟨_, rfl, p, _, rfl, hP1.gc, Nat.zero_le _, fun t ht => ?_⟩
      have hP2 : Pen (upd (upd H p (.dK (penD l (a + 1) b))) t (.lst [])) p l ns (a + 1) b := hP1.kp (Kp.new _ ht) (upd_ne (ne_of_none hP1.hd ht))
      have k2 := k1.trans (Kp.new (.lst []) ht)
      have hT : SqL K (upd (upd H p (.dK (penD l (a + 1) b))) t (.lst [])) t [] := .inl (.inl upd_same)
      refine ⟨_, _, .lst (.inl (.inl hP2.hl)) (dp_ints ns), .lst hT .nil, (sh_list (can_ints ns).1 (can_ints ns).2).1, (sh_list rfl rfl).1, _, rfl, ?_⟩
      generalize upd (upd H p (.dK (penD l (a + 1) b))) t (.lst []) = H2 at hP2 k2 hT ⊢
      rw [eqv_nil]
      have hm0 : (0 : Int) < m := by omega
      refine ite2 ?g1 ?g2
      case' g1 =>
        intro he
        have hn : 0 < ns.length := by
          cases ns with
          | nil => exact absurd he (by decide)
          | cons n ns => exact Nat.succ_pos _
        have hlt : (a % (ns.length : Int)).toNat < ns.length := by
          have h1 := Int.emod_nonneg a (show (ns.length : Int) ≠ 0 by omega)
          have h2 := Int.emod_lt_of_pos a (show (0 : Int) < (ns.length : Int) by omega)
          omega
        refine ⟨_, rfl, p, _, rfl, hP2.gc, _, rfl, .inl ⟨_, rfl, _, rfl, p, _, rfl, hP2.gc, _, _, rfl, .inl (.inl (.inl hP2.hl)), _, _, rfl, rfl, by rw [List.length_map]; omega, l, _, _, .int ns[(a % (ns.length : Int)).toNat], rfl, rfl, .inl (.inl hP2.hl), ?_, ?_⟩⟩
        · rw [List.length_map]
          exact at_of (Int.toNat_of_nonneg (Int.emod_nonneg a (show (ns.length : Int) ≠ 0 by omega))).symm (by rw [List.getElem?_map, List.getElem?_eq_getElem hlt]; rfl)
        generalize ns[(a % (ns.length : Int)).toNat] = c
      case' g2 =>
        intro he
        generalize 37 * a + 11 = c
      all_goals
        refine ⟨_, rfl, _, rfl, p, _, rfl, hP2.gc, _, _, rfl, .inl (.inl (.inl hP2.hl)), _, _, rfl, rfl, _, rfl, ?_⟩
        refine ite2 ?_ ?_
      all_goals intro h1
      all_goals try
        (refine ⟨_, rfl, _, _, rfl, rfl, ⟨by decide, by decide, by decide⟩, _, _, rfl, rfl, _, rfl, ?_⟩
         refine ite2 ?_ ?_ <;> intro h2)
      all_goals try
        (refine ⟨_, rfl, _, _, rfl, rfl, ⟨by decide, by decide, by decide⟩, _, _, rfl, rfl, _, rfl, _, _, rfl, rfl, ⟨hm0, hm2⟩, _, rfl, p, _, rfl, hP2.pl, ?_⟩
         refine ⟨_, rfl, _, _, rfl, rfl, ⟨by decide, by decide, by decide⟩, _, _, rfl, rfl, .inl ⟨_, rfl, _, rfl, _, _, rfl, rfl, hm0, ?_⟩⟩
         exact q _ _ _ _ (Int.emod_nonneg _ (Int.ne_of_gt hm0)) (Int.emod_lt_of_pos _ hm0) (Int.le_refl _) (hP2.put hP2.a0 (Int.ediv_nonneg (Int.sub_nonneg_of_le (of_decide_eq_true h2)) (Int.le_of_lt hm0))) (k2.trans (Kp.put _)))
      all_goals try refine iteF ?_
      all_goals
        refine ⟨_, rfl, .inl ⟨_, rfl, _, _, rfl, rfl, (by show (0 : Int) < _; decide), _, _, rfl, rfl, .inr ⟨by decide, by decide⟩, _, rfl, _, _, rfl, rfl, .inl ⟨by decide, by decide⟩, _, rfl, _, _, rfl, rfl, .inr (aE rfl), _, _, rfl, rfl, _, rfl, _, _, rfl, rfl, .inl ⟨by decide, by decide⟩, _, _, rfl, rfl, _, _, rfl, rfl, ?_⟩⟩
        refine ⟨_, rfl, .inl ⟨_, rfl, _, _, rfl, rfl, (by show (0 : Int) < _; decide), ?_⟩⟩
        refine ⟨_, rfl, _, rfl, _, _, rfl, rfl, _, _, rfl, rfl, .inl (emB _ _ (by decide) (by decide)), .inl ⟨_, rfl, _, _, rfl, rfl, (by show (0 : Int) < _; decide), ?_⟩⟩
        refine ⟨_, rfl, _, rfl, _, _, rfl, rfl, .inl (emB _ _ (by decide) (by decide)), .inl ⟨_, rfl, _, _, rfl, rfl, (by show (0 : Int) < _; decide), _, _, rfl, rfl, ⟨by decide, by decide⟩, .inl ⟨_, rfl, _, rfl, _, _, rfl, rfl, hm0, ?_⟩⟩⟩
        exact q _ _ _ _ (Int.emod_nonneg _ (Int.ne_of_gt hm0)) (Int.emod_lt_of_pos _ hm0) (Int.le_refl _) hP2 k2
end
end Ef
set_option Elab.async false
set_option linter.all false
set_option maxRecDepth 100000
set_option maxHeartbeats 4000000
namespace Ef
open PySem PySem.Spec PyProof.Rows L2
/-- a def of the text, by its name -/
structure Df (P : Program) (w : World) (K : PySem.W.Frag) (mg : Str → Option Value) (base : Heap) (k : Nat) (x : Str) (ps : List Str) (sp : Sp) : Prop where
  ex : ∃ f fd, mg x = some (.ref f) ∧ PySem.W.keepIn K (.ref f) = true ∧ Binds K fd ps [] ∧ FnOk P w K mg base CX0 k f fd ps sp
theorem Df.call {X : Cx} {k : Nat} {x : Str} {ps : List Str} {sp : Sp} {e : Expr} {es : List Expr} {t : TA} {p pos : Pos} (D : Df X.prog X.w X.K X.mg X.base k x ps sp) (hr : Room k X.A) (ha : PA X (e :: es) t) (hg : Gl X x := by rfl)
    (hdb : (x == ("__debug__" : Str)) = false := by decide) (he : starEach (e :: es) X.env = (false, eval e X.env) :: starEach es X.env := by rfl) (hpl : (backTo pos (starEach es X.env)).any (·.1) = false := by rfl) :
    PE X (.Call (.Name x p) (e :: es) [] pos) (tCall sp [] E0 t) := by
  obtain ⟨f, fd, hm, hk, hb, F⟩ := D.ex
  exact pe_call F hr hg hm hk hb .nil pass0 ha hdb he hpl
/-- where the text's def stands behind the top -/
structure At (K : PySem.W.Frag) (mg : Str → Option Value) (x : Str) (st : Stmt) : Prop where
  ex : ∃ f fd, mg x = some (.ref f) ∧ Fun K x x st f fd
section
variable {P : Program} {w : World} {K : PySem.W.Frag} {mg : Str → Option Value} {base : Heap}
theorem Kp.of_same {p : Addr} {H H' : Hp} (h : Same H H') : Kp p H H' := fun x o _ e => h x o e
theorem Kp.rd {p : Addr} {H H' : Hp} {q : Addr} {u : HO} (k : Kp p H H') (n : q ≠ p) (h : Rd H q u) : Rd H' q u := by
  rcases h with h | ⟨o, h⟩
  · exact .inl (k _ _ n h)
  · exact .inr ⟨o, k _ _ n h⟩
theorem Kp.sql {p : Addr} {H H' : Hp} {q : Addr} {xs : List V} (k : Kp p H H') (n : q ≠ p) (h : SqL K H q xs) : SqL K H' q xs := by
  rcases h with h | h
  · exact .inl (k.rd n h)
  · exact .inr h
theorem Kp.sqt {p : Addr} {H H' : Hp} {q : Addr} {xs : List V} (k : Kp p H H') (n : q ≠ p) (h : SqT K H q xs) : SqT K H' q xs := by
  rcases h with h | h
  · exact .inl (k.rd n h)
  · exact .inr h
theorem Kp.free {p : Addr} {H H' : Hp} (k : Kp p H H') {q : Addr} (n : q ≠ p) (h : H' q = none) : H q = none := by
  cases e : H q with
  | none => rfl
  | some o => rw [k q o n e] at h; cases h
theorem Kp.mut {p q : Addr} {H H' : Hp} {o : HO} (k : Kp p H H') (h : H q = none) : Kp p H (upd H' q o) := fun x u n e => by
  rw [upd_ne (ne_of_none e h)]
  exact k x u n e
theorem small1000' {n : Nat} (h : n ≤ 100000) : n < sizeLine := Nat.lt_of_le_of_lt h (by decide)
theorem df_draw (A : At K mg "_law_draw" sDraw) (T : TxtP mg) : Df P w K mg base 1 "_law_draw" ["pen", "many"] spDraw := by
  obtain ⟨f, fd, hm, F⟩ := A.ex
  exact ⟨f, fd, hm, F.kp, F.binds (fun _ _ _ _ _ _ us hl => match us, hl with | [_, _], _ => rfl), ok_draw F T⟩
/-! ### _law_pen -/
def spPen (K : PySem.W.Frag) : Sp := fun vs H Q _ => ∃ (a : Addr) (ns : List Int), vs = [.ref a] ∧ SqL K H a (ns.map V.int) ∧ ns.length ≤ 63 ∧ ∀ (p l : Addr) (H' : Hp), H p = none → Same H H' → Pen H' p l ns 0 0 → Q (.ref p) H'
theorem scPen : FnScope ["script"] ["script"] (defScope sPen) := ⟨rfl, rfl, rfl, by decide +kernel, rfl, by decide +kernel, by decide +kernel⟩
theorem cut63 (xs : List V) (h : xs.length ≤ 63) : cutV xs none (some 63) = xs := by
  unfold cutV
  rw [HT.sIx_none, show HT.sIx xs.length xs.length (some 63) = min 63 xs.length from HT.sIx_nat xs.length xs.length 63, Nat.min_eq_right h]
  simp
theorem df_pen (A : At K mg "_law_pen" sPen) (T : TxtP mg) : Df P w K mg base 1 "_law_pen" ["script"] (spPen K) := by
  obtain ⟨f, fd, hm, F⟩ := A.ex
  refine ⟨f, fd, hm, F.kp, F.binds (fun _ _ _ _ _ _ us hl => match us, hl with | [_], _ => rfl), F.ok scPen (fun vs H Q E h => ?_) (fun cdv A outer s H vs Q E hr h => ?_)⟩
  · obtain ⟨a, ns, rfl, _⟩ := h
    rfl
  · obtain ⟨a, ns, rfl, hS, hlen, q⟩ := h
    refine ⟨_, (pss_one (ps_ret (pe_disp (pps_cons pe_str (pe_callTy call_list_of (by rfl) T.list (by decide +kernel) (pa_cons (pe_slice sl_list (pv 0) po_none (po_some pe_int)) pa_nil)) (pps_cons pe_str pe_int (pps_cons pe_str pe_int pps_nil))) (by rfl) (by rfl) (fun z => by cases z) (by decide)))), ?_⟩
    intro p hp
    have s1 : Same H (upd H p (.dK [])) := fun b o e => by rw [upd_ne (ne_of_none e hp)]; exact e
    refine ⟨_, rfl, 63, rfl, a, _, rfl, s1.seq hS, fun c hc => ?_⟩
    rw [cut63 _ (by rw [List.length_map]; exact hlen)]
    have s2 : Same H (upd (upd H p (.dK [])) c (.lst (ns.map V.int))) := s1.trans fun b o e => by rw [upd_ne (ne_of_none e hc)]; exact e
    refine ⟨c, _, rfl, .inl (.inl (.inl upd_same)), fun l hl => ?_⟩
    have s3 : Same H (upd (upd (upd H p (.dK [])) c (.lst (ns.map V.int))) l (.lst (ns.map V.int))) := s2.trans fun b o e => by rw [upd_ne (ne_of_none e hl)]; exact e
    have hpc : p ≠ c := fun z => by rw [← z, upd_same] at hc; cases hc
    have hpl : p ≠ l := fun z => by rw [← z, upd_ne hpc, upd_same] at hl; cases hl
    refine ⟨by rw [upd_ne hpl, upd_ne hpc, upd_same], penD l 0 0, rfl, by show 3 ≤ 15; decide, ?_⟩
    refine q p l _ hp (fun b o e => ?_) ⟨upd_same, by rw [upd_ne hpl.symm, upd_same], hlen, Int.le_refl 0, Int.le_refl 0⟩
    rw [upd_ne (ne_of_none e hp)]
    exact s3 _ _ e
/-! ### _law_pick -/
def spPick (K : PySem.W.Frag) : Sp := fun vs H Q _ => ∃ (p l q : Addr) (ns : List Int) (a b : Int) (xs : List V), vs = [.ref p, .ref q] ∧ Pen H p l ns a b ∧ a ≤ 1073741824 ∧ SqL K H q xs ∧ q ≠ p ∧ 1 ≤ xs.length ∧ xs.length ≤ 100000 ∧
  ∀ (j : Nat) (v : V) (a' b' : Int) (H' : Hp), xs[j]? = some v → a' ≤ a + 1 → Pen H' p l ns a' b' → Kp p H H' → Q v H'
theorem scPick : FnScope ["pen", "some"] ["pen", "some"] (defScope sPick) := ⟨rfl, rfl, rfl, by decide +kernel, rfl, by decide +kernel, by decide +kernel⟩
theorem df_pick (A : At K mg "_law_pick" sPick) (T : TxtP mg) (Ddraw : Df P w K mg base 1 "_law_draw" ["pen", "many"] spDraw) : Df P w K mg base 2 "_law_pick" ["pen", "some"] (spPick K) := by
  obtain ⟨f, fd, hm, F⟩ := A.ex
  refine ⟨f, fd, hm, F.kp, F.binds (fun _ _ _ _ _ _ us hl => match us, hl with | [_, _], _ => rfl), F.ok scPick (fun vs H Q E h => ?_) (fun cdv A outer s H vs Q E hr h => ?_)⟩
  · obtain ⟨p, l, q, ns, a, b, xs, rfl, _⟩ := h
    rfl
  · obtain ⟨p, l, q, ns, a, b, xs, rfl, hP, ha, hS, hqp, h1, h2, k⟩ := h
    refine ⟨_, (pss_one (ps_ret (pe_ix ix_list (pv 1) (Ddraw.call (hr.mono (by decide)) (pa_cons (pv 0) (pa_cons (pe_callB call_len_seq (by rfl) T.len PySem.boot_len (pa_cons (pv 1) pa_nil)) pa_nil))) (fun _ _ => rfl)))), ?_⟩
    refine ⟨_, rfl, _, rfl, _, rfl, _, _, rfl, .inl hS, p, l, ns, a, b, _, rfl, hP, ha, by omega, by omega, fun d a' b' H' d0 d1 ha' hP' hK => ?_⟩
    have hd : d.toNat < xs.length := by omega
    exact ⟨q, _, _, _, rfl, rfl, hK.sql hqp hS, at_of (Int.toNat_of_nonneg d0).symm (List.getElem?_eq_getElem hd), k _ _ _ _ _ (List.getElem?_eq_getElem hd) ha' hP' hK⟩
end
end Ef
set_option Elab.async false
set_option linter.all false
set_option maxRecDepth 100000
set_option maxHeartbeats 4000000
namespace Ef
open PySem PySem.Spec PyProof.Rows L2
/-- a drawn set: the tuple of its two lists of truths -/
def Md (H : Hp) (r : Addr) (bs rs : List Bool) : Prop := ∃ rb rr, H r = some (.tup [.ref rb, .ref rr]) ∧ H rb = some (.lst (bs.map V.bl)) ∧ H rr = some (.lst (rs.map V.bl))
theorem Md.kp {H H' : Hp} {p r : Addr} {bs rs : List Bool} {d : List (Key × V)} (h : Md H r bs rs) (k : Kp p H H') (hp : H p = some (.dK d)) : Md H' r bs rs := by
  obtain ⟨rb, rr, h1, h2, h3⟩ := h
  exact ⟨rb, rr, k _ _ (ne_of h1 hp (by intro q; cases q)) h1, k _ _ (ne_of h2 hp (by intro q; cases q)) h2, k _ _ (ne_of h3 hp (by intro q; cases q)) h3⟩
theorem Md.same {H H' : Hp} {r : Addr} {bs rs : List Bool} (h : Md H r bs rs) (k : Same H H') : Md H' r bs rs := by
  obtain ⟨rb, rr, h1, h2, h3⟩ := h
  exact ⟨rb, rr, k _ _ h1, k _ _ h2, k _ _ h3⟩
/-- is n in the set -/
def mtruth (bs rs : List Bool) (n : Int) : Bool := if n < bs.length then bs.getD n.toNat false else rs.getD (n % rs.length).toNat false
theorem inV_bls (b : Bool) : ∀ bs : List Bool, inV (.bl b) (bs.map V.bl) = bs.contains b
  | [] => rfl
  | c :: bs => by
    show (eqV (.bl c) (.bl b) || inV (.bl b) (bs.map V.bl)) = _
    rw [inV_bls b bs, List.contains_cons]
    congr 1
    cases b <;> cases c <;> rfl
theorem flat_bls : ∀ bs : List Bool, (bs.map V.bl).all flatV = true
  | [] => rfl
  | c :: bs => by
    show (flatV (.bl c) && (bs.map V.bl).all flatV) = true
    rw [flat_bls bs]; rfl
theorem get_bls {bs : List Bool} {j : Nat} (h : j < bs.length) : (bs.map V.bl)[j]? = some (.bl (bs.getD j false)) := by
  rw [List.getElem?_map, List.getElem?_eq_getElem h, List.getD_eq_getElem?_getD, List.getElem?_eq_getElem h]
  rfl
end Ef
set_option Elab.async false
set_option linter.all false
set_option maxRecDepth 100000
set_option maxHeartbeats 2000000
/-! for i, x in enumerate(t), t a tuple -/
namespace Ef
open PySem PySem.Spec PyProof.Rows L2
def IteT (K : PySem.W.Frag) (a : Addr) : It :=
  ⟨fun i H => ∃ (xs : List V) (x : V), SqT K H a xs ∧ xs[i]? = some x, fun i H v H' => ∃ T x, v = .ref T ∧ H T = none ∧ H' = upd H T (.tup [.int (i : Nat), x]) ∧ ∀ xs, SqT K H a xs → xs[i]? = some x, fun i H => ∃ xs : List V, SqT K H a xs ∧ xs.length ≤ i⟩
/-- at vals end -/
theorem draws_end {prog : Program} {w : World} {A : Around} (hh : A.handled = none) (it t : Addr) (items : Array Value) (n : Nat) (hn : items.size ≤ n) :
    Draws prog w A it [it, t] n (fun _ _ => True) (fun i h => i = n ∧ h.IsTupleIter it t n ∧ h.IsTuple t items) where
  live := fun _ _ sta => let ⟨o, ho, _⟩ := sta.2.1; ⟨o, ho⟩
  frame := fun _ _ _ sta hk => ⟨sta.1, sta.2.1.at fun o e => hk it (by simp) o e, sta.2.2.at fun o e => hk t (by simp) o e⟩
  item := fun i s Q E hi sta hQ => absurd sta.1 (Nat.ne_of_lt hi)
  done := fun s Q E sta hE => wpAny_nextOf_tuple_end hh sta.2.1 sta.2.2 (by simp; omega) hE
theorem turn_enumT {P : Program} {w : World} {K : PySem.W.Frag} {elts : List Expr} {kk : Nat} {tpos : Pos} (a e it : Addr) :
    Turn P w K (.Tuple elts kk tpos) (IteT K a) [e, it] e (fun i h => (∃ was, IsEnum h e it (0 + ((i : Nat) : Int)) was) ∧ h.IsTupleIter it a i ∧ e ≠ it ∧ a ≠ it ∧ a ≠ e) where
  mem := by simp
  obj := fun i h sta b hb => by
    obtain ⟨⟨was, hEn⟩, ⟨o, ho, hc, hd⟩, _⟩ := sta
    have eOr : b = e ∨ b = it := by simpa using hb
    rcases eOr with z | z
    · rw [z]; exact ⟨_, hEn, fun v q => nomatch q⟩
    · rw [z]; exact ⟨o, ho, fun v q => by rw [hd] at q; cases q⟩
  keep := fun i h h' sta k => let ⟨⟨was, hEn⟩, hi, eNi⟩ := sta; ⟨⟨was, k e (by simp) _ hEn⟩, hi.at fun o q => k it (by simp) o q, eNi⟩
  item := by
    intro X hP hw hK hc i pins s σ H E I hFp sta hGo
    subst hP hw hK
    obtain ⟨⟨was, hEn⟩, hIt, eNi, aNi, aNe⟩ := sta
    obtain ⟨xs, x, hSq, hx⟩ := hGo
    obtain ⟨vals, rVs, p, zLen⟩ := I.tuple hSq
    obtain ⟨u, hu, ru⟩ := rVs.get hx
    have eIn : e < s.heap.objs.size := Heap.lt_size hEn
    have iIn : it < s.heap.objs.size := by obtain ⟨_, q, _⟩ := hIt; exact Heap.lt_size q
    have hlt : i < vals.toArray.size := by
      rcases Nat.lt_or_ge i vals.length with q | q
      · simpa using q
      · rw [List.getElem?_eq_none q] at hu; cases hu
    refine wpAny_pyNext_enum_itemC (Draws.tuple (A := X.A.in1) (I.ok.hd hc) it a aNi vals.toArray) hEn ⟨hIt, p⟩ hlt eNi (by simp [eNi, Ne.symm aNe]) fun y h' tk hy ho hit' hT zNew hk => ?_
    refine ⟨_, rfl, wpAny_letOwnedTupleGo_enum (s := { s with heap := h', toks := tk + 1 }) ho fun h'' he' sBut => ?_⟩
    have hT2 : h''.get? s.heap.objs.size = some { cls := .type "tuple", data := .seq #[.int (0 + ((i : Nat) : Int)) tk, y] } := (sBut.2 _ (Nat.ne_of_gt eIn)).trans hT
    have ey : y = u := by
      have z : vals[i]? = some y := by simpa using hy
      exact Option.some.inj (z.symm.trans hu)
    have e0 : (0 + ((i : Nat) : Int)) = (i : Int) := Int.zero_add _
    rw [e0] at hT2
    have fresh1 : ObjOk X.prog X.w (upd H s.heap.objs.size (.tup [.int (i : Nat), x])) h'' s.heap.objs.size (.tup [.int (i : Nat), x]) :=
      ⟨by show 2 ≤ sizeLine; decide, [.int i tk, y], .cons ⟨_, rfl⟩ (.cons (ey ▸ ru) .nil), ⟨_, hT2, rfl, _, rfl⟩⟩
    have J1 : Inv X pins σ (upd H s.heap.objs.size (.tup [.int (i : Nat), x])) { s with heap := h'', toks := tk + 1 } :=
      I.turnedNew (ch := [e, it]) (fun b ob hb q => (sBut.2 b (fun z => hb (by simp [z]))).trans (hk b ob (fun z => hb (by simp [z])) (fun z => hb (by simp [z])) q)) hFp (Nat.le_refl _) fresh1
    refine ⟨.ref s.heap.objs.size, _, J1, rfl, ⟨_, x, rfl, I.hok.fresh (Nat.le_refl _), rfl, fun ys hy => by rw [I.tuple_inj hy hSq]; exact hx⟩, ⟨⟨y, ?_⟩, hit'.1.at fun o q => (sBut.2 it (Ne.symm eNi)).trans q, eNi, aNi, aNe⟩, fun b hb => ?_⟩
    · have e1 : (0 + ((i + 1 : Nat) : Int)) = 0 + (i : Int) + 1 := by omega
      rw [e1]; exact he'
    · have bIn : b < s.heap.objs.size := by
        have eOr : b = e ∨ b = it := by simpa using hb
        rcases eOr with z | z
        · rw [z]; exact eIn
        · rw [z]; exact iIn
      rw [upd_ne (Nat.ne_of_lt bIn)]
      exact (hFp b hb).1
  done := by
    intro X hP hw hK hc i pins s σ H E I hFp sta hGo
    subst hP hw hK
    obtain ⟨⟨was, hEn⟩, hIt, eNi, aNi, aNe⟩ := sta
    obtain ⟨xs, hSq, hx⟩ := hGo
    obtain ⟨vals, rVs, p, zLen⟩ := I.tuple hSq
    obtain ⟨g0, g1, g2, g3, g4, g5⟩ := hFp it (by simp)
    have hl := rVs.length
    exact wpAny_pyNext_enum_endD (draws_end (A := X.A.in1) (I.ok.hd hc) it a vals.toArray i (by simp; omega)) hEn ⟨rfl, hIt, p⟩ fun h' eb => ⟨rfl, I.turned (t' := s.toks) (fun b o hb q => eb b o hb q) g0 g1 g3 g4 g5⟩
  self := fun A i s Q E sta h => let ⟨⟨_, hEn⟩, _⟩ := sta; wpAny_pyIter_enum hEn h
def iEnumT (K : PySem.W.Frag) (ta : TA) : TI := fun σ H R => ta σ H fun vs H1 => ∃ a xs, vs = [.ref a] ∧ SqT K H1 a xs ∧ R (IteT K a) H1
/-- a list or a tuple -/
def iEnumS (K : PySem.W.Frag) (ta : TA) : TI := fun σ H R => ta σ H fun vs H1 => ∃ a xs, vs = [.ref a] ∧ ((SqL K H1 a xs ∧ R (Ite K a) H1) ∨ (SqT K H1 a xs ∧ R (IteT K a) H1))
/-- enumerate(t): vals two fresh1 cells -/
theorem call_enumerate_tuple {prog : Program} {w : World} {A : Around} {E : Value → Shared → Prop} {s : Shared} {l : Addr} {items : Array Value} {Q : Value → Shared → Prop} (hL : s.heap.IsTuple l items)
    (h : ∀ h', IsEnum h' (s.heap.objs.size + 1) s.heap.objs.size (0 + ((0 : Nat) : Int)) .none → h'.IsTupleIter s.heap.objs.size l 0 → h'.objs.size = s.heap.objs.size + 2 →
      (∀ b o, s.heap.get? b = some o → h'.get? b = some o) → Q (.ref (s.heap.objs.size + 1)) { s with heap := h' }) :
    wpAny (model prog w) A (call (.type "enumerate") [.ref l]) Q E s := by
  have B := begins_tuple l items
  have M : Meets (Builtin.«enumerate.__new__» ⟨[.type "enumerate", .ref l], []⟩) (fun _ R s => s.heap.IsTuple l items ∧
      R (.ok (.ret (.ref (s.heap.push { cls := .type "tuple_iterator", data := .fields #[.ref l, .int 0 0] }).objs.size)))
        { s with heap := (s.heap.push { cls := .type "tuple_iterator", data := .fields #[.ref l, .int 0 0] }).push { cls := .type "enumerate", data := .fields #[.none, .bool false, .ref s.heap.objs.size, rawInt 0, .none, .none] } }) :=
    .of_wp fun prog w A R s h => by
      obtain ⟨heap0, g, d, tk, os⟩ := s
      obtain ⟨h1, h⟩ := h
      have subE := sub_enumerate
      have q1 : ∀ {A' : Around} {E : Value → Shared → Prop} {Q : Value → Shared → Prop}, Q (.ref heap0.objs.size) ⟨heap0.push { cls := .type "tuple_iterator", data := .fields #[.ref l, .int 0 0] }, g, d, tk, os⟩ → wpAny (model prog w) A' (pyIter (.ref l)) Q E ⟨heap0, g, d, tk, os⟩ :=
        fun q => B.iter prog w _ _ ⟨heap0, g, d, tk, os⟩ _ h1 q
      obtain ⟨oT, hoT, hcT, nT, hdT⟩ := id h1
      wp_walk using q1, AutoSeq1.wpAny_loadPart' hoT
      refine wpAny_stack_any fun sta => wpAny_pure ?_
      split
      · rename_i c _ _ _ _ _
        cases (c == Value.type "enumerate")
        · wp_walk using q1, AutoSeq1.wpAny_loadPart' hoT
          exact ⟨_, rfl, h⟩
        · wp_walk using q1, AutoSeq1.wpAny_loadPart' hoT
          exact ⟨_, rfl, h⟩
      · wp_walk using q1, AutoSeq1.wpAny_loadPart' hoT
        exact ⟨_, rfl, h⟩
  refine callType_new F.called_enumerate (by decide) (F.typeCall_enumerate_1 _) (F.newCall_enumerate_1 _) (fun obj => F.args_object_init_2 obj _) F.entry_enumerate_new M ⟨hL, ?_⟩
  have zLen : (s.heap.push { cls := .type "tuple_iterator", data := .fields #[.ref l, .int 0 0] }).objs.size = s.heap.objs.size + 1 := Heap.size_push ..
  show _ ∧ _
  rw [zLen]
  have hEn : IsEnum ((s.heap.push { cls := .type "tuple_iterator", data := .fields #[.ref l, .int 0 0] }).push
      { cls := .type "enumerate", data := .fields #[.none, .bool false, .ref s.heap.objs.size, rawInt 0, .none, .none] }) (s.heap.objs.size + 1) s.heap.objs.size 0 .none := by
    have := Heap.get?_push_size (s.heap.push { cls := .type "tuple_iterator", data := .fields #[.ref l, .int 0 0] })
      (o := { cls := .type "enumerate", data := .fields #[.none, .bool false, .ref s.heap.objs.size, rawInt 0, .none, .none] }) rfl
    rw [zLen] at this; exact this
  refine ⟨⟨_, hEn, rfl⟩, h _ hEn ⟨_, Heap.get?_push_of_some _ (Heap.get?_push_size _ rfl), rfl, rfl⟩ (by rw [Heap.size_push, zLen]) fun b o x => Heap.get?_push_of_some _ (Heap.get?_push_of_some _ x)⟩
theorem pi_enumS {X : Cx} {e : Expr} {ta : TA} {p pos tpos : Pos} {elts : List Expr} {kk : Nat} (hGo : Gl X "enumerate") (hm : X.mg "enumerate" = none) (ha : PA X [e] ta) (hs : starEach [e] X.env = [(false, eval e X.env)] := by rfl) :
    PI X (.Tuple elts kk tpos) (.Call (.Name "enumerate" p) [e] [] pos) (iEnumS X.K ta) := by
  refine ⟨fun pins s σ H R I h => ?_⟩
  refine Call_ (ld_blt I hGo hm boot_enumerate (PyProof.Rows.callWith_type1 (thn (ha.run pos pins s σ H _ I h) fun us s1 ⟨vs, H1, J1, r1, q1⟩ => ?_) hs rfl))
  obtain ⟨a, xs, ex, q⟩ := q1
  subst ex
  cases r1 with
  | cons r rr =>
    cases rr
    cases r
    have far : ∀ b, b ∈ [s1.heap.objs.size + 1, s1.heap.objs.size] → s1.heap.objs.size ≤ b := fun b hb => by
      have eOr : b = s1.heap.objs.size + 1 ∨ b = s1.heap.objs.size := by simpa using hb
      rcases eOr with z | z
      · rw [z]; exact Nat.le_add_right _ _
      · rw [z]; exact Nat.le_refl _
    rcases q with ⟨hSq, q⟩ | ⟨hSq, q⟩
    · obtain ⟨vals, rVs, pSeq, zLen⟩ := J1.list hSq
      refine call_enumerate_list pSeq.isList fun h' hEn hIt zNew hk => wpAny_pyIter_enum hEn ?_
      have J2 : Inv X pins σ H1 { s1 with heap := h' } := J1.kept (t' := s1.toks) hk
      exact ⟨s1.heap.objs.size + 1, [s1.heap.objs.size + 1, s1.heap.objs.size], _, _, H1, rfl, J2, turn_enum a (s1.heap.objs.size + 1) s1.heap.objs.size, ⟨⟨.none, hEn⟩, hIt, Nat.succ_ne_self _⟩, fun b hb => J1.fpOk (far b hb) (J1.hok.fresh (far b hb)), q⟩
    · obtain ⟨vals, rVs, pSeq, zLen⟩ := J1.tuple hSq
      have hal : a < s1.heap.objs.size := by obtain ⟨o, ho, _⟩ := (show s1.heap.IsTuple a vals.toArray from pSeq); exact Heap.lt_size ho
      refine call_enumerate_tuple (show s1.heap.IsTuple a vals.toArray from pSeq) fun h' hEn hIt zNew hk => wpAny_pyIter_enum hEn ?_
      have J2 : Inv X pins σ H1 { s1 with heap := h' } := J1.kept (t' := s1.toks) hk
      exact ⟨s1.heap.objs.size + 1, [s1.heap.objs.size + 1, s1.heap.objs.size], _, _, H1, rfl, J2, turn_enumT a (s1.heap.objs.size + 1) s1.heap.objs.size, ⟨⟨.none, hEn⟩, hIt, Nat.succ_ne_self _, Nat.ne_of_lt hal, Nat.ne_of_lt (Nat.lt_succ_of_lt hal)⟩, fun b hb => J1.fpOk (far b hb) (J1.hok.fresh (far b hb)), q⟩
end Ef
set_option Elab.async false
set_option linter.all false
set_option maxRecDepth 100000
set_option maxHeartbeats 4000000
namespace Ef
open PySem PySem.Spec PyProof.Rows L2
abbrev sIsInt : Stmt := top 15
abbrev sFrom : Stmt := top 16
abbrev sCheck : Stmt := top 21
abbrev sLper : Stmt := top 3
abbrev sRound : Stmt := top 4
abbrev sPrimes : Stmt := top 5
abbrev sLstart : Stmt := top 22
structure TxtW (mg : Str → Option Value) : Prop extends TxtP mg where
  isinstance : mg "isinstance" = none
  bool : mg "bool" = none
  enumerate : mg "enumerate" = none
  reversed : mg "reversed" = none
  range : mg "range" = none
  tuple : mg "tuple" = none
/-- no int: a value of another built-in kind, or a truth -/
def NotInt (K : PySem.W.Frag) (H : Hp) (v : V) : Prop := ∃ (n : String) (b1 b2 : Bool), TyX K H v (.type n) ∧ kitB n "int" = some b1 ∧ kitB n "bool" = some b2 ∧ (b1 && !b2) = false
section
variable {P : Program} {w : World} {K : PySem.W.Frag} {mg : Str → Option Value} {base : Heap}
def spIsInt (K : PySem.W.Frag) : Sp := fun vs H Q _ => ∃ (v : V) (n : String) (b1 b2 : Bool), vs = [v] ∧ TyX K H v (.type n) ∧ kitB n "int" = some b1 ∧ kitB n "bool" = some b2 ∧ Q (.bl (b1 && !b2)) H
theorem scIsInt : FnScope ["value"] ["value"] (defScope sIsInt) := ⟨rfl, rfl, rfl, by decide +kernel, rfl, by decide +kernel, by decide +kernel⟩
theorem df_isint (A : At K mg "is_int" sIsInt) (T : TxtW mg) : Df P w K mg base 1 "is_int" ["value"] (spIsInt K) := by
  obtain ⟨f, fd, hm, F⟩ := A.ex
  refine ⟨f, fd, hm, F.kp, F.binds (fun _ _ _ _ _ _ us hl => match us, hl with | [_], _ => rfl), F.ok scIsInt (fun vs H Q E h => ?_) (fun cdv A outer s H vs Q E hr h => ?_)⟩
  · obtain ⟨v, n, b1, b2, rfl, _⟩ := h
    rfl
  · obtain ⟨v, n, b1, b2, rfl, ht, h1, h2, q⟩ := h
    refine ⟨_, (pss_one (ps_ret (pe_and (pe_callB call_isi (by rfl) T.isinstance (by decide +kernel) (pa_cons (pv 0) (pa_cons (pe_bltn (v := .ty "int") (by rfl) T.int (by decide +kernel) rfl) pa_nil))) (pe_one (pe_not (pe_callB call_isi (by rfl) T.isinstance (by decide +kernel) (pa_cons (pv 0) (pa_cons (pe_bltn (v := .ty "bool") (by rfl) T.bool (by decide +kernel) rfl) pa_nil)))))))), ?_⟩
    refine ⟨v, rfl, _, _, _, _, _, rfl, .ty "int", ht, kit_ty h1, b1, rfl, ?_⟩
    cases b1 with
    | true =>
      refine iteT ⟨v, rfl, _, _, _, _, _, rfl, .ty "bool", ht, kit_ty h2, b2, rfl, ?_⟩
      exact q
    | false => exact iteF q
def spFrom (K : PySem.W.Frag) : Sp := fun vs H Q _ => ∃ (v : V) (low : Int), vs = [v, .int low] ∧ ((∃ i, v = .int i ∧ Q (.bl (decide (low ≤ i))) H) ∨ (NotInt K H v ∧ Q (.bl false) H))
theorem scFrom : FnScope ["value", "low"] ["value", "low"] (defScope sFrom) := ⟨rfl, rfl, rfl, by decide +kernel, rfl, by decide +kernel, by decide +kernel⟩
theorem df_from (A : At K mg "is_int_from" sFrom) (Disint : Df P w K mg base 1 "is_int" ["value"] (spIsInt K)) : Df P w K mg base 2 "is_int_from" ["value", "low"] (spFrom K) := by
  obtain ⟨f, fd, hm, F⟩ := A.ex
  refine ⟨f, fd, hm, F.kp, F.binds (fun _ _ _ _ _ _ us hl => match us, hl with | [_, _], _ => rfl), F.ok scFrom (fun vs H Q E h => ?_) (fun cdv A outer s H vs Q E hr h => ?_)⟩
  · obtain ⟨v, low, rfl, _⟩ := h
    rfl
  · obtain ⟨v, low, rfl, h⟩ := h
    refine ⟨_, (pss_one (ps_ret (pe_and (Disint.call (hr.mono (by decide)) (pa_cons (pv 0) pa_nil)) (pe_one (pe_cmpR op_ge (pv 0) (pv 1) (nomark _)))))), ?_⟩
    rcases h with ⟨i, rfl, q⟩ | ⟨⟨n, b1, b2, ht, h1, h2, hb⟩, q⟩
    · refine ⟨_, rfl, _, "int", true, false, rfl, .base (.int i), by decide +kernel, by decide +kernel, _, rfl, ?_⟩
      exact iteT ⟨_, rfl, _, rfl, _, _, rfl, rfl, q⟩
    · refine ⟨_, rfl, _, n, b1, b2, rfl, ht, h1, h2, _, rfl, ?_⟩
      rw [hb]
      exact iteF q
/-! ### _check_truths -/
/-- a list or a tuple of truths -/
def Bls (K : PySem.W.Frag) (H : Hp) (a : Addr) (bs : List Bool) : Prop := SqL K H a (bs.map V.bl) ∨ SqT K H a (bs.map V.bl)
theorem Same.tup {H H' : Hp} {a : Addr} {xs : List V} (e : Same H H') (h : SqT K H a xs) : SqT K H' a xs := by
  rcases h with (h | ⟨o, h⟩) | h
  · exact .inl (.inl (e _ _ h))
  · exact .inl (.inr ⟨o, e _ _ h⟩)
  · exact .inr h
theorem Bls.same {H H' : Hp} {a : Addr} {bs : List Bool} (h : Bls K H a bs) (e : Same H H') : Bls K H' a bs := h.elim (fun h => .inl (e.seq h)) fun h => .inr (Same.tup e h)
def spCheck (K : PySem.W.Frag) : Sp := fun vs H Q _ => ∃ (a : Addr) (bs : List Bool), vs = [.ref a] ∧ Bls K H a bs ∧ ∀ H', Same H H' → Q .non H'
theorem scCheck : FnScope ["truths", "wrong", "index", "truth"] ["truths"] (defScope sCheck) := ⟨rfl, rfl, rfl, by decide +kernel, rfl, by decide +kernel, by decide +kernel⟩
theorem walk_enumT {a : Addr} {xs : List V} : Walk (IteT K a) xs.length (fun H => SqT K H a xs) (YPair (fun i => some (.int (i : Nat))) (fun i => xs[i]?)) := by
  refine ⟨fun i _ hi q => ⟨xs, xs[i], q, by simp [hi]⟩, fun _ q => ⟨xs, q, Nat.le_refl _⟩, fun i H v H' _ q y => ?_⟩
  obtain ⟨T, x, h1, h2, h3, h4⟩ := y
  exact ⟨T, .int (i : Nat), x, h1, h2, h3, rfl, h4 xs q⟩
theorem same_mut' {H0 H : Hp} {p : Addr} {o : HO} (h : Same H0 H) (hp : H0 p = none) : Same H0 (upd H p o) := fun b x e => by rw [upd_ne (ne_of_none e hp)]; exact h b x e
theorem df_check (A : At K mg "_check_truths" sCheck) (T : TxtW mg) : Df P w K mg base 1 "_check_truths" ["truths"] (spCheck K) := by
  obtain ⟨f, fd, hm, F⟩ := A.ex
  refine ⟨f, fd, hm, F.kp, F.binds (fun _ _ _ _ _ _ us hl => match us, hl with | [_], _ => rfl), F.ok scCheck (fun vs H Q E h => ?_) (fun cdv A outer s H vs Q E hr h => ?_)⟩
  · obtain ⟨a, bs, rfl, _⟩ := h
    rfl
  · obtain ⟨a, bs, rfl, hB, q⟩ := h
    refine ⟨_, (pss_cons (ps_setLc (i := 1) (own := [("index", 2), ("truth", 3)]) (g := gTup K 2 (gCons (gName 2) (gCons (gName 3) gNil))) (by rfl) scCheck.nd rfl rfl (sw_true rfl rfl rfl (by decide +kernel)) (pi_enumS (by rfl) T.enumerate (pa_cons (pv 0) pa_nil)) (blkOk_by (own := [("index", 2), ("truth", 3)]) (N := ["truths", "wrong", "index", "truth"]) (sc := defScope sCheck) (by decide +kernel)) (fun _ _ _ _ _ => pg_tup (by rfl) (pgs_cons (pg_name (i := 2) scCheck.nd rfl (Or.inl rfl)) (pgs_cons (pg_name (i := 3) scCheck.nd rfl (Or.inl rfl)) pgs_nil))) (fun _ _ _ _ _ => (pts_one (pw_and (pt_cmpR op_notBl (pv 3) pe_bl (nomark _)) (pw_and1 (pt_cmpR op_notBl (pv 3) pe_bl (nomark _)))).pt)) (fun _ _ _ _ _ => (pv 2)))
      (pss_one (ps_if (pt_cmpR op_gt (pe_callB call_len_seq (by rfl) T.len PySem.boot_len (pa_cons (pv 1) pa_nil)) pe_int (nomark _)) (pss_one ps_never) pss_nil))), ?_⟩
    refine ⟨_, rfl, a, bs.map V.bl, rfl, ?_⟩
    have ey0 : ∀ {z : V} {i : Nat}, i < (bs.map V.bl).length → (bs.map V.bl)[i]? = some z → ∃ b, z = .bl b := fun hi e => by
      rw [get_bls (by rw [List.length_map] at hi; exact hi)] at e
      exact ⟨_, (Option.some.inj e).symm⟩
    rcases hB with hB | hB
    · refine .inl ⟨hB, fun D hD => lc_it walk_enum (fun i H' => Same H H' ∧ H' D = some (.lst [])) ⟨same_mut' (Same.refl H) hD, upd_same⟩ (fun i H' _ h => h.1.seq hB) ?_ ?_⟩
      · rintro i x H1 H2 hi ⟨s1, hx⟩ ⟨T, y, z, rfl, nT, rfl, ey, ez⟩
        obtain ⟨b, rfl⟩ := ey0 hi ez
        have sT : Same H (upd H1 T (.tup [y, .bl b])) := s1.trans fun c o e => by rw [upd_ne (ne_of_none e nT)]; exact e
        have hT : (upd H1 T (.tup [y, .bl b])) D = some (.lst []) := by rw [upd_ne (ne_of_none hx nT)]; exact hx
        refine ⟨T, _, rfl, .inl (.inl upd_same), rfl, _, _, rfl, _, _, rfl, rfl, rfl, _, rfl, _, _, rfl, rfl, _, rfl, ?_⟩
        cases b with
        | true => exact ⟨sT, hT⟩
        | false => exact iteT ⟨_, rfl, _, _, rfl, rfl, _, rfl, sT, hT⟩
      · rintro H1 ⟨s1, hx⟩
        exact ⟨_, rfl, D, [], rfl, .inl (.inl (.inl hx)), _, _, rfl, rfl, _, rfl, iteF (q _ s1)⟩
    · refine .inr ⟨hB, fun D hD => lc_it walk_enumT (fun i H' => Same H H' ∧ H' D = some (.lst [])) ⟨same_mut' (Same.refl H) hD, upd_same⟩ (fun i H' _ h => Same.tup h.1 hB) ?_ ?_⟩
      · rintro i x H1 H2 hi ⟨s1, hx⟩ ⟨T, y, z, rfl, nT, rfl, ey, ez⟩
        obtain ⟨b, rfl⟩ := ey0 hi ez
        have sT : Same H (upd H1 T (.tup [y, .bl b])) := s1.trans fun c o e => by rw [upd_ne (ne_of_none e nT)]; exact e
        have hT : (upd H1 T (.tup [y, .bl b])) D = some (.lst []) := by rw [upd_ne (ne_of_none hx nT)]; exact hx
        refine ⟨T, _, rfl, .inl (.inl upd_same), rfl, _, _, rfl, _, _, rfl, rfl, rfl, _, rfl, _, _, rfl, rfl, _, rfl, ?_⟩
        cases b with
        | true => exact ⟨sT, hT⟩
        | false => exact iteT ⟨_, rfl, _, _, rfl, rfl, _, rfl, sT, hT⟩
      · rintro H1 ⟨s1, hx⟩
        exact ⟨_, rfl, D, [], rfl, .inl (.inl (.inl hx)), _, _, rfl, rfl, _, rfl, iteF (q _ s1)⟩
end
end Ef
set_option Elab.async false
namespace Ef
/-! ### whole numbers -/
/-- ps: divisors of n from 2 on, one for each divisor of n from 2 on -/
def PrimesOk (n : Nat) (ps : List Nat) : Prop := (∀ p ∈ ps, 2 ≤ p ∧ p ∣ n) ∧ ∀ q, 2 ≤ q → q ∣ n → ∃ p ∈ ps, p ∣ q
/-- what the search for primes keeps -/
structure Seek (n left prime : Nat) (ps : List Nat) : Prop where
  l0 : 1 ≤ left
  p2 : 2 ≤ prime
  dvd : left ∣ n
  good : ∀ p ∈ ps, 2 ≤ p ∧ p ∣ n
  small : ∀ d, 2 ≤ d → d < prime → ¬ d ∣ left
  rest : ∀ q, 2 ≤ q → q ∣ n → (∃ p ∈ ps, p ∣ q) ∨ q ∣ left
theorem Seek.start {n : Nat} (h : 1 ≤ n) : Seek n n 2 [] :=
  ⟨h, Nat.le_refl 2, Nat.dvd_refl n, fun p hp => (by cases hp), fun d h2 h3 => absurd h2 (by omega), fun q _ hq => .inr hq⟩
/-- prime does not divide left -/
theorem Seek.skip {n left prime : Nat} {ps : List Nat} (h : Seek n left prime ps) (hd : ¬ prime ∣ left) : Seek n left (prime + 1) ps :=
  ⟨h.l0, by have := h.p2; omega, h.dvd, h.good, fun d h2 h3 => by
    rcases Nat.lt_or_ge d prime with z | z
    · exact h.small d h2 z
    · have : d = prime := by omega
      rw [this]; exact hd, h.rest⟩
/-- the inner loop: left' is left without some factors prime -/
structure Strip (left prime left' : Nat) : Prop where
  l0 : 1 ≤ left'
  dvd : left' ∣ left
  rest : ∀ q, ¬ prime ∣ q → q ∣ left → q ∣ left'
theorem Strip.start {left prime : Nat} (h : 1 ≤ left) : Strip left prime left := ⟨h, Nat.dvd_refl _, fun _ _ h => h⟩
/-- prime has no divisor but 1 and itself -/
def Pr (p : Nat) : Prop := 2 ≤ p ∧ ∀ d, d ∣ p → d = 1 ∨ d = p
theorem Seek.prime {n left prime : Nat} {ps : List Nat} (h : Seek n left prime ps) (hd : prime ∣ left) : Pr prime := by
  refine ⟨h.p2, fun d hdp => ?_⟩
  have hp := h.p2
  have h0 : d ≠ 0 := fun z => by
    rw [z] at hdp
    have := Nat.eq_zero_of_zero_dvd hdp
    omega
  have hle := Nat.le_of_dvd (by omega) hdp
  rcases Nat.lt_or_ge d prime with z | z
  · rcases Nat.lt_or_ge d 2 with y | y
    · left; omega
    · exact absurd (Nat.dvd_trans hdp hd) (h.small d y z)
  · right; omega
theorem Pr.coprime {p q : Nat} (h : Pr p) (hq : ¬ p ∣ q) : Nat.Coprime q p := by
  have g := h.2 (Nat.gcd q p) (Nat.gcd_dvd_right q p)
  rcases g with g | g
  · exact g
  · exact absurd (by rw [← g]; exact Nat.gcd_dvd_left q p) hq
theorem Strip.step {left prime left' : Nat} (h : Strip left prime left') (hp : Pr prime) (hd : prime ∣ left') : Strip left prime (left' / prime) := by
  obtain ⟨c, hc⟩ := hd
  have hp0 : 0 < prime := by have := hp.1; omega
  have e : left' / prime = c := by rw [hc]; exact Nat.mul_div_cancel_left c hp0
  rw [e]
  have l0 := h.l0
  refine ⟨?_, ?_, fun q hq hql => ?_⟩
  · rcases Nat.eq_zero_or_pos c with z | z
    · rw [z, Nat.mul_zero] at hc; omega
    · exact z
  · exact Nat.dvd_trans ⟨prime, by rw [hc, Nat.mul_comm]⟩ h.dvd
  · have z := h.rest q hq hql
    rw [hc] at z
    exact Nat.Coprime.dvd_of_dvd_mul_left (hp.coprime hq) z
theorem Seek.take {n left prime left' : Nat} {ps : List Nat} (h : Seek n left prime ps) (hd : prime ∣ left) (s : Strip left prime left') (hn : ¬ prime ∣ left') : Seek n left' (prime + 1) (ps ++ [prime]) := by
  refine ⟨s.l0, by have := h.p2; omega, Nat.dvd_trans s.dvd h.dvd, fun p hp => ?_, fun d h2 h3 hdl => ?_, fun q h2 hq => ?_⟩
  · rcases List.mem_append.mp hp with z | z
    · exact h.good p z
    · rw [List.mem_singleton.mp z]; exact ⟨h.p2, Nat.dvd_trans hd h.dvd⟩
  · rcases Nat.lt_or_ge d prime with z | z
    · exact h.small d h2 z (Nat.dvd_trans hdl s.dvd)
    · have : d = prime := by omega
      rw [this] at hdl; exact hn hdl
  · rcases h.rest q h2 hq with ⟨p, hp, hpq⟩ | z
    · exact .inl ⟨p, List.mem_append_left _ hp, hpq⟩
    · by_cases hpq : prime ∣ q
      · exact .inl ⟨prime, List.mem_append_right _ (List.mem_singleton.mpr rfl), hpq⟩
      · exact .inr (s.rest q hpq z)
/-- the end of the search -/
theorem Seek.fin {n left prime : Nat} {ps : List Nat} (h : Seek n left prime ps) (hb : left < prime * prime) : PrimesOk n (if 1 < left then ps ++ [left] else ps) := by
  by_cases hl : 1 < left
  · rw [if_pos hl]
    refine ⟨fun p hp => ?_, fun q h2 hq => ?_⟩
    · rcases List.mem_append.mp hp with z | z
      · exact h.good p z
      · rw [List.mem_singleton.mp z]; exact ⟨hl, h.dvd⟩
    · rcases h.rest q h2 hq with ⟨p, hp, hpq⟩ | z
      · exact ⟨p, List.mem_append_left _ hp, hpq⟩
      · refine ⟨left, List.mem_append_right _ (List.mem_singleton.mpr rfl), ?_⟩
        obtain ⟨c, hc⟩ := z
        have hqp : prime ≤ q := by
          rcases Nat.lt_or_ge q prime with y | y
          · exact absurd ⟨c, hc⟩ (h.small q h2 y)
          · exact y
        rcases Nat.lt_or_ge c 2 with y | y
        · have hc1 : c = 1 := by
            rcases Nat.eq_zero_or_pos c with x | x
            · rw [x, Nat.mul_zero] at hc; omega
            · omega
          rw [hc, hc1, Nat.mul_one]
          exact Nat.dvd_refl q
        · have hcp : prime ≤ c := by
            rcases Nat.lt_or_ge c prime with x | x
            · exact absurd ⟨q, by rw [hc, Nat.mul_comm]⟩ (h.small c y x)
            · exact x
          have := Nat.mul_le_mul hqp hcp
          omega
  · rw [if_neg hl]
    have e : left = 1 := by have := h.l0; omega
    refine ⟨h.good, fun q h2 hq => ?_⟩
    rcases h.rest q h2 hq with z | z
    · exact z
    · rw [e] at z
      have := Nat.le_of_dvd (by omega) z
      omega
/-! ### periods -/
/-- d is a period of the row f -/
def PerF (f : Nat → Bool) (d : Nat) : Prop := ∀ i, f (i + d) = f i
theorem PerF.zero (f : Nat → Bool) : PerF f 0 := fun _ => rfl
theorem PerF.mul {f : Nat → Bool} {d : Nat} (h : PerF f d) : ∀ k, PerF f (d * k)
  | 0 => fun i => rfl
  | k + 1 => fun i => by
    rw [Nat.mul_succ, ← Nat.add_assoc, h, PerF.mul h k]
theorem PerF.of_dvd {f : Nat → Bool} {d e : Nat} (h : PerF f d) (hd : d ∣ e) : PerF f e := by
  obtain ⟨k, rfl⟩ := hd
  exact h.mul k
theorem PerF.mod {f : Nat → Bool} {a b : Nat} (ha : PerF f a) (hb : PerF f b) : PerF f (a % b) := fun i => by
  have e : i + a = i + a % b + b * (a / b) := by
    have := Nat.mod_add_div a b
    omega
  rw [← (hb.mul (a / b)) (i + a % b), ← e, ha]
theorem PerF.gcd {f : Nat → Bool} : ∀ (a b : Nat), PerF f a → PerF f b → PerF f (Nat.gcd a b) := by
  intro a
  induction a using Nat.strongRecOn with
  | ind a ih =>
    intro b ha hb
    rcases Nat.eq_zero_or_pos a with z | z
    · rw [z, Nat.gcd_zero_left]; exact hb
    · rw [Nat.gcd_rec]
      exact ih (b % a) (Nat.mod_lt b z) a (hb.mod ha) ha
/-- the search has found the least period -/
theorem least_of {f : Nat → Bool} {L m : Nat} {ps : List Nat} (hp : PrimesOk L ps) (hL : 1 ≤ L) (hm : m ∣ L) (hf : PerF f m) (hn : ∀ p ∈ ps, p ∣ m → ¬ PerF f (m / p)) : ∀ d, PerF f d → m ∣ d := by
  intro d hd
  have hm0 : 1 ≤ m := by
    rcases Nat.eq_zero_or_pos m with z | z
    · rw [z] at hm
      have := Nat.eq_zero_of_zero_dvd hm
      omega
    · exact z
  have hg := PerF.gcd m d hf hd
  obtain ⟨q, hq⟩ := Nat.gcd_dvd_left m d
  rcases Nat.lt_or_ge q 2 with z | z
  · have : q = 1 := by
      rcases Nat.eq_zero_or_pos q with y | y
      · rw [y, Nat.mul_zero] at hq; omega
      · omega
    rw [this, Nat.mul_one] at hq
    rw [hq]
    exact Nat.gcd_dvd_right m d
  · have hqm : q ∣ m := ⟨Nat.gcd m d, by rw [Nat.mul_comm]; exact hq⟩
    obtain ⟨p, hpm, hpq⟩ := hp.2 q z (Nat.dvd_trans hqm hm)
    obtain ⟨c, hc⟩ := hpq
    have hp2 := (hp.1 p hpm).1
    refine absurd ?_ (hn p hpm (Nat.dvd_trans ⟨c, hc⟩ hqm))
    have e : m / p = Nat.gcd m d * c := by
      have z2 : m = p * (Nat.gcd m d * c) := by
        conv => lhs; rw [hq, hc]
        rw [Nat.mul_left_comm]
      conv => lhs; rw [z2]
      exact Nat.mul_div_cancel_left _ (by omega)
    rw [e]
    exact hg.mul c
theorem PerF.keep {f : Nat → Bool} {m m' p : Nat} (hp : 1 ≤ p) (hd : m' ∣ m) (hpm : p ∣ m') (h : PerF f (m' / p)) : PerF f (m / p) := by
  obtain ⟨k, rfl⟩ := hd
  obtain ⟨c, rfl⟩ := hpm
  rw [Nat.mul_div_cancel_left c (by omega)] at h
  rw [Nat.mul_assoc, Nat.mul_div_cancel_left _ (by omega)]
  exact h.mul k
/-- the row of truths led on for ever -/
def led (rs : List Bool) (i : Nat) : Bool := rs.getD (i % rs.length) false
theorem led_lt {rs : List Bool} {i : Nat} (h : i < rs.length) : rs[i]? = some (led rs i) := by
  unfold led
  rw [Nat.mod_eq_of_lt h, List.getD_eq_getElem?_getD, List.getElem?_eq_getElem h]
  rfl
theorem led_self (rs : List Bool) : PerF (led rs) rs.length := fun i => by
  unfold led
  rw [Nat.add_mod_right]
/-- what _comes_round asks -/
def Round (rs : List Bool) (d : Nat) : Bool := decide (rs.drop d = rs.take (rs.length - d))
theorem Round.get {rs : List Bool} {d : Nat} (h : Round rs d = true) {i : Nat} (hi : i + d < rs.length) : rs[i + d]? = rs[i]? := by
  have e := of_decide_eq_true h
  have e2 := congrArg (fun l : List Bool => l[i]?) e
  simp only [List.getElem?_drop, List.getElem?_take] at e2
  rw [if_pos (by omega), Nat.add_comm d i] at e2
  exact e2
theorem Round.get' {rs : List Bool} {d : Nat} (h : Round rs d = true) (y : Nat) : ∀ k, y + d * k < rs.length → rs[y + d * k]? = rs[y]?
  | 0, _ => rfl
  | k + 1, hk => by
    have e : y + d * (k + 1) = (y + d * k) + d := by rw [Nat.mul_succ]; omega
    rw [e] at hk ⊢
    rw [Round.get h hk]
    exact Round.get' h y k (by omega)
theorem round_per {rs : List Bool} {d : Nat} (hL : 1 ≤ rs.length) (hd : d ∣ rs.length) : Round rs d = true ↔ PerF (led rs) d := by
  have hd1 : 1 ≤ d := by
    rcases Nat.eq_zero_or_pos d with z | z
    · rw [z] at hd
      have := Nat.eq_zero_of_zero_dvd hd
      omega
    · exact z
  have hdl := Nat.le_of_dvd (by omega) hd
  constructor
  · intro h i
    unfold led
    have hx := Nat.mod_lt i (show 0 < rs.length by omega)
    have e0 : (i + d) % rs.length = (i % rs.length + d) % rs.length := by rw [Nat.mod_add_mod]
    rw [e0]
    generalize i % rs.length = x at hx
    rcases Nat.lt_or_ge (x + d) rs.length with z | z
    · rw [Nat.mod_eq_of_lt z, List.getD_eq_getElem?_getD, List.getD_eq_getElem?_getD, Round.get h z]
    · obtain ⟨c, hc⟩ := hd
      have hc1 : 1 ≤ c := by
        rcases Nat.eq_zero_or_pos c with y | y
        · rw [y, Nat.mul_zero] at hc; omega
        · exact y
      have e1 : (x + d) % rs.length = x + d - rs.length := by
        rw [Nat.mod_eq_sub_mod z, Nat.mod_eq_of_lt (by omega)]
      have e2 : x = (x + d - rs.length) + d * (c - 1) := by
        rw [Nat.mul_sub, Nat.mul_one, ← hc]; omega
      rw [e1, List.getD_eq_getElem?_getD, List.getD_eq_getElem?_getD]
      conv => rhs; rw [e2]
      rw [Round.get' h _ (c - 1) (by omega)]
  · intro h
    refine decide_eq_true (List.ext_getElem? fun i => ?_)
    rw [List.getElem?_drop, List.getElem?_take]
    rcases Nat.lt_or_ge i (rs.length - d) with z | z
    · rw [if_pos z, led_lt (show d + i < rs.length by omega), led_lt (show i < rs.length by omega), Nat.add_comm d i, h]
    · rw [if_neg (by omega), List.getElem?_eq_none (by omega)]
/-! ### the start -/
/-- s is the least start: from s on the truths below go by the rests, at s - 1 they do not -/
def StartOk (bs rs : List Bool) (s : Nat) : Prop := s ≤ bs.length ∧ (∀ n, s ≤ n → n < bs.length → bs.getD n false = led rs n) ∧ (s = 0 ∨ bs.getD (s - 1) false ≠ led rs (s - 1))
end Ef
set_option Elab.async false
set_option linter.all false
set_option maxRecDepth 100000
set_option maxHeartbeats 4000000
namespace Ef
open PySem PySem.Spec PyProof.Rows L2
/-- a tuple (t) or a list of truths -/
def BlsT (t : Bool) (K : PySem.W.Frag) (H : Hp) (a : Addr) (bs : List Bool) : Prop := if t = true then SqT K H a (bs.map V.bl) else SqL K H a (bs.map V.bl)
theorem Bls.t {K : PySem.W.Frag} {H : Hp} {a : Addr} {bs : List Bool} (h : Bls K H a bs) : ∃ t, BlsT t K H a bs := by
  rcases h with h | h
  · exact ⟨false, h⟩
  · exact ⟨true, h⟩
theorem BlsT.bls {t : Bool} {K : PySem.W.Frag} {H : Hp} {a : Addr} {bs : List Bool} (h : BlsT t K H a bs) : Bls K H a bs := by
  cases t with
  | false => exact .inl h
  | true => exact .inr h
theorem BlsT.same {t : Bool} {K : PySem.W.Frag} {H H' : Hp} {a : Addr} {bs : List Bool} (h : BlsT t K H a bs) (e : Same H H') : BlsT t K H' a bs := by
  cases t with
  | false => exact Same.seq (H := H) e h
  | true => exact Same.tup (H := H) e h
theorem same_new {H : Hp} {p : Addr} {o : HO} (h : H p = none) : Same H (upd H p o) := fun b x e => by rw [upd_ne (ne_of_none e h)]; exact e
theorem map_bl_inj {as bs : List Bool} (h : as.map V.bl = bs.map V.bl) : as = bs := by
  induction as generalizing bs with
  | nil => cases bs with
    | nil => rfl
    | cons b bs => cases h
  | cons a as ih => cases bs with
    | nil => cases h
    | cons b bs =>
      injection h with h1 h2
      injection h1 with h1
      rw [h1, ih h2]
theorem sl_bls {t : Bool} {K : PySem.W.Frag} {H : Hp} {a : Addr} {bs bs' : List Bool} {lo hi : Option Int} {Q : VK} (h : BlsT t K H a bs) (e : cutV (bs.map V.bl) lo hi = bs'.map V.bl) (q : ∀ p H', Same H H' → BlsT t K H' p bs' → Q (.ref p) H') :
    rSlL K (.ref a) lo hi H Q ∨ rSlA K (.ref a) lo hi H Q := by
  cases t with
  | false =>
    refine .inl ⟨a, _, rfl, h, fun p hp => ?_⟩
    rw [e]
    exact q p _ (same_new hp) (.inl (.inl upd_same))
  | true =>
    refine .inr ⟨a, _, rfl, h, fun hw => ?_, fun hw p hp => ?_⟩
    · refine q a H (Same.refl H) ?_
      have e2 : bs = bs' := by
        refine map_bl_inj (Eq.trans ?_ e)
        unfold cutV
        rw [hw.1, hw.2, List.drop_zero, Nat.sub_zero, List.take_length]
      rw [← e2]
      exact h
    · rw [e]
      exact q p _ (same_new hp) (.inl (.inl upd_same))
theorem eq_blsT {t : Bool} {K : PySem.W.Frag} {H : Hp} {a b : Addr} {as bs : List Bool} {Q : VK} (h1 : BlsT t K H a as) (h2 : BlsT t K H b bs) (q : Q (.bl (decide (as = bs))) H) : rEqD K (.ref a) (.ref b) H Q := by
  cases t with
  | false =>
    refine ⟨_, _, .lst h1 (dp_bls as), .lst h2 (dp_bls bs), (sh_list (can_bls as).1 (can_bls as).2).1, (sh_list (can_bls bs).1 (can_bls bs).2).1, ?_⟩
    show Q (.bl (PyData.eqvAll (as.map PyData.bool) (bs.map PyData.bool))) H
    rw [eqv_bls]
    exact q
  | true =>
    refine ⟨_, _, .tup h1 (dp_bls as), .tup h2 (dp_bls bs), (sh_list (can_bls as).1 (can_bls as).2).2, (sh_list (can_bls bs).1 (can_bls bs).2).2, ?_⟩
    show Q (.bl (PyData.eqvAll (as.map PyData.bool) (bs.map PyData.bool))) H
    rw [eqv_bls]
    exact q
theorem len_bls {K : PySem.W.Frag} {H : Hp} {a : Addr} {bs : List Bool} (h : Bls K H a bs) : SqL K H a (bs.map V.bl) ∨ SqT K H a (bs.map V.bl) := h
theorem ix_bls {K : PySem.W.Frag} {H : Hp} {a : Addr} {bs : List Bool} {i : Int} {Q : VK} (h : Bls K H a bs) (h0 : 0 ≤ i) (h1 : i < bs.length) (q : Q (.bl (bs.getD i.toNat false)) H) : rIx K (.ref a) (.int i) H Q := by
  have ha : atI (bs.map V.bl) i = some (.bl (bs.getD i.toNat false)) := at_of (Int.toNat_of_nonneg h0).symm (get_bls (by omega))
  rcases h with h | h
  · exact .inl ⟨a, _, _, _, rfl, rfl, h, ha, q⟩
  · exact .inr (.inl ⟨a, _, _, _, rfl, rfl, h, ha, q⟩)
theorem cut_lo (bs : List Bool) (k : Nat) (hk : k ≤ bs.length) : cutV (bs.map V.bl) (some (k : Int)) none = (bs.drop k).map V.bl := by
  unfold cutV
  rw [HT.sIx_none, HT.sIx_nat, List.length_map, Nat.min_eq_left hk, ← List.map_drop, ← List.map_take, List.take_of_length_le (by rw [List.length_drop]; omega)]
theorem cut_hi (bs : List Bool) (k : Nat) (hk : k ≤ bs.length) : cutV (bs.map V.bl) none (some (k : Int)) = (bs.take k).map V.bl := by
  unfold cutV
  rw [HT.sIx_none, HT.sIx_nat, List.length_map, Nat.min_eq_left hk, List.drop_zero, Nat.sub_zero, List.map_take]
section
variable {P : Program} {w : World} {K : PySem.W.Frag} {mg : Str → Option Value} {base : Heap}
/-! ### _comes_round -/
def spRound (K : PySem.W.Frag) : Sp := fun vs H Q _ => ∃ (a : Addr) (bs : List Bool) (k : Nat), vs = [.ref a, .int k] ∧ Bls K H a bs ∧ k ≤ bs.length ∧ ∀ H', Same H H' → Q (.bl (Round bs k)) H'
theorem scRound : FnScope ["row", "step"] ["row", "step"] (defScope sRound) := ⟨rfl, rfl, rfl, by decide +kernel, rfl, by decide +kernel, by decide +kernel⟩
theorem df_round (A : At K mg "_comes_round" sRound) (T : TxtW mg) : Df P w K mg base 1 "_comes_round" ["row", "step"] (spRound K) := by
  obtain ⟨f, fd, hm, F⟩ := A.ex
  refine ⟨f, fd, hm, F.kp, F.binds (fun _ _ _ _ _ _ us hl => match us, hl with | [_, _], _ => rfl), F.ok scRound (fun vs H Q E h => ?_) (fun cdv A outer s H vs Q E hr h => ?_)⟩
  · obtain ⟨a, bs, k, rfl, _⟩ := h
    rfl
  · obtain ⟨a, bs, k, rfl, hB, hk, q⟩ := h
    obtain ⟨t, hT⟩ := hB.t
    refine ⟨_, (pss_one (ps_ret (pe_cmpR (op_eqD hr.units) (pe_slice (sl_list.or sl_tupA) (pv 0) (po_some (pv 1)) po_none) (pe_slice (sl_list.or sl_tupA) (pv 0) po_none (po_some (pe_op op_sub (pe_callB call_len_seq (by rfl) T.len PySem.boot_len (pa_cons (pv 0) pa_nil)) (pv 1)))) (nomark _)))), ?_⟩
    refine ⟨_, rfl, _, rfl, _, rfl, sl_bls hT (cut_lo bs k hk) fun p H1 s1 h1 => ?_⟩
    refine ⟨_, rfl, _, rfl, a, _, rfl, len_bls (hT.same s1).bls, _, rfl, _, _, rfl, rfl, _, rfl, sl_bls (hT.same s1) (bs' := bs.take (bs.length - k)) ?_ fun p2 H2 s2 h2 => ?_⟩
    · have e : ((bs.map V.bl).length : Int) - (k : Int) = ((bs.length - k : Nat) : Int) := by rw [List.length_map]; omega
      show cutV (bs.map V.bl) none (some (((bs.map V.bl).length : Int) - (k : Int))) = _
      rw [e]
      exact cut_hi bs _ (by omega)
    · exact eq_blsT (h1.same s2) h2 (q _ (s1.trans s2))
/-! ### _primes_of -/
def spPrimes : Sp := fun vs H Q _ => ∃ (n : Nat), vs = [.int n] ∧ 1 ≤ n ∧ n ≤ 1000000 ∧ ∀ (r : Addr) (ps : List Nat) (H' : Hp), H r = none → H' r = some (.lst (ps.map fun p : Nat => V.int (p : Int))) → PrimesOk n ps → Same H H' → Q (.ref r) H'
theorem scPrimes : FnScope ["number", "primes", "left", "prime"] ["number"] (defScope sPrimes) := ⟨rfl, rfl, rfl, by decide +kernel, rfl, by decide +kernel, by decide +kernel⟩
theorem df_primes (A : At K mg "primes_of" sPrimes) : Df P w K mg base 1 "primes_of" ["number"] spPrimes := by
  obtain ⟨f, fd, hm, F⟩ := A.ex
  refine ⟨f, fd, hm, F.kp, F.binds (fun _ _ _ _ _ _ us hl => match us, hl with | [_], _ => rfl), F.ok scPrimes (fun vs H Q E h => ?_) (fun cdv A outer s H vs Q E hr h => ?_)⟩
  · obtain ⟨n, rfl, _⟩ := h
    rfl
  · obtain ⟨n, rfl, n1, n2, q⟩ := h
    refine ⟨_, (pss_cons (ps_set (i := 1) scPrimes.nd rfl (.inl rfl) (pe_lst pa_nil))
      (pss_cons (ps_set (i := 2) scPrimes.nd rfl (.inl rfl) (pv 0))
      (pss_cons (ps_set (i := 3) scPrimes.nd rfl (.inl rfl) pe_int)
      (pss_cons (ps_while PassesOwn.never (pt_cmpR op_le (pe_op op_mul (pv 3) (pv 3)) (pv 2) (nomark _))
      (pss_cons (ps_if (pt_cmpR op_eq (pe_op op_mod (pv 2) (pv 3)) pe_int (nomark _)) (pss_one (ps_expr (pe_bm PySem.F.plainAttrs_list PySem.F.slot_list_append PySem.F.type_list_append mt_append (pv 1) (pa_cons (pv 3) pa_nil)))) pss_nil)
      (pss_cons (ps_while PassesOwn.never (pt_cmpR op_eq (pe_op op_mod (pv 2) (pv 3)) pe_int (nomark _))
      (pss_one (ps_set (i := 2) scPrimes.nd rfl (.inl rfl) (pe_op op_fdiv (pv 2) (pv 3)))))
      (pss_one (ps_set (i := 3) scPrimes.nd rfl (.inl rfl) (pe_op op_add (pv 3) pe_int))))))
      (pss_cons (ps_if (pt_cmpR op_gt (pv 2) pe_int (nomark _)) (pss_one (ps_expr (pe_bm PySem.F.plainAttrs_list PySem.F.slot_list_append PySem.F.type_list_append mt_append (pv 1) (pa_cons (pv 2) pa_nil)))) pss_nil)
      (pss_one (ps_ret (pv 1)))))))), ?_⟩
    refine ⟨Nat.zero_le _, fun r hr0 => ?_⟩
    refine ⟨_, rfl, ?_⟩
    refine ⟨fun m σ H' => ∃ (ps : List Nat) (left prime : Nat), σ = [some (.int n), some (.ref r), some (.int left), some (.int prime)] ∧ m = n + 2 - prime ∧ prime ≤ n + 1 ∧ ps.length < prime ∧ Seek n left prime ps ∧ H' r = some (.lst (ps.map fun p : Nat => V.int (p : Int))) ∧ Same H H',
      ⟨_, [], n, 2, rfl, rfl, by omega, by decide, Seek.start n1, upd_same, same_new hr0⟩, fun m σ H' hW => ?_⟩
    obtain ⟨ps, left, prime, rfl, em, hpn, hpl, hS, hL, sm⟩ := hW
    have hln : left ≤ n := Nat.le_of_dvd (by omega) hS.dvd
    refine ⟨_, rfl, _, rfl, _, _, rfl, rfl, .inl ⟨by omega, by omega⟩, _, rfl, _, _, rfl, rfl, _, rfl, ?_⟩
    have hp2 := hS.p2
    have hpos : (0 : Int) < (prime : Int) := by omega
    have hmod : ∀ x : Nat, decide (V.int ((x : Int) % (prime : Int)) = V.int 0) = decide (prime ∣ x) := fun x => by
      by_cases hx : prime ∣ x
      · rw [decide_eq_true hx]
        obtain ⟨c, rfl⟩ := hx
        refine decide_eq_true ?_
        rw [Int.natCast_mul, Int.mul_emod_right]
      · rw [decide_eq_false hx]
        refine decide_eq_false fun z => hx ?_
        injection z with z
        exact Int.natCast_dvd_natCast.mp (Int.dvd_of_emod_eq_zero z)
    have hlt : ∀ ps' : List Nat, ps'.length ≤ n + 2 → (ps'.map fun p : Nat => V.int (p : Int)).length < sizeLine := fun ps' hz => by
      rw [List.length_map]
      exact Nat.lt_of_le_of_lt (show ps'.length ≤ 1000010 by omega) (by decide)
    by_cases hc : prime * prime ≤ left
    · have hcI : (prime : Int) * (prime : Int) ≤ (left : Int) := by
        have := Int.ofNat_le.mpr hc
        rw [Int.natCast_mul] at this
        exact this
      have hpn' : prime ≤ n := by
        have := Nat.mul_le_mul_right prime hp2
        omega
      have hN : ∀ (ps' : List Nat) (left' : Nat) (H' : Hp), Seek n left' (prime + 1) ps' → ps'.length < prime + 1 → H' r = some (.lst (ps'.map fun p : Nat => V.int (p : Int))) → Same H H' →
          ∃ v, [some (V.int n), some (V.ref r), some (V.int left'), some (V.int prime)][3]? = some (some v) ∧ ∃ i j, v = V.int i ∧ V.int 1 = V.int j ∧
            (fun (σ' : L2.St) (H' : Hp) => ∃ (ps : List Nat) (left : Nat), σ' = [some (.int n), some (.ref r), some (.int left), some (.int ((prime : Int) + 1))] ∧ ps.length < prime + 1 ∧ Seek n left (prime + 1) ps ∧ H' r = some (.lst (ps.map fun p : Nat => V.int (p : Int))) ∧ Same H H')
              [some (V.int n), some (V.ref r), some (V.int left'), some (V.int (i + j))] H' :=
        fun ps' left' H' h1 h2 h3 h4 => ⟨_, rfl, _, _, rfl, rfl, ps', left', rfl, h2, h1, h3, h4⟩
      refine (show ite _ _ _ from ?_)
      rw [decide_eq_true hcI, if_pos rfl]
      refine ⟨fun σ' H' => ∃ (ps : List Nat) (left : Nat), σ' = [some (.int n), some (.ref r), some (.int left), some (.int ((prime : Int) + 1))] ∧ ps.length < prime + 1 ∧ Seek n left (prime + 1) ps ∧ H' r = some (.lst (ps.map fun p : Nat => V.int (p : Int))) ∧ Same H H', fun σ' H' hz => ?_, ?_⟩
      · obtain ⟨ps', left', e, h1, h2, h3, h4⟩ := hz
        exact ⟨n + 2 - (prime + 1), by omega, ps', left', prime + 1, e, rfl, by omega, h1, h2, h3, h4⟩
      · refine ⟨_, rfl, _, rfl, _, _, rfl, rfl, hpos, rfl, _, rfl, ?_⟩
        rw [hmod left]
        by_cases hd : prime ∣ left
        · rw [decide_eq_true hd]
          refine iteT ?_
          refine ⟨_, rfl, .inl ⟨rfl, _, .inl (.inl hL)⟩, _, rfl, r, _, _, rfl, rfl, hL, hlt _ (by omega), ?_⟩
          have hL2 : (upd H' r (.lst ((ps.map fun p : Nat => V.int (p : Int)) ++ [V.int prime]))) r = some (.lst ((ps ++ [prime]).map fun p : Nat => V.int (p : Int))) := by rw [upd_same, List.map_append]; rfl
          have sm2 : Same H (upd H' r (.lst ((ps.map fun p : Nat => V.int (p : Int)) ++ [V.int prime]))) := fun b o e => by rw [upd_ne (ne_of_none e hr0)]; exact sm b o e
          generalize upd H' r (.lst ((ps.map fun p : Nat => V.int (p : Int)) ++ [V.int prime])) = H2 at hL2 sm2 ⊢
          refine ⟨fun m σ H3 => ∃ left' : Nat, σ = [some (.int n), some (.ref r), some (.int left'), some (.int prime)] ∧ m = left' ∧ Strip left prime left' ∧ H3 = H2, ⟨left, left, rfl, rfl, Strip.start hS.l0, rfl⟩, fun m σ H3 hW => ?_⟩
          obtain ⟨left', rfl, rfl, hT, rfl⟩ := hW
          refine ⟨_, rfl, _, rfl, _, _, rfl, rfl, hpos, rfl, _, rfl, ?_⟩
          rw [hmod m]
          by_cases hd' : prime ∣ m
          · refine (show ite _ _ _ from ?_)
            rw [decide_eq_true hd', if_pos rfl]
            refine ⟨fun σ' H' => σ' = [some (.int n), some (.ref r), some (.int ((m / prime : Nat) : Int)), some (.int prime)] ∧ H' = H3, fun σ' H' hz => ?_, ?_⟩
            · obtain ⟨rfl, rfl⟩ := hz
              exact ⟨m / prime, Nat.div_lt_self hT.l0 hp2, _, rfl, rfl, hT.step (hS.prime hd) hd', rfl⟩
            · refine ⟨_, rfl, _, rfl, _, _, rfl, rfl, ⟨hpos, by omega⟩, rfl, rfl⟩
          · refine (show ite _ _ _ from ?_)
            rw [decide_eq_false hd', if_neg Bool.false_ne_true]
            exact hN _ m H3 (hS.take hd hT hd') (by rw [List.length_append, List.length_singleton]; omega) hL2 sm2
        · rw [decide_eq_false hd]
          refine iteF ?_
          refine ⟨fun m σ H3 => σ = [some (.int n), some (.ref r), some (.int left), some (.int prime)] ∧ H3 = H', ⟨0, rfl, rfl⟩, fun m σ H3 hW => ?_⟩
          obtain ⟨rfl, rfl⟩ := hW
          refine ⟨_, rfl, _, rfl, _, _, rfl, rfl, hpos, rfl, _, rfl, ?_⟩
          rw [hmod left]
          refine (show ite _ _ _ from ?_)
          rw [decide_eq_false hd, if_neg Bool.false_ne_true]
          exact hN ps left H3 (hS.skip hd) (by omega) hL sm
    · have hcI : ¬ (prime : Int) * (prime : Int) ≤ (left : Int) := fun z => by
        rw [← Int.natCast_mul] at z
        exact hc (Int.ofNat_le.mp z)
      refine (show ite _ _ _ from ?_)
      rw [decide_eq_false hcI, if_neg Bool.false_ne_true]
      have fin := hS.fin (by omega)
      refine ⟨_, rfl, _, _, rfl, rfl, _, rfl, ?_⟩
      by_cases h1 : 1 < left
      · rw [if_pos h1] at fin
        rw [decide_eq_true (show (1 : Int) < (left : Int) by omega), if_pos rfl]
        refine ⟨_, rfl, .inl ⟨rfl, _, .inl (.inl hL)⟩, _, rfl, r, _, _, rfl, rfl, hL, hlt _ (by omega), ?_⟩
        exact ⟨_, rfl, q r _ _ hr0 (by rw [upd_same, List.map_append]; rfl) fin (fun b o e => by rw [upd_ne (ne_of_none e hr0)]; exact sm b o e)⟩
      · rw [if_neg h1] at fin
        rw [decide_eq_false (show ¬ (1 : Int) < (left : Int) by omega), if_neg Bool.false_ne_true]
        exact ⟨_, rfl, q r _ _ hr0 hL fin sm⟩
end
end Ef
set_option Elab.async false
set_option linter.all false
/-! a list told by its first round again and again -/
namespace Ef
theorem rep_get {α : Type} (xs : List α) (hx : 0 < xs.length) : ∀ (k i : Nat), i < xs.length * k → (List.replicate k xs).flatten[i]? = xs[i % xs.length]?
  | 0, i, h => absurd h (by rw [Nat.mul_zero]; exact Nat.not_lt_zero i)
  | k + 1, i, h => by
    rw [List.replicate_succ, List.flatten_cons]
    rcases Nat.lt_or_ge i xs.length with z | z
    · rw [List.getElem?_append_left z, Nat.mod_eq_of_lt z]
    · rw [List.getElem?_append_right z, rep_get xs hx k (i - xs.length) (by rw [Nat.mul_succ] at h; omega), Nat.mod_eq_sub_mod z]
theorem rep_len {α : Type} (xs : List α) (k : Nat) : (List.replicate k xs).flatten.length = xs.length * k := by
  induction k with
  | zero => rfl
  | succ k ih => rw [List.replicate_succ, List.flatten_cons, List.length_append, ih, Nat.mul_succ, Nat.add_comm]
/-- by d again and again, exactly if it comes round by d -/
theorem rep_per {rs : List Bool} {d : Nat} (hL : 1 ≤ rs.length) (h1 : 1 ≤ d) (hd : d ∣ rs.length) : rs = (List.replicate (rs.length / d) (rs.take d)).flatten ↔ PerF (led rs) d := by
  have hle := Nat.le_of_dvd hL hd
  have hlen : (rs.take d).length = d := by rw [List.length_take]; omega
  have hm : d * (rs.length / d) = rs.length := Nat.mul_div_cancel' hd
  have get : ∀ i, i < rs.length → (List.replicate (rs.length / d) (rs.take d)).flatten[i]? = some (led rs (i % d)) := fun i hi => by
    have hid := Nat.mod_lt i (show 0 < d by omega)
    rw [rep_get (rs.take d) (by omega) _ i (by rw [hlen, hm]; exact hi), hlen, List.getElem?_take, if_pos hid]
    exact led_lt (by omega)
  constructor
  · intro h
    have key : ∀ i, i < rs.length → led rs i = led rs (i % d) := fun i hi => by
      have a := led_lt hi
      have b := get i hi
      rw [← h] at b
      rw [a] at b
      injection b
    intro i
    have e1 : led rs (i + d) = led rs ((i + d) % rs.length) := by unfold led; rw [Nat.mod_mod]
    have e2 : led rs i = led rs (i % rs.length) := by unfold led; rw [Nat.mod_mod]
    rw [e1, e2, key _ (Nat.mod_lt _ (by omega)), key _ (Nat.mod_lt _ (by omega)), Nat.mod_mod_of_dvd _ hd, Nat.mod_mod_of_dvd _ hd, Nat.add_mod_right]
  · intro h
    refine List.ext_getElem? fun i => ?_
    rcases Nat.lt_or_ge i rs.length with z | z
    · rw [get i z, led_lt z]
      have e : i = i % d + d * (i / d) := (Nat.mod_add_div i d).symm
      conv => lhs; rw [e, h.mul (i / d)]
    · rw [List.getElem?_eq_none z, List.getElem?_eq_none (by rw [rep_len, hlen, hm]; exact z)]
end Ef
set_option Elab.async false
set_option linter.all false
/-! the least start, found by halving -/
namespace Ef
/-- from n on the truths below are those of the rounds -/
def Agree (bs rs : List Bool) (n : Nat) : Prop := ∀ k, n ≤ k → k < bs.length → bs.getD k false = led rs k
theorem start_ex (bs rs : List Bool) : ∀ n, n ≤ bs.length → Agree bs rs n → ∃ s, s ≤ n ∧ StartOk bs rs s
  | 0, h, a => ⟨0, Nat.le_refl _, h, a, .inl rfl⟩
  | n + 1, h, a => by
    by_cases e : bs.getD n false = led rs n
    · obtain ⟨s, h1, h2⟩ := start_ex bs rs n (by omega) fun k hk hl => by
        rcases Nat.lt_or_ge n k with z | z
        · exact a k z hl
        · rw [show k = n by omega]; exact e
      exact ⟨s, by omega, h2⟩
    · exact ⟨n + 1, Nat.le_refl _, h, a, .inr (by rw [Nat.add_sub_cancel]; exact e)⟩
theorem start_agree {bs rs : List Bool} {s n : Nat} (h : StartOk bs rs s) (hn : n ≤ bs.length) : Agree bs rs n ↔ s ≤ n := by
  constructor
  · intro a
    rcases Nat.lt_or_ge n s with z | z
    · rcases h.2.2 with e | e
      · omega
      · exact absurd (a (s - 1) (by omega) (by have := h.1; omega)) e
    · exact z
  · exact fun z k hk hl => h.2.1 k (by omega) hl
theorem rep_take {rs : List Bool} {n : Nat} (hr : 1 ≤ rs.length) : (List.replicate (n / rs.length + 1) rs).flatten.take n = (List.range n).map (led rs) := by
  refine List.ext_getElem? fun i => ?_
  rw [List.getElem?_take, List.getElem?_map]
  rcases Nat.lt_or_ge i n with z | z
  · have h1 : n < rs.length * (n / rs.length + 1) := by
      have := Nat.div_add_mod n rs.length
      have := Nat.mod_lt n (show 0 < rs.length by omega)
      rw [Nat.mul_succ]
      omega
    rw [if_pos z, rep_get rs (by omega) _ i (by omega), List.getElem?_range z, led_lt (Nat.mod_lt _ (by omega))]
    show some _ = some (led rs i)
    unfold led
    rw [Nat.mod_mod]
  · rw [if_neg (by omega), List.getElem?_eq_none (by rw [List.length_range]; exact z)]
    rfl
theorem drop_agree {bs rs : List Bool} {n : Nat} : bs.drop n = ((List.range bs.length).map (led rs)).drop n ↔ Agree bs rs n := by
  have g : ∀ k, k < bs.length → bs[k]? = some (bs.getD k false) := fun k hk => by
    rw [List.getD_eq_getElem?_getD, List.getElem?_eq_getElem hk]; rfl
  have g2 : ∀ k, k < bs.length → ((List.range bs.length).map (led rs))[k]? = some (led rs k) := fun k hk => by
    rw [List.getElem?_map, List.getElem?_range hk]; rfl
  constructor
  · intro h k hk hl
    have e := congrArg (fun l : List Bool => l[k - n]?) h
    simp only [List.getElem?_drop] at e
    rw [show n + (k - n) = k by omega, g k hl, g2 k hl] at e
    exact Option.some.inj e
  · intro a
    refine List.ext_getElem? fun i => ?_
    rw [List.getElem?_drop, List.getElem?_drop]
    rcases Nat.lt_or_ge (n + i) bs.length with z | z
    · rw [g _ z, g2 _ z, a _ (by omega) z]
    · rw [List.getElem?_eq_none z, List.getElem?_eq_none (by rw [List.length_map, List.length_range]; exact z)]
end Ef
set_option Elab.async false
set_option linter.all false
set_option maxRecDepth 100000
set_option maxHeartbeats 4000000
namespace Ef
open PySem PySem.Spec PyProof.Rows L2
theorem hmod_nat {prime x : Nat} (hpos : 0 < prime) : decide (V.int ((x : Int) % (prime : Int)) = V.int 0) = decide (prime ∣ x) := by
  by_cases hx : prime ∣ x
  · rw [decide_eq_true hx]
    obtain ⟨c, rfl⟩ := hx
    refine decide_eq_true ?_
    rw [Int.natCast_mul, Int.mul_emod_right]
  · rw [decide_eq_false hx]
    refine decide_eq_false fun z => hx ?_
    injection z with z
    exact Int.natCast_dvd_natCast.mp (Int.dvd_of_emod_eq_zero z)
section
variable {P : Program} {w : World} {K : PySem.W.Frag} {mg : Str → Option Value} {base : Heap}
/-! ### _least_period -/
def spLper (K : PySem.W.Frag) : Sp := fun vs H Q _ => ∃ (a : Addr) (bs : List Bool), vs = [.ref a] ∧ Bls K H a bs ∧ 1 ≤ bs.length ∧ bs.length ≤ 1000000 ∧
  ∀ (m : Nat) (H' : Hp), 1 ≤ m → m ∣ bs.length → PerF (led bs) m → (∀ d, PerF (led bs) d → m ∣ d) → Same H H' → Q (.int m) H'
theorem scLper : FnScope ["row", "period", "prime"] ["row"] (defScope sLper) := ⟨rfl, rfl, rfl, by decide +kernel, rfl, by decide +kernel, by decide +kernel⟩
theorem df_lper (A : At K mg "least_period" sLper) (T : TxtW mg) (Dprimes : Df P w K mg base 1 "primes_of" ["number"] spPrimes) (Dround : Df P w K mg base 1 "_comes_round" ["row", "step"] (spRound K)) : Df P w K mg base 2 "least_period" ["row"] (spLper K) := by
  obtain ⟨f, fd, hm, F⟩ := A.ex
  refine ⟨f, fd, hm, F.kp, F.binds (fun _ _ _ _ _ _ us hl => match us, hl with | [_], _ => rfl), F.ok scLper (fun vs H Q E h => ?_) (fun cdv A outer s H vs Q E hr h => ?_)⟩
  · obtain ⟨a, bs, rfl, _⟩ := h
    rfl
  · obtain ⟨a, bs, rfl, hB, hL1, hL2, q⟩ := h
    refine ⟨_, (pss_cons (ps_set (i := 1) scLper.nd rfl (.inl rfl) (pe_callB call_len_seq (by rfl) T.len PySem.boot_len (pa_cons (pv 0) pa_nil)))
      (pss_cons (ps_for PassesOwn.never rfl (pi_list (Dprimes.call (hr.mono (by decide)) (pa_cons (pv 1) pa_nil))) (pg_name (i := 2) scLper.nd rfl (.inl rfl))
      (pss_one (ps_while PassesOwn.never (pw_and (pt_cmpR op_eq (pe_op op_mod (pv 1) (pv 2)) pe_int (nomark _)) (pw_and1 (pt_val (Dround.call (hr.mono (by decide)) (pa_cons (pv 0) (pa_cons (pe_op op_fdiv (pv 1) (pv 2)) pa_nil)))))).pt
      (pss_one (ps_set (i := 1) scLper.nd rfl (.inl rfl) (pe_op op_fdiv (pv 1) (pv 2)))))))
      (pss_one (ps_ret (pv 1))))), ?_⟩
    refine ⟨_, rfl, a, _, rfl, len_bls hB, ?_⟩
    refine ⟨_, rfl, bs.length, by rw [List.length_map]; rfl, hL1, hL2, fun r ps H1 hr0 hA hok sm => ?_⟩
    refine ⟨r, rfl, ⟨_, .inl (.inl hA)⟩, for_list (K := K) (a := r) (xs := ps.map fun p : Nat => V.int (p : Int)) (fun i σ H' => ∃ (m : Nat) (y : Option V), σ = [some (.ref a), some (.int m), y] ∧ H' r = some (.lst (ps.map fun p : Nat => V.int (p : Int))) ∧ Same H H' ∧ 1 ≤ m ∧ m ∣ bs.length ∧ PerF (led bs) m ∧
      ∀ (j p : Nat), j < i → ps[j]? = some p → p ∣ m → ¬ PerF (led bs) (m / p)) ⟨bs.length, none, by rw [List.length_map]; rfl, hA, sm, hL1, Nat.dvd_refl _, led_self bs, fun j p hj => absurd hj (Nat.not_lt_zero j)⟩ (fun i σ H' _ ⟨m, y, _, h, _⟩ => .inl (.inl h)) ?_ ?_⟩
    · rintro i x σ H2 hi ⟨m, y, rfl, hA2, sm2, m1, mL, hper, hn⟩
      rw [List.getElem?_map] at hi
      obtain ⟨p, hp, rfl⟩ := Option.map_eq_some_iff.mp hi
      obtain ⟨p2, pL⟩ := hok.1 p (List.mem_of_getElem? hp)
      have pl : p ≤ bs.length := Nat.le_of_dvd (by omega) pL
      refine ⟨fun k σ H' => ∃ m' : Nat, k = m' ∧ σ = [some (.ref a), some (.int m'), some (.int p)] ∧ H' r = some (.lst (ps.map fun p : Nat => V.int (p : Int))) ∧ Same H H' ∧ 1 ≤ m' ∧ m' ∣ m ∧ PerF (led bs) m', ⟨m, m, rfl, rfl, hA2, sm2, m1, Nat.dvd_refl _, hper⟩, fun k σ H3 hW => ?_⟩
      obtain ⟨m', rfl, rfl, hA3, sm3, m1', md, hper'⟩ := hW
      have fin : ∀ H4, H4 r = some (.lst (ps.map fun p : Nat => V.int (p : Int))) → Same H H4 → (p ∣ k → ¬ PerF (led bs) (k / p)) → ∃ (m : Nat) (y : Option V), [some (V.ref a), some (V.int k), some (V.int p)] = [some (.ref a), some (.int m), y] ∧ H4 r = some (.lst (ps.map fun p : Nat => V.int (p : Int))) ∧ Same H H4 ∧ 1 ≤ m ∧ m ∣ bs.length ∧ PerF (led bs) m ∧
          ∀ (j p : Nat), j < i + 1 → ps[j]? = some p → p ∣ m → ¬ PerF (led bs) (m / p) := fun H4 h4 s4 hpk => by
        refine ⟨k, _, rfl, h4, s4, m1', Nat.dvd_trans md mL, hper', fun j p' hj hp' hpd hper2 => ?_⟩
        rcases Nat.lt_or_ge j i with z | z
        · exact hn j p' z hp' (Nat.dvd_trans hpd md) (hper2.keep (by have := (hok.1 p' (List.mem_of_getElem? hp')).1; omega) md hpd)
        · have e : j = i := by omega
          rw [e, hp] at hp'
          injection hp' with hp'
          subst hp'
          exact hpk hpd hper2
      refine ⟨_, rfl, _, rfl, _, _, rfl, rfl, show (0 : Int) < (p : Int) by omega, rfl, _, rfl, ?_⟩
      rw [hmod_nat (by omega)]
      by_cases hd : p ∣ k
      · rw [decide_eq_true hd]
        have kp : k / p ≤ bs.length := Nat.le_trans (Nat.div_le_self _ _) (Nat.le_of_dvd (by omega) (Nat.dvd_trans md mL))
        have kd : k / p ∣ bs.length := Nat.dvd_trans ⟨p, (Nat.div_mul_cancel hd).symm⟩ (Nat.dvd_trans md mL)
        refine iteT ⟨_, rfl, _, rfl, _, rfl, _, _, rfl, rfl, ⟨show (0 : Int) < (p : Int) by omega, show (p : Int) < 1073741824 by omega⟩, a, bs, k / p, rfl, hB.same sm3, kp, fun H4 s4 => ⟨_, rfl, ?_⟩⟩
        have sm4 := sm3.trans s4
        have hA4 := s4 _ _ hA3
        by_cases hrd : Round bs (k / p) = true
        · rw [hrd]
          have hk1 : 1 ≤ k / p := Nat.div_pos (Nat.le_of_dvd (by omega) hd) (by omega)
          refine iteT ⟨fun σ' H' => σ' = [some (.ref a), some (.int ((k / p : Nat) : Int)), some (.int p)] ∧ H' r = some (.lst (ps.map fun p : Nat => V.int (p : Int))) ∧ Same H H', fun σ' H' hz => ?_, ?_⟩
          · obtain ⟨rfl, h5, s5⟩ := hz
            exact ⟨k / p, Nat.div_lt_self (by omega) (by omega), _, rfl, rfl, h5, s5, hk1, Nat.dvd_trans ⟨p, (Nat.div_mul_cancel hd).symm⟩ md, (round_per hL1 kd).mp hrd⟩
          · exact ⟨_, rfl, _, rfl, _, _, rfl, rfl, ⟨show (0 : Int) < (p : Int) by omega, show (p : Int) < 1073741824 by omega⟩, rfl, hA4, sm4⟩
        · rw [Bool.eq_false_iff.mpr hrd]
          exact iteF (fin _ hA4 sm4 fun _ hz => hrd ((round_per hL1 kd).mpr hz))
      · rw [decide_eq_false hd]
        refine iteF ?_
        exact fin _ hA3 sm3 fun z => absurd z hd
    · rintro σ H2 ⟨m, y, rfl, hA2, sm2, m1, mL, hper, hn⟩
      refine ⟨_, rfl, q m H2 m1 mL hper (least_of hok hL1 mL hper fun p hp => ?_) sm2⟩
      obtain ⟨j, hj, rfl⟩ := List.getElem_of_mem hp
      exact hn j _ (by rw [List.length_map]; exact hj) (List.getElem?_eq_getElem hj)
/-! ### _least_start -/
def spLstart (K : PySem.W.Frag) : Sp := fun vs H Q _ => ∃ (a b : Addr) (bs rs : List Bool), vs = [.ref a, .ref b] ∧ Bls K H a bs ∧ Bls K H b rs ∧ 1 ≤ rs.length ∧ bs.length ≤ 1000000 ∧ rs.length ≤ 1000000 ∧ ∀ (s : Nat) H', Same H H' → StartOk bs rs s → Q (.int s) H'
theorem scLstart : FnScope ["below", "rests", "size", "truths", "later", "low", "high", "middle"] ["below", "rests"] (defScope sLstart) := ⟨rfl, rfl, rfl, by decide +kernel, rfl, by decide +kernel, by decide +kernel⟩
theorem df_lstart (A : At K mg "_least_start" sLstart) (T : TxtW mg) : Df P w K mg base 1 "_least_start" ["below", "rests"] (spLstart K) := by
  obtain ⟨f, fd, hm, F⟩ := A.ex
  refine ⟨f, fd, hm, F.kp, F.binds (fun _ _ _ _ _ _ us hl => match us, hl with | [_, _], _ => rfl), F.ok scLstart (fun vs H Q E h => ?_) (fun cdv A outer s H vs Q E hr h => ?_)⟩
  · obtain ⟨a, b, bs, rs, rfl, _⟩ := h
    rfl
  · obtain ⟨a, b, bs, rs, rfl, hB, hR, hr1, hb1, hr2, q⟩ := h
    refine ⟨_, (pss_cons (ps_set (i := 2) scLstart.nd rfl (.inl rfl) (pe_callB call_len_seq (by rfl) T.len PySem.boot_len (pa_cons (pv 0) pa_nil)))
      (pss_cons (ps_if (pw_or (pt_cmpR op_eq (pv 2) pe_int (nomark _)) (pw_or1 (pt_cmpR op_ne (pe_ix ix_seq (pv 0) (pe_op op_sub (pv 2) pe_int) (fun _ _ => rfl)) (pe_ix ix_seq (pv 1) (pe_op op_mod (pe_op op_sub (pv 2) pe_int) (pe_callB call_len_seq (by rfl) T.len PySem.boot_len (pa_cons (pv 1) pa_nil))) (fun _ _ => rfl)) (nomark _)))).pt (pss_one (ps_ret (pv 2))) pss_nil)
      (pss_cons (ps_set (i := 3) scLstart.nd rfl (.inl rfl) (pe_callTy call_list_of (by rfl) T.list (by decide +kernel) (pa_cons (pv 0) pa_nil)))
      (pss_cons (ps_set (i := 4) scLstart.nd rfl (.inl rfl) (pe_slice sl_list (pe_op op_rep (pe_callTy call_list_of (by rfl) T.list (by decide +kernel) (pa_cons (pv 1) pa_nil)) (pe_op op_add (pe_op op_fdiv (pv 2) (pe_callB call_len_seq (by rfl) T.len PySem.boot_len (pa_cons (pv 1) pa_nil))) pe_int)) po_none (po_some (pv 2))))
      (pss_cons (ps_par (i := 5) (j := 6) (by rfl) scLstart.nd rfl rfl (by decide) rfl rfl (pa_cons pe_int (pa_cons (pv 2) pa_nil)) (by rfl))
      (pss_cons (ps_while PassesOwn.never (pt_cmpR op_lt (pv 5) (pv 6) (nomark _))
      (pss_cons (ps_set (i := 7) scLstart.nd rfl (.inl rfl) (pe_op op_fdiv (pe_op op_add (pv 5) (pv 6)) pe_int))
      (pss_one (ps_if (pt_cmpR (op_eqD hr.units) (pe_slice sl_list (pv 3) (po_some (pv 7)) po_none) (pe_slice sl_list (pv 4) (po_some (pv 7)) po_none) (nomark _)) (pss_one (ps_set (i := 6) scLstart.nd rfl (.inl rfl) (pv 7))) (pss_one (ps_set (i := 5) scLstart.nd rfl (.inl rfl) (pe_op op_add (pv 7) pe_int)))))))
      (pss_one (ps_ret (pv 5))))))))), ?_⟩
    refine ⟨_, rfl, a, _, rfl, len_bls hB, ?_⟩
    rw [List.length_map]
    obtain ⟨s0, hs0, hS⟩ := start_ex bs rs bs.length (Nat.le_refl _) (fun k h1 h2 => absurd h2 (by omega))
    refine ⟨_, rfl, rfl, _, rfl, ?_⟩
    by_cases hz : bs.length = 0
    · rw [decide_eq_true (show V.int (bs.length : Int) = V.int 0 by rw [hz]; rfl)]
      refine iteT ⟨_, rfl, ?_⟩
      have e : s0 = bs.length := by omega
      exact q bs.length H (Same.refl H) (e ▸ hS)
    rw [decide_eq_false (show ¬ V.int (bs.length : Int) = V.int 0 from fun z => by injection z with z; omega)]
    refine iteF ?_
    obtain ⟨n, hn⟩ : ∃ n, bs.length = n + 1 := ⟨bs.length - 1, by omega⟩
    have en : ((bs.length : Nat) : Int) - 1 = (n : Int) := by omega
    have h0 := Int.emod_nonneg (n : Int) (show (rs.length : Int) ≠ 0 by omega)
    have h1 := Int.emod_lt_of_pos (n : Int) (show (0 : Int) < (rs.length : Int) by omega)
    have em : ((n : Int) % (rs.length : Int)).toNat = n % rs.length := by rw [← Int.natCast_emod]; rfl
    refine ⟨_, rfl, _, rfl, _, _, rfl, rfl, ix_bls hB (by omega) (by omega) ?_⟩
    refine ⟨_, rfl, _, rfl, _, _, rfl, rfl, _, rfl, b, _, rfl, len_bls hR, _, _, rfl, rfl, by rw [List.length_map]; omega, ?_⟩
    dsimp only
    rw [List.length_map, en]
    refine ix_bls hR h0 h1 ⟨rfl, _, rfl, ?_⟩
    rw [em, show ((n : Nat) : Int).toNat = n from rfl, show rs.getD (n % rs.length) false = led rs n from rfl]
    by_cases hx : ¬ bs.getD n false = led rs n
    · rw [decide_eq_false (fun z => hx (by injection z))]
      refine iteT ⟨_, rfl, q bs.length H (Same.refl H) ⟨Nat.le_refl _, fun k h1 h2 => absurd h2 (by omega), .inr (by rw [hn, Nat.add_sub_cancel]; exact hx)⟩⟩
    rw [decide_eq_true (congrArg V.bl (Classical.not_not.mp hx))]
    refine iteF ?_
    -- truths
    refine ⟨_, rfl, a, _, rfl, hB, fun l1 hl1 => ?_⟩
    have s1 := same_new (o := .lst (bs.map V.bl)) hl1
    have e1 : (upd H l1 (.lst (bs.map V.bl))) l1 = some (.lst (bs.map V.bl)) := upd_same
    generalize upd H l1 (.lst (bs.map V.bl)) = H1 at s1 e1 ⊢
    -- later
    refine ⟨_, rfl, b, _, rfl, hR.same s1, fun l2 hl2 => ?_⟩
    have s2 := s1.trans (same_new (o := .lst (rs.map V.bl)) hl2)
    have e1 := same_new (o := .lst (rs.map V.bl)) hl2 _ _ e1
    have e2 : (upd H1 l2 (.lst (rs.map V.bl))) l2 = some (.lst (rs.map V.bl)) := upd_same
    generalize upd H1 l2 (.lst (rs.map V.bl)) = H2 at s2 e1 e2 ⊢
    refine ⟨_, rfl, _, rfl, b, _, rfl, hR.same s2, ?_⟩
    rw [List.length_map]
    have ek : ((bs.length : Int) / (rs.length : Int) + 1) = ((bs.length / rs.length + 1 : Nat) : Int) := rfl
    have hrep : rs.length * (bs.length / rs.length + 1) ≤ 2000000 := by
      have := Nat.div_mul_le_self bs.length rs.length
      rw [Nat.mul_comm] at this
      rw [Nat.mul_succ]
      omega
    have hdiv : bs.length / rs.length ≤ bs.length := Nat.div_le_self _ _
    refine ⟨_, _, rfl, rfl, ⟨by omega, by omega⟩, _, _, rfl, rfl, ?_⟩
    dsimp only
    rw [ek]
    have hk0 := Int.natCast_nonneg (bs.length / rs.length + 1)
    have hk1 : ((bs.length / rs.length + 1 : Nat) : Int) ≤ 1000001 := Int.ofNat_le.mpr (show bs.length / rs.length + 1 ≤ 1000001 by omega)
    refine ⟨l2, _, _, rfl, rfl, e2, Int.le_trans (by decide) hk0, Int.lt_of_le_of_lt hk1 (by decide), ?_, fun l3 hl3 => ?_⟩
    · rw [List.length_map, Int.toNat_natCast]
      exact Nat.le_trans hrep (by decide)
    have ef : (List.replicate ((bs.length / rs.length + 1 : Nat) : Int).toNat (rs.map V.bl)).flatten = ((List.replicate (bs.length / rs.length + 1) rs).flatten).map V.bl := by
      rw [List.map_flatten, List.map_replicate]; rfl
    rw [ef]
    have s3 := s2.trans (same_new (o := .lst (((List.replicate (bs.length / rs.length + 1) rs).flatten).map V.bl)) hl3)
    have e1 := same_new (o := .lst (((List.replicate (bs.length / rs.length + 1) rs).flatten).map V.bl)) hl3 _ _ e1
    have e3 : (upd H2 l3 (.lst (((List.replicate (bs.length / rs.length + 1) rs).flatten).map V.bl))) l3 = some (.lst (((List.replicate (bs.length / rs.length + 1) rs).flatten).map V.bl)) := upd_same
    generalize upd H2 l3 (.lst (((List.replicate (bs.length / rs.length + 1) rs).flatten).map V.bl)) = H3 at s3 e1 e3 ⊢
    have hlen : bs.length ≤ (List.replicate (bs.length / rs.length + 1) rs).flatten.length := by
      rw [rep_len, Nat.mul_succ]
      have := Nat.div_add_mod bs.length rs.length
      have := Nat.mod_lt bs.length (show 0 < rs.length by omega)
      omega
    refine ⟨_, rfl, _, rfl, l3, _, rfl, .inl (.inl e3), fun l4 hl4 => ?_⟩
    rw [cut_hi _ _ hlen, rep_take hr1]
    have s4 := s3.trans (same_new (o := .lst (((List.range bs.length).map (led rs)).map V.bl)) hl4)
    have e1 := same_new (o := .lst (((List.range bs.length).map (led rs)).map V.bl)) hl4 _ _ e1
    have e4 : (upd H3 l4 (.lst (((List.range bs.length).map (led rs)).map V.bl))) l4 = some (.lst (((List.range bs.length).map (led rs)).map V.bl)) := upd_same
    generalize upd H3 l4 (.lst (((List.range bs.length).map (led rs)).map V.bl)) = H4 at s4 e1 e4 ⊢
    refine ⟨_, rfl, _, _, rfl, ?_⟩
    refine ⟨fun d σ H' => Same H H' ∧ H' l1 = some (.lst (bs.map V.bl)) ∧ H' l4 = some (.lst (((List.range bs.length).map (led rs)).map V.bl)) ∧ ∃ (lo hi : Nat) (y : Option V), σ = [some (.ref a), some (.ref b), some (.int (bs.length : Int)), some (.ref l1), some (.ref l4), some (.int (lo : Int)), some (.int (hi : Int)), y] ∧ lo ≤ s0 ∧ s0 ≤ hi ∧ hi ≤ bs.length ∧ d = hi - lo,
      ⟨bs.length, s4, e1, e4, 0, bs.length, none, rfl, Nat.zero_le _, hs0, Nat.le_refl _, rfl⟩, fun d σ H' hW => ?_⟩
    obtain ⟨s5, e1, e4, lo, hi, y, rfl, h1, h2, h3, rfl⟩ := hW
    refine ⟨_, rfl, _, rfl, _, _, rfl, rfl, _, rfl, ?_⟩
    by_cases hlt : lo < hi
    · rw [decide_eq_true (show (lo : Int) < (hi : Int) by omega)]
      refine iteT ⟨fun σ' H2 => ∃ d', d' < hi - lo ∧ (Same H H2 ∧ H2 l1 = some (.lst (bs.map V.bl)) ∧ H2 l4 = some (.lst (((List.range bs.length).map (led rs)).map V.bl)) ∧ ∃ (lo' hi' : Nat) (y : Option V), σ' = [some (.ref a), some (.ref b), some (.int (bs.length : Int)), some (.ref l1), some (.ref l4), some (.int (lo' : Int)), some (.int (hi' : Int)), y] ∧ lo' ≤ s0 ∧ s0 ≤ hi' ∧ hi' ≤ bs.length ∧ d' = hi' - lo'), fun σ' H2 h => h, ?_⟩
      refine ⟨_, rfl, _, rfl, _, _, rfl, rfl, _, _, rfl, rfl, ⟨by decide, by decide⟩, ?_⟩
      have emid : (((lo : Int) + (hi : Int)) / 2) = (((lo + hi) / 2 : Nat) : Int) := by omega
      dsimp only
      rw [emid]
      obtain ⟨mid, hmid⟩ : ∃ mid, (lo + hi) / 2 = mid := ⟨_, rfl⟩
      rw [hmid]
      have m1 : lo ≤ mid := by omega
      have m2 : mid < hi := by omega
      refine ⟨_, rfl, _, rfl, _, rfl, l1, _, rfl, .inl (.inl e1), fun l5 hl5 => ?_⟩
      rw [cut_lo bs mid (by omega)]
      have s6 := s5.trans (same_new (o := .lst ((bs.drop mid).map V.bl)) hl5)
      have e1 := same_new (o := .lst ((bs.drop mid).map V.bl)) hl5 _ _ e1
      have e4 := same_new (o := .lst ((bs.drop mid).map V.bl)) hl5 _ _ e4
      have e5 : (upd H' l5 (.lst ((bs.drop mid).map V.bl))) l5 = some (.lst ((bs.drop mid).map V.bl)) := upd_same
      generalize upd H' l5 (.lst ((bs.drop mid).map V.bl)) = H5 at s6 e1 e4 e5 ⊢
      refine ⟨_, rfl, _, rfl, _, rfl, l4, _, rfl, .inl (.inl e4), fun l6 hl6 => ?_⟩
      rw [cut_lo ((List.range bs.length).map (led rs)) mid (by rw [List.length_map, List.length_range]; omega)]
      have s7 := s6.trans (same_new (o := .lst ((((List.range bs.length).map (led rs)).drop mid).map V.bl)) hl6)
      have e1 := same_new (o := .lst ((((List.range bs.length).map (led rs)).drop mid).map V.bl)) hl6 _ _ e1
      have e4 := same_new (o := .lst ((((List.range bs.length).map (led rs)).drop mid).map V.bl)) hl6 _ _ e4
      have e5 := same_new (o := .lst ((((List.range bs.length).map (led rs)).drop mid).map V.bl)) hl6 _ _ e5
      have e6 : (upd H5 l6 (.lst ((((List.range bs.length).map (led rs)).drop mid).map V.bl))) l6 = some (.lst ((((List.range bs.length).map (led rs)).drop mid).map V.bl)) := upd_same
      generalize upd H5 l6 (.lst ((((List.range bs.length).map (led rs)).drop mid).map V.bl)) = H6 at s7 e1 e4 e5 e6 ⊢
      refine ⟨_, _, .lst (.inl (.inl e5)) (dp_bls _), .lst (.inl (.inl e6)) (dp_bls _), (sh_list (can_bls _).1 (can_bls _).2).1, (sh_list (can_bls _).1 (can_bls _).2).1, _, rfl, ?_⟩
      rw [show PyData.eqv (.list ((bs.drop mid).map PyData.bool)) (.list ((((List.range bs.length).map (led rs)).drop mid).map PyData.bool)) = decide (bs.drop mid = ((List.range bs.length).map (led rs)).drop mid) from eqv_bls _ _]
      by_cases hc : s0 ≤ mid
      · rw [decide_eq_true (drop_agree.mpr ((start_agree hS (by omega)).mpr hc))]
        exact iteT ⟨_, rfl, mid - lo, by omega, s7, e1, e4, lo, mid, _, rfl, h1, hc, by omega, rfl⟩
      · rw [decide_eq_false (fun z => hc ((start_agree hS (by omega)).mp (drop_agree.mp z)))]
        exact iteF ⟨_, rfl, _, _, rfl, rfl, hi - (mid + 1), by omega, s7, e1, e4, mid + 1, hi, _, rfl, by omega, h2, h3, rfl⟩
    · rw [decide_eq_false (show ¬ (lo : Int) < (hi : Int) by omega)]
      have e : lo = s0 := by omega
      subst e
      exact iteF ⟨_, rfl, q _ _ s5 hS⟩
end
end Ef
set_option Elab.async false
set_option linter.all false
set_option maxRecDepth 100000
set_option maxHeartbeats 2000000
/-! try with several clauses, each with a name -/
namespace Ef
open PySem PySem.Spec PyProof.Rows L2
abbrev AsC := Value × Nat × (Addr → Value → Option Addr → TS)
/-- the ends of a named clause: its name is gone behind it -/
def EndsAs (i : Nat) (D : Ends) : Ends := { nx := fun σ' H' => D.nx (σ'.set i none) H', rt := D.rt, bk := fun σ' H' => D.bk (σ'.set i none) H', ct := fun σ' H' => D.ct (σ'.set i none) H' }
def wAsL (K : PySem.W.Frag) (Wout : WX) (D : Ends) : List AsC → WX
  | [] => Wout
  | (c, i, ts) :: r => fun cls d σ H => ∃ b, PySem.W.exmOne K cls c = some b ∧ (b = true → ∀ a, H a = none → ts a cls d (EndsAs i D) (σ.set i (some (.ref a))) H) ∧ (b = false → wAsL K Wout D r cls d σ H)
inductive HdsAs (X : Cx) : List ExceptHandler → List AsC → Prop
  | nil : HdsAs X [] []
  | cons {x n : Str} {c : Value} {i : Nat} {ts : Addr → Value → Option Addr → TS} {b₀ : Stmt} {suite : List Stmt} {np pos' : Pos} {hds : List ExceptHandler} {l : List AsC}
      (hi : X.N[i]? = some n) (hln : X.env.kindOf n = some NameKind.local) (hc : Names X x c)
      (hsu : ∀ (a : Addr) (oe : Obj) (cls : Value) (d : Option Addr) (pn : List (Addr × Obj)), Zc cls d oe → (∃ vs, oe.data = Data.fields vs) → PSs (X.suite a ((a, oe) :: pn)) (b₀ :: suite) (ts a cls d))
      (r : HdsAs X hds l) : HdsAs X (ExceptHandler.ExceptHandler (some (Expr.Name x np)) (some n) (b₀ :: suite) pos' :: hds) ((c, i, ts) :: l)
/-- what stands when a clause is looked for -/
structure LandAs (X : Cx) (pins : List (Addr × Obj)) (σ : L2.St) (H : Hp) (sI : Shared) (B : Heap) (a : Addr) (cls : Value) (d : Option Addr) (s : Shared) : Prop where
  J : Inv X pins σ H sI
  nb : ∀ (b : Addr) (o : Obj), sI.heap.get? b = some o → ¬b ∈ frs X.stack → B.get? b = some o
  up : sI.heap.UpToSlots s.heap
  fl : PySem.HandSPX.FlyingZ B (X.env :: X.outer) a (Zc cls d) s.heap
  na : H a = none
  os : s.os = sI.os
  ag : PyProof.Rows.AllBare s.gens
theorem handle_as {X : Cx} {pins : List (Addr × Obj)} {σ : L2.St} {H : Hp} {sI : Shared} {B : Heap} {a : Addr} {cls : Value} {d : Option Addr} {D : Ends} {Wout : WX} (hs : X.stack = X.env :: X.outer) (hf : X.env.frame = some X.env.locals) (hN : X.N.Nodup) (tk : Takes X Wout) :
    ∀ {hds : List ExceptHandler} {l : List AsC}, HdsAs X hds l → ∀ {s : Shared}, LandAs X pins σ H sI B a cls d s → wAsL X.K Wout D l cls d σ H →
      wpAny (model X.prog X.w) X.A (handleBy (.ref a) X.env hds) (SP X pins D) X.xe s := by
  intro hds l hh
  induction hh with
  | nil =>
    intro s L h
    have k := id L.fl
    obtain ⟨k1, k2, k3, oe, vs, T, oT, ts', he, hz, hd, h1, hr⟩ := k
    refine wpAny_handleBy_nil ?_
    refine wpAny_bind (wpAny_field he hd h1 ?_)
    rw [if_neg (by simp)]
    refine wpAny_bind ?_
    rw [hf]
    refine PySem.HandSPX.setFlight_upZ L.fl fun h4 hh4 up4 => wpAny_throw (tk _ _ ⟨a, B, sI, pins, σ, H, cls, d, rfl, L.J, L.nb, Heap.UpToSlots.trans L.up up4, Or.inr (Or.inr (by rw [hs]; exact hh4)), L.na, L.os, L.ag, h⟩)
  | @cons x n c i ts b₀ suite np pos' hds l hi hln hc hsu r ih =>
    intro s L h
    have ok := L.J.ok
    have hloc : L2.Loc X.env.scope n := Or.inl hln
    have J3 := Inv.landed L.J L.nb L.fl.1 L.up L.os L.ag
    obtain ⟨oe3, vs3, he3, hz3, hd3⟩ := L.fl.there
    have notFr : ∀ {h' : Heap} {oe : Obj} {vs : Array Value}, h'.FunFrames B (X.env :: X.outer) → h'.get? a = some oe → oe.data = Data.fields vs → a ∉ List.filterMap (fun (x : Env) => x.frame) (X.env :: X.outer) := fun ff e dd hm => by
      obtain ⟨_, o', e', hnf⟩ := Heap.FunFrames.mem ff hm
      rw [e] at e'
      cases e'
      exact hnf _ dd
    have nfr := notFr L.fl.2.2.1 he3 hd3
    have nL : a ≠ X.env.locals := fun z => nfr (List.mem_filterMap.mpr ⟨X.env, List.mem_cons_self, by rw [hf, z]⟩)
    have nF : a ∉ X.fs := fun hm => by
      obtain ⟨e, he, q⟩ := List.mem_filterMap.mp hm
      exact nfr (List.mem_filterMap.mpr ⟨e, List.mem_cons_of_mem _ he, q⟩)
    have S3 := Inv.suite J3 he3 hd3 L.na nL nF
    obtain ⟨b, hb1, hyes, hno⟩ := h
    refine wpAny_handleBy_cons (codeAny_handlers_test ?_) (fun q => nomatch q)
    have LM : PySem.W.Looks (model X.prog X.w) s.heap (excMatches (.ref a) c) b := PySem.W.exm_one J3.kIn (fun A Q E s k q => wpAny_typeOf_ref (k a oe3 he3) (by rw [hz3.1]; exact q)) hb1
    have test : ∀ {Q E}, Q c s → wpAny (model X.prog X.w) (X.suite a ((a, oe3) :: (X.pn ++ pins))).A (eval (.Name x np) X.env) Q E s := fun {Q E} q => by
      obtain ⟨hg, hdbg, hm | ⟨hm, hv, hnn⟩⟩ := hc
      · exact ld_glob S3 hg hm q hdbg
      · exact ld_blt S3 hg hm hv q hnn hdbg
    refine test (LM.here ?_)
    cases b with
    | false => exact ih L (hno rfl)
    | true =>
      refine codeAny_handlers_suite_as (PySem.HandSPX.lands_againZ L.fl fun h4 fl4 up4 => ?_)
      have J4 := Inv.landed (s' := { s with heap := h4 }) L.J L.nb fl4.1 (Heap.UpToSlots.trans L.up up4) L.os L.ag
      obtain ⟨oe4, vs4, he4, hz4, hd4⟩ := fl4.there
      have S4 := Inv.suite J4 he4 hd4 L.na nL nF
      refine store_ok (X := X.suite a ((a, oe4) :: (X.pn ++ pins))) (pins := []) (v := .ref a) S4 hN hi hloc rfl (fun s5 S5 => wpAny_mono ((hsu a oe4 cls d (X.pn ++ pins) hz4 ⟨vs4, hd4⟩).run [] s5 (σ.set i (some (.ref a))) H (EndsAs i D) S5 (hyes rfl a L.na)) (fun f s6 hsp => ?_) fun _ _ z => False.elim z) (Or.inr hln)
      have end_ : ∀ {σ6 : L2.St} {H6 : Hp} {Q : Unit → Shared → Prop}, Inv (X.suite a ((a, oe4) :: (X.pn ++ pins))) [] σ6 H6 s6 → (∀ s7, Inv X pins (σ6.set i none) H6 s7 → Q () s7) → wpAny (model X.prog X.w) X.A (do bindName X.env n Value.none; unbindBehindTheSuite X.env n pos') Q X.xe s6 := fun S6 hq => gone_ok (Inv.unsuite S6 ok) hN hi hln hq
      cases f with
      | next => obtain ⟨σ6, H6, S6, q6⟩ := hsp; exact end_ S6 fun s7 J7 => ⟨_, _, J7, q6⟩
      | brk => obtain ⟨σ6, H6, S6, q6⟩ := hsp; exact end_ S6 fun s7 J7 => ⟨_, _, J7, q6⟩
      | cont => obtain ⟨σ6, H6, S6, q6⟩ := hsp; exact end_ S6 fun s7 J7 => ⟨_, _, J7, q6⟩
      | ret u => obtain ⟨v6, σ6, H6, S6, r6, q6⟩ := hsp; exact end_ S6 fun s7 J7 => ⟨v6, _, _, J7, r6, q6⟩
theorem ps_try_asL {X : Cx} {h₀ : ExceptHandler} {hds : List ExceptHandler} {l : List AsC} {body : List Stmt} {pos : Pos} {tb : WX → TS} {Wout : WX} (hs : X.stack = X.env :: X.outer) (hf : X.env.frame = some X.env.locals) (hN : X.N.Nodup) (tk : Takes X Wout)
    (hb : ∀ (W : WX) (pn : List (Addr × Obj)) (xe : Value → Shared → Prop), Takes (X.tr pn xe) W → PassesOwn (model X.prog X.w) X.A X.env xe → PSs (X.tr pn xe) body (tb W)) (hh : HdsAs X (h₀ :: hds) l) :
    PS X (.Try body (h₀ :: hds) [] [] pos) fun D σ H => tb (wAsL X.K Wout D l) D σ H := by
  refine ⟨fun pins s σ H D I h => ?_⟩
  have ok := I.ok
  have hfr : X.A.frames = some (X.env :: X.outer) := by rw [ok.frames, hs]
  refine wpAny_Try_except (wpAny_mono ((hb (wAsL X.K Wout D l) (X.pn ++ pins) _ (fun u s' xx => ?_) PassesOwn.looking).run [] s σ H D (Inv.toTry I _) h) (fun f s1 hsp => ?_) fun e s1 he => he)
  · obtain ⟨a, B, sI, pins', σ', H', cls, d, rfl, J', nb, up, sky, na, os, ag, hw⟩ := xx
    have J := Inv.ofTry J' ok
    have sky' : Sky B (X.env :: X.outer) a (Zc cls d) X.env.locals s'.heap := by rw [← hs]; exact sky
    exact Sky.land Zc.steady hfr hf sky' fun h3 fl3 up3 => handle_as hs hf hN tk hh ⟨J, nb, Heap.UpToSlots.trans up up3, fl3, na, os, ag⟩ hw
  · cases f with
    | next => obtain ⟨σ', H', J', q⟩ := hsp; exact wpAny_execs_nil ⟨σ', H', Inv.ofTry J' ok, q⟩
    | brk => obtain ⟨σ', H', J', q⟩ := hsp; exact ⟨σ', H', Inv.ofTry J' ok, q⟩
    | cont => obtain ⟨σ', H', J', q⟩ := hsp; exact ⟨σ', H', Inv.ofTry J' ok, q⟩
    | ret u => obtain ⟨v, σ', H', J', r, q⟩ := hsp; exact ⟨v, σ', H', Inv.ofTry J' ok, r, q⟩
end Ef
set_option Elab.async false
set_option linter.all false
set_option maxRecDepth 100000
set_option maxHeartbeats 2000000
/-! in, not, bool(..) by a class's own methods; a class that a local name holds, called -/
namespace Ef
open PySem PySem.Spec PyProof.Rows L2
/-- the class at C has its own method m: the def at f, which keeps sp -/
structure Own (P : Program) (w : World) (K : PySem.W.Frag) (mg : Str → Option Value) (base : Heap) (k : Nat) (C : Addr) (m : Str) (ps : List Str) (sp : Sp) : Prop where
  ex : ∃ f fd, PySem.W.findIn K (.ref C) m = some (some (.ref f)) ∧ PySem.W.isFn K (.ref f) = true ∧ PySem.W.typeIn K (.ref f) = some (.type "function") ∧ PySem.W.keepIn K (.ref f) = true ∧ Binds K fd ps [] ∧ FnOk P w K mg base CX0 k f fd ps sp
section
variable {X : Cx} {pins : List (Addr × Obj)} {σ : L2.St} {H : Hp} {s : Shared} {Q : VK} {k : Nat} {C a dx : Addr} {fs : List (Str × V)} {m : Str} {ps : List Str} {sp : Sp} {A : Around} {E' : Value → Shared → Prop}
/-- the call of a def from below the body that runs -/
theorem run_low {f : Addr} {fd : FuncData} {us : List Value} {vs : List V} (F : FnOk X.prog X.w X.K X.mg X.base CX0 k f fd ps sp) (hr : Room k A) (hfr : A.frames = X.A.frames) (hb : Binds X.K fd ps []) (I : Inv X pins σ H s) (r : Vals vs us) (h : sp vs H Q E0) :
    wpAny (model X.prog X.w) A (call (.ref f) us) (EP X pins σ Q) E' s := by
  have e0 : Env0 X.prog X.w X.K X.mg X.base A X.stack s H := by
    have e := I.env0
    exact ⟨hfr.trans e.frames, e.mod, e.bs, e.bsz, e.funs, e.frf, e.hok, e.bare⟩
  have hl : (us ++ []).length = ps.length := by rw [List.append_nil, ← r.length]; exact F.len _ _ _ _ h
  have hbt := hb s us I.kIn hl
  rw [List.append_nil] at hbt
  refine wpAny_call (codeAny_mono (F.run A X.stack s H ⟨us, []⟩ us vs Q E0 hr e0 hbt r h) fun res s' hq => ?_)
  cases res with
  | error e => exact False.elim hq
  | ok fl =>
    cases fl with
    | ret u => exact I.after hq
    | next => exact False.elim hq
    | brk => exact False.elim hq
    | cont => exact False.elim hq
/-- callSpecial? of such a method -/
theorem own_special {args : List Value} {vs : List V} {R : Option Value → Shared → Prop} (O : Own X.prog X.w X.K X.mg X.base k C m ps sp) (hr : Room k A) (hfr : A.frames = X.A.frames) (I : Inv X pins σ H s) (ea : H a = some (.ins C dx fs)) (r : Vals vs args)
    (h : sp (.ref a :: vs) H Q E0) (hR : ∀ u s', EP X pins σ Q u s' → R (some u) s') : wpAny (model X.prog X.w) A (callSpecial? (.ref a) m args) R E' s := by
  obtain ⟨f, fd, hf, hi, ht, hk, hb, F⟩ := O.ex
  obtain ⟨mA, OM, _⟩ := ins_get I.hok ea
  obtain ⟨od, J, _⟩ := OM.look
  refine PySem.W.special_fn I.kIn J hf ht ?_
  exact wpAny_mono (run_low (us := .ref a :: args) (vs := .ref a :: vs) F hr hfr hb I (.cons rfl r) h) (fun u s' z => hR u s' z) fun _ _ z => z
theorem own_unless {args : List Value} {vs : List V} {refuse : Sem Value} {R : Option Value → Shared → Prop} (O : Own X.prog X.w X.K X.mg X.base k C m ps sp) (hr : Room k A) (hfr : A.frames = X.A.frames) (I : Inv X pins σ H s) (ea : H a = some (.ins C dx fs)) (r : Vals vs args)
    (h : sp (.ref a :: vs) H Q E0) (hR : ∀ u s', EP X pins σ Q u s' → R (some u) s') : wpAny (model X.prog X.w) A (callSpecialUnlessNone? (.ref a) m args refuse) R E' s := by
  obtain ⟨f, fd, hf, hi, ht, hk, hb, F⟩ := O.ex
  obtain ⟨mA, OM, _⟩ := ins_get I.hok ea
  obtain ⟨od, J, _⟩ := OM.look
  unfold callSpecialUnlessNone? specialOf
  refine wpAny_bind (wpAny_bind (J.type.here ((PySem.W.looks_findIn I.kIn hf).here ?_)))
  refine wpAny_holding (wpAny_bind ((PySem.W.bind_fn I.kIn _ ht).here ?_))
  show wpAny _ _ (if (Value.ref f == Value.none) = true then _ else _) _ _ _
  rw [if_neg (show ¬ ((Value.ref f == Value.none) = true) from Bool.false_ne_true)]
  refine wpAny_bind (wpAny_mono (run_low (us := .ref a :: args) (vs := .ref a :: vs) F hr hfr hb I (.cons rfl r) h) (fun u s' z => wpAny_pure (hR u s' z)) fun _ _ z => z)
/-- x in o, x not in o, by o's own __contains__ -/
def rOwnIn (C : Addr) (sp : Sp) (neg : Bool) : R2 := fun x y H Q => ∃ (a dx : Addr) (fs : List (Str × V)), y = .ref a ∧ H a = some (.ins C dx fs) ∧ sp [.ref a, x] H (fun v H' => ∃ b, v = .bl b ∧ Q (.bl (if neg = true then !b else b)) H') E0
theorem contains_own {x : V} {u : Value} {R : Bool → Shared → Prop} {Qb : Bool → Hp → Prop} (O : Own X.prog X.w X.K X.mg X.base k C "__contains__" ps sp) (hr : Room k A) (hfr : A.frames = X.A.frames) (I : Inv X pins σ H s) (ea : H a = some (.ins C dx fs)) (r : RelV x u)
    (h : sp [.ref a, x] H (fun v H' => ∃ b, v = .bl b ∧ Qb b H') E0) (hR : ∀ b H' s', Inv X pins σ H' s' → Qb b H' → R b s') : wpAny (model X.prog X.w) A (contains (.ref a) u) R E' s := by
  obtain ⟨f, fd, hf, _⟩ := id O.ex
  obtain ⟨mA, OM, _⟩ := ins_get I.hok ea
  obtain ⟨od, J, _⟩ := OM.look
  unfold contains
  refine wpAny_holding ?_
  have e1 : stdlibNamesSay? (.ref a) u = none := by cases u <;> rfl
  rw [e1]
  dsimp only
  refine wpAny_bind ?_
  unfold specialOf
  refine wpAny_bind (J.type.here ((PySem.W.looks_findIn I.kIn hf).here ?_))
  show wpAny _ _ (if (some (Value.ref f) == some Value.none) = true then _ else _) _ _ _
  rw [if_neg (show ¬ ((some (Value.ref f) == some Value.none) = true) from Bool.false_ne_true)]
  refine wpAny_bind (own_unless (vs := [x]) O hr hfr I ea (.cons r .nil) h fun w' s' hz => ?_)
  obtain ⟨v, H', I', rv, b, rfl, q⟩ := hz
  cases rv
  exact wpAny_truthy_bool (hR b H' s' I' q)
theorem op_in_own (O : Own X.prog X.w X.K X.mg X.base k C "__contains__" ps sp) (hr : Room k X.A) : OpR X (compareOp .In) (rOwnIn C sp false) := by
  intro pins s σ H x y v u Q I rx ry h
  obtain ⟨a, dx, fs, rfl, ea, q⟩ := h
  cases ry
  show wpAny _ _ (contains (.ref a) v >>= fun z => pure (Value.bool z)) _ _ _
  exact wpAny_bind (contains_own O hr rfl I ea rx q fun b H' s' I' z => wpAny_pure ⟨.bl b, H', I', rfl, z⟩)
theorem op_notin_own (O : Own X.prog X.w X.K X.mg X.base k C "__contains__" ps sp) (hr : Room k X.A) : OpR X (compareOp .NotIn) (rOwnIn C sp true) := by
  intro pins s σ H x y v u Q I rx ry h
  obtain ⟨a, dx, fs, rfl, ea, q⟩ := h
  cases ry
  show wpAny _ _ (contains (.ref a) v >>= fun z => pure (Value.bool (!z))) _ _ _
  exact wpAny_bind (contains_own O hr rfl I ea rx q fun b H' s' I' z => wpAny_pure ⟨.bl (!b), H', I', rfl, z⟩)
/-- truth by an own __bool__ -/
theorem truthy_own {R : Bool → Shared → Prop} {Qb : Bool → Hp → Prop} (O : Own X.prog X.w X.K X.mg X.base k C "__bool__" ps sp) (hr : Room k A) (hfr : A.frames = X.A.frames) (I : Inv X pins σ H s) (ea : H a = some (.ins C dx fs))
    (h : sp [.ref a] H (fun v H' => ∃ b, v = .bl b ∧ Qb b H') E0) (hR : ∀ b H' s', Inv X pins σ H' s' → Qb b H' → R b s') : wpAny (model X.prog X.w) A (truthy (.ref a)) R E' s := by
  unfold truthy
  refine wpAny_bind (own_special (vs := []) (args := []) O hr hfr I ea .nil h fun w' s' hz => ?_)
  obtain ⟨v, H', I', rv, b, rfl, q⟩ := hz
  cases rv
  exact wpAny_pure (hR b H' s' I' q)
def rOwnTr (C : Addr) (sp : Sp) : V → Hp → (Bool → Hp → Prop) → Prop := fun x H Q => ∃ (a dx : Addr) (fs : List (Str × V)), x = .ref a ∧ H a = some (.ins C dx fs) ∧ sp [.ref a] H (fun v H' => ∃ b, v = .bl b ∧ Q b H') E0
/-- not o -/
theorem un_not_own (O : Own X.prog X.w X.K X.mg X.base k C "__bool__" ps sp) (hr : Room k X.A) : UnR X (unaryOp .Not) (fun x H Q => rOwnTr C sp x H fun b H' => Q (.bl (!b)) H') := by
  intro pins s σ H x v Q I rx h
  obtain ⟨a, dx, fs, rfl, ea, q⟩ := h
  cases rx
  unfold unaryOp
  refine wpAny_holding ?_
  show wpAny _ _ (truthy (.ref a) >>= fun z => pure (Value.bool (!z))) _ _ _
  exact wpAny_bind (truthy_own O hr rfl I ea q fun b H' s' I' z => wpAny_pure ⟨.bl (!b), H', I', rfl, z⟩)
theorem mono_truthy {M : Model} {E1 : Value → Shared → Prop} {x : Value} {R R' : Bool → Shared → Prop} (h : wpAny M A (truthy x) R E1 s) (hR : ∀ b s', R b s' → R' b s') : wpAny M A (truthy x) R' E1 s := wpAny_mono h (fun b s' z => hR b s' z) fun _ _ z => z
theorem bool_new_in (prog : Program) (w : World) (a : Addr) : MeetsIn prog w (Builtin.«bool.__new__» ⟨[.type "bool", .ref a], []⟩)
    (fun A R s => wpAny (model prog w) A.in1 (truthy (.ref a)) (fun b s' => R (.ok (.ret (.bool b))) s') (fun e s' => R (.error e) s') s) :=
  MeetsIn.of_wp fun A R s hs => by
    have f1 := F.conv_sub_bool
    repeat (any_goals (first | (with_reducible refine mono_truthy hs fun b s' hz => ?_) | wp_step))
    all_goals first | exact ⟨_, rfl, by assumption⟩ | skip
/-- bool(o) -/
theorem call_bool_own (O : Own X.prog X.w X.K X.mg X.base k C "__bool__" ps sp) (hr : Room (k + 2) X.A) : CallR X (.type "bool") (fun xs H Q => ∃ x, xs = [x] ∧ rOwnTr C sp x H fun b H' => Q (.bl b) H') := by
  intro pins s σ H xs us Q I r h
  obtain ⟨x, rfl, a, dx, fs, rfl, ea, q⟩ := h
  obtain rfl := Vals.ref1 r
  refine callType_newIn F.called_bool F.newNe_bool (F.typeCall_bool_1 _) (F.newCall_bool_1 _) (fun obj => F.args_object_init_2 obj _) F.entry_bool_new (bool_new_in X.prog X.w a) ?_
  exact truthy_own O hr.in1.in1 rfl I ea q fun b H' s' I' z => ⟨rfl, .bl b, H', I', rfl, z⟩
/-- C(e, ..) by a local name that holds the class -/
def tMakeL (i : Nat) (C : Addr) (sp : Sp) (t : TA) : TE := fun σ H Q => σ[i]? = some (some (.ref C)) ∧ tMake C sp [] E0 t σ H Q
theorem pe_makeL {f : Addr} {fd : FuncData} {i : Nat} {x : Str} {p pos : Pos} {e : Expr} {es : List Expr} {t : TA} (M : Mk X.K C f) (F : FnOk X.prog X.w X.K X.mg X.base CX0 k f fd ps sp) (hr : Room (k + 1) X.A) (hb : Binds X.K fd ps []) (ha : PA X (e :: es) t)
    (hN : X.N[i]? = some x := by rfl) (hv : Vis X.env.scope x := by first | exact Or.inl rfl | exact Or.inr (Or.inl rfl) | exact Or.inr (Or.inr rfl))
    (hdb : (x == ("__debug__" : Str)) = false := by decide) (hcd : (x == ("__classdict__" : Str)) = false := by decide)
    (hst : starEach (e :: es) X.env = (false, eval e X.env) :: starEach es X.env := by rfl) (hpl : (backTo pos (starEach es X.env)).any (·.1) = false := by rfl) : PE X (.Call (.Name x p) (e :: es) [] pos) (tMakeL i C sp t) := by
  refine ⟨fun pins s σ H Q I h => ?_⟩
  obtain ⟨hs, ht⟩ := h
  have hx := pe_var (X := X) (pos := p) hN hv hdb hcd
  refine wpAny_Call_Name_kw (thn (hx.run pins s σ H (fun v H1 => v = .ref C ∧ H1 = H) I ⟨.ref C, hs, rfl, rfl⟩) fun u s1 ⟨v, H1, I1, r1, q1⟩ => ?_)
  obtain ⟨rfl, rfl⟩ := q1
  cases r1
  exact PySem.W.callWith_K (h₀ := X.base) I.ok.mod.kin M.kp (thn (ha.run pos pins s1 σ _ _ I1 ht) fun us s2 ⟨vs, H2, I2, r, q⟩ => ⟨I2.kIn, run_make M F hr hb .nil pass0 I2 r q⟩) hst hpl
end
end Ef
set_option Elab.async false
set_option linter.all false
set_option maxRecDepth 100000
set_option maxHeartbeats 4000000
namespace Ef
open PySem PySem.Spec PyProof.Rows L2
abbrev sErrP : Stmt := inClass (top 8) 0
abbrev sErrN : Stmt := inClass (top 9) 0
abbrev sErrF : Stmt := inClass (top 12) 0
abbrev sErrL : Stmt := inClass (top 13) 0
abbrev sInit : Stmt := inClass (top 20) 0
/-- the least period and the least start -/
structure Canon (bs rs : List Bool) (m s : Nat) : Prop where
  m1 : 1 ≤ m
  dvd : m ∣ rs.length
  per : PerF (led rs) m
  least : ∀ d, PerF (led rs) d → m ∣ d
  start : StartOk bs rs s
/-- the attributes -/
def wf (m s : Int) (ra ba ea la : Addr) : List (Str × V) :=
  putF "_late" (.ref la) (putF "_early" (.ref ea) (putF "below" (.ref ba) (putF "rests" (.ref ra) (putF "start" (.int s) (putF "period" (.int m) [])))))
def earlyL (bs : List Bool) (s : Nat) : List Nat := (List.range s).filter fun n => bs.getD n false
def lateL (rs : List Bool) (m s : Nat) : List Nat := ((List.range m).map fun i => s + i).filter fun n => led rs n
/-- at p a Where of the period m, the start s, the truths bs below and rs -/
def WAt (K : PySem.W.Frag) (C : Addr) (H : Hp) (p : Addr) (m s : Nat) (bs rs : List Bool) : Prop := ∃ dx ra ba ea la : Addr,
  H p = some (.ins C dx (wf m s ra ba ea la)) ∧ SqT K H ra ((rs.take m).map V.bl) ∧ SqT K H ba ((bs.take s).map V.bl) ∧ SqT K H ea ((earlyL bs s).map fun n : Nat => V.int (n : Int)) ∧ SqT K H la ((lateL rs m s).map fun n : Nat => V.int (n : Int))
theorem WAt.same {K : PySem.W.Frag} {C : Addr} {H H' : Hp} {p : Addr} {m s : Nat} {bs rs : List Bool} (h : WAt K C H p m s bs rs) (e : Same H H') : WAt K C H' p m s bs rs := by
  obtain ⟨dx, ra, ba, ea, la, h1, h2, h3, h4, h5⟩ := h
  exact ⟨dx, ra, ba, ea, la, e _ _ h1, Same.tup e h2, Same.tup e h3, Same.tup e h4, Same.tup e h5⟩
theorem nm1 : ¬ (("start" : Str) = "period") := by decide +kernel
theorem nm2 : ¬ (("rests" : Str) = "period") := by decide +kernel
theorem nm3 : ¬ (("rests" : Str) = "start") := by decide +kernel
/-- the class, what the text has of it -/
structure ClsW (K : PySem.W.Frag) (mg : Str → Option Value) (C : Addr) : Prop where
  cl : Cls K C
  mgC : mg "Where" = some (.ref C)
  nP : NoAttr K C "period"
  nS : NoAttr K C "start"
  nR : NoAttr K C "rests"
  nB : NoAttr K C "below"
  nE : NoAttr K C "_early"
  nL : NoAttr K C "_late"
structure TxtI (mg : Str → Option Value) : Prop extends TxtW mg where
  MOST_PERIOD : ∃ t, mg "MOST_PERIOD" = some (.int 720 t)
  MOST_START : ∃ t, mg "MOST_START" = some (.int 10000 t)
section
variable {P : Program} {w : World} {K : PySem.W.Frag} {mg : Str → Option Value} {base : Heap}
theorem same_mut {H0 H : Hp} {p : Addr} {o : HO} (h : Same H0 H) (hp : H0 p = none) : Same H0 (upd H p o) := fun b x e => by rw [upd_ne (ne_of_none e hp)]; exact h b x e
/-- tuple(xs[:k]) -/
theorem rd_tup {K : PySem.W.Frag} {σ : L2.St} {H : Hp} {Q : VK} {i j k : Nat} {a : Addr} {bs : List Bool} (hi : σ[i]? = some (some (.ref a))) (hj : σ[j]? = some (some (.int k))) (hB : Bls K H a bs) (hk : k ≤ bs.length)
    (q : ∀ l H', Same H H' → SqT K H' l ((bs.take k).map V.bl) → Q (.ref l) H') :
    tCB (fun xs H Q => ∃ p ys, xs = [V.ref p] ∧ ((SqL K H p ys ∧ ∀ l, H l = none → Q (.ref l) (upd H l (.tup ys))) ∨ (SqT K H p ys ∧ Q (.ref p) H)))
      (tCons (tSl (fun x lo hi H Q => rSlL K x lo hi H Q ∨ rSlA K x lo hi H Q) (tVar i) tNoPart (tPart (tVar j))) tNil) σ H Q := by
  obtain ⟨t, hT⟩ := hB.t
  refine ⟨_, hi, _, hj, _, rfl, sl_bls hT (cut_hi bs k hk) fun p H5 s5 h5 => ?_⟩
  cases t with
  | false => exact ⟨p, _, rfl, .inl ⟨h5, fun l hl => q l _ (s5.trans (same_new hl)) (.inl (.inl upd_same))⟩⟩
  | true => exact ⟨p, _, rfl, .inr ⟨h5, q p H5 s5 h5⟩⟩
theorem early_succ (bs : List Bool) (i : Nat) : (earlyL bs (i + 1)).map (fun n : Nat => V.int (n : Int)) = (earlyL bs i).map (fun n : Nat => V.int (n : Int)) ++ (if bs.getD i false = true then [V.int (i : Int)] else []) := by
  unfold earlyL
  rw [List.range_succ, List.filter_append, List.map_append]
  congr 1
  by_cases h : bs.getD i false = true
  · rw [if_pos h, show List.filter (fun n => bs.getD n false) [i] = [i] by simp only [List.filter, h]]; rfl
  · rw [if_neg h, show List.filter (fun n => bs.getD n false) [i] = [] by simp only [List.filter, Bool.eq_false_iff.mpr h]]; rfl
theorem late_succ (rs : List Bool) (m s : Nat) : (lateL rs (m + 1) s).map (fun n : Nat => V.int (n : Int)) = (lateL rs m s).map (fun n : Nat => V.int (n : Int)) ++ (if led rs (s + m) = true then [V.int ((s + m : Nat) : Int)] else []) := by
  unfold lateL
  rw [List.range_succ, List.map_append, List.filter_append, List.map_append]
  congr 1
  show List.map _ (List.filter _ [s + m]) = _
  by_cases h : led rs (s + m) = true
  · rw [if_pos h, show List.filter (fun n => led rs n) [s + m] = [s + m] by simp only [List.filter, h]]; rfl
  · rw [if_neg h, show List.filter (fun n => led rs n) [s + m] = [] by simp only [List.filter, Bool.eq_false_iff.mpr h]]; rfl
theorem early_len (bs : List Bool) (s : Nat) : (earlyL bs s).length ≤ s := by
  unfold earlyL
  refine Nat.le_trans (List.length_filter_le _ _) ?_
  rw [List.length_range]; exact Nat.le_refl s
theorem late_len (rs : List Bool) (m s : Nat) : (lateL rs m s).length ≤ m := by
  unfold lateL
  refine Nat.le_trans (List.length_filter_le _ _) ?_
  rw [List.length_map, List.length_range]; exact Nat.le_refl m
theorem led_mod {rs : List Bool} {m : Nat} (h : PerF (led rs) m) (h1 : 1 ≤ m) (hm : m ≤ rs.length) (n : Nat) : rs.getD (n % m) false = led rs n := by
  have e : n = n % m + m * (n / m) := (Nat.mod_add_div n m).symm
  conv => rhs; rw [e, h.mul (n / m)]
  unfold led
  rw [Nat.mod_eq_of_lt (Nat.lt_of_lt_of_le (Nat.mod_lt n h1) hm)]
theorem sqt_upd {K : PySem.W.Frag} {H : Hp} {a p C dx : Addr} {fs : List (Str × V)} {xs : List V} {o : HO} (h : SqT K H a xs) (hp : H p = some (.ins C dx fs)) : SqT K (upd H p o) a xs := by
  rcases h with (h | ⟨z, h⟩) | h
  · exact .inl (.inl (by rw [upd_ne (ne_of h hp (by intro q; cases q))]; exact h))
  · exact .inl (.inr ⟨z, by rw [upd_ne (ne_of h hp (by intro q; cases q))]; exact h⟩)
  · exact .inr h
def spInit (K : PySem.W.Frag) (C : Addr) : Sp := fun vs H Q _ => ∃ (H0 : Hp) (p dx a b : Addr) (bs rs : List Bool), vs = [.ref p, .ref a, .ref b] ∧ Same H0 H ∧ H0 p = none ∧ H p = some (.ins C dx []) ∧ Bls K H0 a bs ∧ Bls K H0 b rs ∧ 1 ≤ rs.length ∧ rs.length ≤ 720 ∧ bs.length ≤ 10000 ∧
  ∀ (m s : Nat) (H' : Hp), Canon bs rs m s → Same H0 H' → WAt K C H' p m s bs rs → Q .non H'
theorem scInit : FnScope ["self", "below", "rests", "period", "start", "n", "truth"] ["self", "below", "rests"] (defScope sInit) := ⟨rfl, rfl, rfl, by decide +kernel, rfl, by decide +kernel, by decide +kernel⟩
theorem lkB {m s : Int} {ra ba : Addr} : (putF "below" (V.ref ba) (putF "rests" (.ref ra) (putF "start" (.int s) (putF "period" (.int m) [])))).lookup ("below" : Str) = some (.ref ba) := by with_unfolding_all rfl
theorem ok_init {f C : Addr} {fd : FuncData} (F : Fun K "__init__" "Where.__init__" sInit f fd) (T : TxtI mg) (CW : ClsW K mg C)
    (Dcheck : Df P w K mg base 1 "_check_truths" ["truths"] (spCheck K)) (Dlper : Df P w K mg base 2 "least_period" ["row"] (spLper K)) (Dlstart : Df P w K mg base 1 "_least_start" ["below", "rests"] (spLstart K)) :
    FnOk P w K mg base CX0 3 f fd ["self", "below", "rests"] (spInit K C) := by
  refine F.ok scInit (fun vs H Q E h => ?_) (fun cdv A outer s H vs Q E hr h => ?_)
  · obtain ⟨H0, p, dx, a, b, bs, rs, rfl, _⟩ := h
    rfl
  · obtain ⟨H0, p, dx, a, b, bs, rs, rfl, s0, p0, hp, hB, hR, hr1, hr2, hb2, q⟩ := h
    obtain ⟨tMP, eMP⟩ := T.MOST_PERIOD
    obtain ⟨tMS, eMS⟩ := T.MOST_START
    refine ⟨_, (pss_cons (ps_expr (Dcheck.call (hr.mono (by decide)) (pa_cons (pv 1) pa_nil)))
      (pss_cons (ps_expr (Dcheck.call (hr.mono (by decide)) (pa_cons (pv 2) pa_nil)))
      (pss_cons (ps_if (pt_cmpR op_eq (pe_callB call_len_seq (by rfl) T.len PySem.boot_len (pa_cons (pv 2) pa_nil)) pe_int (nomark _)) (pss_one ps_never) pss_nil)
      (pss_cons (ps_set (i := 3) scInit.nd rfl (.inr rfl) (Dlper.call (hr.mono (by decide)) (pa_cons (pv 2) pa_nil)))
      (pss_cons (ps_set (i := 4) scInit.nd rfl (.inl rfl) (Dlstart.call (hr.mono (by decide)) (pa_cons (pv 1) (pa_cons (pv 2) pa_nil))))
      (pss_cons (ps_if (pt_cmpR op_gt (pv 3) (pe_glob (v := .int 720) rfl eMP ⟨_, rfl⟩) (nomark _)) (pss_one ps_never) pss_nil)
      (pss_cons (ps_if (pt_cmpR op_gt (pv 4) (pe_glob (v := .int 10000) rfl eMS ⟨_, rfl⟩) (nomark _)) (pss_one ps_never) pss_nil)
      (pss_cons (ps_fld (pv 0) (pv 3) rfl)
      (pss_cons (ps_fld (pv 0) (pv 4) rfl)
      (pss_cons (ps_fld (pv 0) (pe_callTy call_tuple_of (by rfl) T.tuple (by decide +kernel) (pa_cons (pe_slice (sl_list.or sl_tupA) (pv 2) po_none (po_some (pv 3))) pa_nil)) rfl)
      (pss_cons (ps_fld (pv 0) (pe_callTy call_tuple_of (by rfl) T.tuple (by decide +kernel) (pa_cons (pe_slice (sl_list.or sl_tupA) (pv 1) po_none (po_some (pv 4))) pa_nil)) rfl)
      (pss_cons (ps_fld (pv 0) (pe_callTy call_tuple_of (by rfl) T.tuple (by decide +kernel) (pa_cons (pe_lc (own := [("n", 5), ("truth", 6)]) (g := gTup K 2 (gCons (gName 5) (gCons (gName 6) gNil))) (by rfl) scInit.nd (pi_enumS (by rfl) T.enumerate (pa_cons (pe_fld (pv 0) rfl) pa_nil)) (blkOk_by (own := [("n", 5), ("truth", 6)]) (N := ["self", "below", "rests", "period", "start", "n", "truth"]) (sc := defScope sInit) (by decide +kernel)) (fun _ _ _ _ _ => pg_tup (by rfl) (pgs_cons (pg_name (i := 5) scInit.nd rfl (Or.inl rfl)) (pgs_cons (pg_name (i := 6) scInit.nd rfl (Or.inl rfl)) pgs_nil))) (fun _ _ _ _ _ => (pts_one (pt_val (pv 6)))) (fun _ _ _ _ _ => (pv 5))) pa_nil)) rfl)
      (pss_one (ps_fld (pv 0) (pe_callTy call_tuple_of (by rfl) T.tuple (by decide +kernel) (pa_cons (pe_lc (own := [("n", 5)]) (g := gName 5) (by rfl) scInit.nd (pi_range2 (by rfl) T.range (pa_cons (pv 4) (pa_cons (pe_op op_add (pv 4) (pv 3)) pa_nil))) (blkOk_by (own := [("n", 5)]) (N := ["self", "below", "rests", "period", "start", "n", "truth"]) (sc := defScope sInit) (by decide +kernel)) (fun _ _ _ _ _ => pg_name (i := 5) scInit.nd rfl (Or.inl rfl)) (fun _ _ _ _ _ => (pts_one (pt_val (pe_ix (show IxR _ (rIx K) from ix_seq) (pv 2) (pe_op op_mod (pv 5) (pv 3)) (fun _ _ => rfl))))) (fun _ _ _ _ _ => (pv 5))) pa_nil)) rfl)))))))))))))), ?_⟩
    refine ⟨_, rfl, a, bs, rfl, hB.same s0, fun H1 s1 => ?_⟩
    have s01 := s0.trans s1
    refine ⟨_, rfl, b, rs, rfl, hR.same s01, fun H2 s2 => ?_⟩
    have s02 := s01.trans s2
    refine ⟨_, rfl, b, _, rfl, len_bls (hR.same s02), rfl, _, rfl, ?_⟩
    rw [decide_eq_false (show ¬ V.int ((rs.map V.bl).length : Int) = V.int 0 from fun z => by
      injection z with z
      rw [List.length_map] at z
      omega)]
    refine iteF ?_
    refine ⟨_, rfl, b, rs, rfl, hR.same s02, hr1, by omega, fun m H3a m1 md mper mleast s3a => ?_⟩
    have s03a := s02.trans s3a
    refine ⟨_, rfl, _, rfl, a, b, bs, rs, rfl, hB.same s03a, hR.same s03a, hr1, by omega, by omega, fun s H3 s3b hs => ?_⟩
    have s3 := s3a.trans s3b
    have s03 := s02.trans s3
    have hm : m ≤ rs.length := Nat.le_of_dvd (by omega) md
    have hsb := hs.1
    refine ⟨_, rfl, _, _, rfl, rfl, _, rfl, ?_⟩
    rw [decide_eq_false (show ¬ (720 : Int) < (m : Int) by omega)]
    refine iteF ?_
    refine ⟨_, rfl, _, _, rfl, rfl, _, rfl, ?_⟩
    rw [decide_eq_false (show ¬ (10000 : Int) < (s : Int) by omega)]
    refine iteF ?_
    have hp3 : H3 p = some (.ins C dx []) := s3 _ _ (s2 _ _ (s1 _ _ hp))
    -- self.period, self.start
    refine ⟨_, rfl, _, rfl, p, C, dx, _, rfl, hp3, CW.cl, CW.nP, (by show 0 < 1000; decide), ?_⟩
    refine ⟨_, rfl, _, rfl, p, C, dx, _, rfl, upd_same, CW.cl, CW.nS, (by show 1 < 1000; decide), ?_⟩
    rw [upd_upd]
    have s04 : Same H0 (upd H3 p (.ins C dx (putF "start" (.int s) (putF "period" (.int m) [])))) := same_mut s03 p0
    have hp4 : (upd H3 p (.ins C dx (putF "start" (.int s) (putF "period" (.int m) [])))) p = some (.ins C dx (putF "start" (.int s) (putF "period" (.int m) []))) := upd_same
    generalize upd H3 p (.ins C dx (putF "start" (.int s) (putF "period" (.int m) []))) = H4 at s04 hp4 ⊢
    -- self.rests
    dsimp only [tSeq, sFld]
    refine rd_tup (k := m) (by rfl) (by rfl) (hR.same s04) hm fun ra H6 s6 h6 => ?_
    have s06 := s04.trans s6
    have hp6 := s6 _ _ hp4
    refine ⟨_, rfl, p, C, dx, _, rfl, hp6, CW.cl, CW.nR, (by show 2 < 1000; decide), ?_⟩
    have hra := sqt_upd (o := .ins C dx (putF "rests" (.ref ra) (putF "start" (.int s) (putF "period" (.int m) [])))) h6 hp6
    have s07 : Same H0 (upd H6 p (.ins C dx (putF "rests" (.ref ra) (putF "start" (.int s) (putF "period" (.int m) []))))) := same_mut s06 p0
    have hp7 : (upd H6 p (.ins C dx (putF "rests" (.ref ra) (putF "start" (.int s) (putF "period" (.int m) []))))) p = some (.ins C dx (putF "rests" (.ref ra) (putF "start" (.int s) (putF "period" (.int m) [])))) := upd_same
    generalize upd H6 p (.ins C dx (putF "rests" (.ref ra) (putF "start" (.int s) (putF "period" (.int m) [])))) = H7 at s07 hp7 hra ⊢
    -- self.below
    refine rd_tup (k := s) (by rfl) (by rfl) (hB.same s07) hsb fun ba H9 s79 h9 => ?_
    have hp9 := s79 _ _ hp7
    refine ⟨_, rfl, p, C, dx, _, rfl, hp9, CW.cl, CW.nB, (by show 3 < 1000; decide), ?_⟩
    have hra := sqt_upd (o := .ins C dx (putF "below" (.ref ba) (putF "rests" (.ref ra) (putF "start" (.int s) (putF "period" (.int m) []))))) (Same.tup s79 hra) hp9
    have hba := sqt_upd (o := .ins C dx (putF "below" (.ref ba) (putF "rests" (.ref ra) (putF "start" (.int s) (putF "period" (.int m) []))))) h9 hp9
    have s10 : Same H0 (upd H9 p (.ins C dx (putF "below" (.ref ba) (putF "rests" (.ref ra) (putF "start" (.int s) (putF "period" (.int m) [])))))) := same_mut (s07.trans s79) p0
    have hp10 : (upd H9 p (.ins C dx (putF "below" (.ref ba) (putF "rests" (.ref ra) (putF "start" (.int s) (putF "period" (.int m) [])))))) p = some (.ins C dx (putF "below" (.ref ba) (putF "rests" (.ref ra) (putF "start" (.int s) (putF "period" (.int m) []))))) := upd_same
    generalize upd H9 p (.ins C dx (putF "below" (.ref ba) (putF "rests" (.ref ra) (putF "start" (.int s) (putF "period" (.int m) []))))) = H10 at s10 hp10 hra hba ⊢
    -- self._early
    refine ⟨_, rfl, p, C, dx, _, _, rfl, hp10, CW.cl, CW.nB, lkB, ba, _, rfl, .inr ⟨hba, fun D hD => ?_⟩⟩
    refine lc_it walk_enumT (fun i H' => Same H10 H' ∧ H' D = some (.lst ((earlyL bs i).map fun n : Nat => V.int (n : Int)))) ⟨same_new hD, upd_same⟩ (fun i H' _ h => Same.tup h.1 hba) ?_ ?_
    · rintro i x Hx H2 hi ⟨sx, hx⟩ ⟨T, y, z, rfl, nT, rfl, ey, ez⟩
      have ei : y = .int (i : Nat) := (Option.some.inj ey).symm
      subst ei
      rw [List.length_map, List.length_take] at hi
      have his : i < s := by omega
      have ez2 : ((bs.take s).map V.bl)[i]? = some (.bl (bs.getD i false)) := by rw [List.map_take, List.getElem?_take, if_pos his, get_bls (by omega)]
      have ez3 : z = .bl (bs.getD i false) := (Option.some.inj (ez2.symm.trans ez)).symm
      subst ez3
      have sT : Same H10 (upd Hx T (.tup [.int (i : Nat), .bl (bs.getD i false)])) := sx.trans (same_new nT)
      have hT : (upd Hx T (.tup [.int (i : Nat), .bl (bs.getD i false)])) D = some (.lst ((earlyL bs i).map fun n : Nat => V.int (n : Int))) := by rw [upd_ne (ne_of_none hx nT)]; exact hx
      refine ⟨T, _, rfl, .inl (.inl upd_same), rfl, _, _, rfl, _, _, rfl, rfl, rfl, _, rfl, _, rfl, ?_⟩
      refine ite2 (fun hb => ?_) (fun hb => ?_)
      · refine ⟨_, rfl, _, hT, by rw [List.length_map]; exact small1000' (Nat.le_trans (early_len bs i) (by omega)), same_mut sT hD, ?_⟩
        rw [upd_same, early_succ, if_pos hb]
      · refine ⟨sT, ?_⟩
        rw [hT, early_succ, if_neg hb, List.append_nil]
    · rintro H11 ⟨s11, h11⟩
      rw [List.length_map, List.length_take, Nat.min_eq_left hsb] at h11
      refine ⟨D, _, rfl, .inl ⟨.inl (.inl h11), fun ea hea => ?_⟩⟩
      have s12 := s11.trans (same_new (o := .tup ((earlyL bs s).map fun n : Nat => V.int (n : Int))) hea)
      have hea2 : SqT K (upd H11 ea (.tup ((earlyL bs s).map fun n : Nat => V.int (n : Int)))) ea ((earlyL bs s).map fun n : Nat => V.int (n : Int)) := .inl (.inl upd_same)
      generalize upd H11 ea (.tup ((earlyL bs s).map fun n : Nat => V.int (n : Int))) = H12 at s12 hea2 ⊢
      have hp12 := s12 _ _ hp10
      refine ⟨_, rfl, p, C, dx, _, rfl, hp12, CW.cl, CW.nE, (by show 4 < 1000; decide), ?_⟩
      have hra := sqt_upd (o := .ins C dx (putF "_early" (.ref ea) (putF "below" (.ref ba) (putF "rests" (.ref ra) (putF "start" (.int s) (putF "period" (.int m) [])))))) (Same.tup s12 hra) hp12
      have hba := sqt_upd (o := .ins C dx (putF "_early" (.ref ea) (putF "below" (.ref ba) (putF "rests" (.ref ra) (putF "start" (.int s) (putF "period" (.int m) [])))))) (Same.tup s12 hba) hp12
      have hea := sqt_upd (o := .ins C dx (putF "_early" (.ref ea) (putF "below" (.ref ba) (putF "rests" (.ref ra) (putF "start" (.int s) (putF "period" (.int m) [])))))) hea2 hp12
      have s13 : Same H0 (upd H12 p (.ins C dx (putF "_early" (.ref ea) (putF "below" (.ref ba) (putF "rests" (.ref ra) (putF "start" (.int s) (putF "period" (.int m) []))))))) := same_mut (s10.trans s12) p0
      have hp13 : (upd H12 p (.ins C dx (putF "_early" (.ref ea) (putF "below" (.ref ba) (putF "rests" (.ref ra) (putF "start" (.int s) (putF "period" (.int m) []))))))) p = some (.ins C dx (putF "_early" (.ref ea) (putF "below" (.ref ba) (putF "rests" (.ref ra) (putF "start" (.int s) (putF "period" (.int m) [])))))) := upd_same
      generalize upd H12 p (.ins C dx (putF "_early" (.ref ea) (putF "below" (.ref ba) (putF "rests" (.ref ra) (putF "start" (.int s) (putF "period" (.int m) [])))))) = H13 at s13 hp13 hra hba hea ⊢
      -- self._late
      refine ⟨_, rfl, _, rfl, _, rfl, _, _, rfl, rfl, _, _, rfl, ⟨by omega, by omega, by omega, by omega⟩, fun D2 hD2 => ?_⟩
      have en : ((((s : Nat) : Int) + ((m : Nat) : Int)) - ((s : Nat) : Int)).toNat = m := by omega
      rw [en]
      refine lc_range (lo := (s : Int)) (n := m) (fun i H' => Same H13 H' ∧ H' D2 = some (.lst ((lateL rs i s).map fun n : Nat => V.int (n : Int)))) ⟨same_new hD2, upd_same⟩ ?_ ?_
      · rintro i Hx hi ⟨sx, hx⟩
        have e0 : (((s : Nat) : Int) + ((i : Nat) : Int)) = ((s + i : Nat) : Int) := rfl
        have em : (((s : Int) + (i : Int)) % ((m : Nat) : Int)).toNat = (s + i) % m := by rw [← Int.natCast_add, ← Int.natCast_emod]; rfl
        have h0 := Int.emod_nonneg ((s : Int) + (i : Int)) (show (m : Int) ≠ 0 by omega)
        have h1 := Int.emod_lt_of_pos ((s : Int) + (i : Int)) (show (0 : Int) < (m : Int) by omega)
        refine ⟨rfl, _, rfl, _, rfl, _, rfl, _, _, rfl, rfl, show (0 : Int) < (m : Int) by omega, ix_bls (hR.same (s13.trans sx)) h0 (by omega) ⟨_, rfl, ?_⟩⟩
        rw [em, led_mod mper m1 hm]
        refine ite2 (fun hb => ?_) (fun hb => ?_)
        · refine ⟨_, rfl, _, hx, by rw [List.length_map]; exact small1000' (Nat.le_trans (late_len rs i s) (by omega)), same_mut sx hD2, ?_⟩
          rw [upd_same, late_succ, if_pos hb]
          rfl
        · refine ⟨sx, ?_⟩
          rw [hx, late_succ, if_neg hb, List.append_nil]
      · rintro H14 ⟨s14, h14⟩
        refine ⟨D2, _, rfl, .inl ⟨.inl (.inl h14), fun la hla => ?_⟩⟩
        have s15 := s14.trans (same_new (o := .tup ((lateL rs m s).map fun n : Nat => V.int (n : Int))) hla)
        have hla2 : SqT K (upd H14 la (.tup ((lateL rs m s).map fun n : Nat => V.int (n : Int)))) la ((lateL rs m s).map fun n : Nat => V.int (n : Int)) := .inl (.inl upd_same)
        generalize upd H14 la (.tup ((lateL rs m s).map fun n : Nat => V.int (n : Int))) = H15 at s15 hla2 ⊢
        have hp15 := s15 _ _ hp13
        refine ⟨_, rfl, p, C, dx, _, rfl, hp15, CW.cl, CW.nL, (by show 5 < 1000; decide), ?_⟩
        exact q m s _ ⟨m1, md, mper, mleast, hs⟩ (same_mut (s13.trans s15) p0) ⟨dx, ra, ba, ea, la, upd_same, sqt_upd (Same.tup s15 hra) hp15, sqt_upd (Same.tup s15 hba) hp15, sqt_upd (Same.tup s15 hea) hp15, sqt_upd hla2 hp15⟩
/-! ### errors with one field -/
/-- the error class x at C with one field f -/
structure ErrF (K : PySem.W.Frag) (mg : Str → Option Value) (x fl : Str) (C fI : Addr) : Prop where
  oex : OexC K C
  mgC : mg x = some (.ref C)
  iC : PySem.W.findIn K (.ref C) "__init__" = some (some (.ref fI))
  tI : PySem.W.typeIn K (.ref fI) = some (.type "function")
  nN : PySem.W.findIn K (.ref C) fl = some none
  xf : XfC K C
def spErr (K : PySem.W.Frag) (C : Addr) (fl : Str) : Sp := fun vs H Q _ => ∃ (a : Addr) (v : V), vs = [.ref a, v] ∧ H a = some (exo a C none) ∧ ∀ dx, H dx = none → dx ≠ a → Q .non (upd (upd H dx (exd dx [(fl, v)])) a (exo a C (some dx)))
/-- an error made and flying -/
theorem mk_err {C : Addr} {fl : Str} {H : Hp} {v : V} {R : XK} (h : ∀ d H', Same H H' → H d = none → H' d = some (.xd [(fl, v)]) → R (.ref C) (some d) H') :
    [v].length ≤ 1000 ∧ ∀ a, H a = none → spErr K C fl (.ref a :: ([v] ++ [])) (upd H a (exo a C none)) (fun v H2 => v = .non ∧ ∃ (d : Addr) (fs : List (Str × V)), H2 a = some (exo a C (some d)) ∧ H2 d = some (exd d fs) ∧ H d = none ∧ R (.ref C) (some d) (upd (del H2 a) d (.xd fs))) (fun _ _ _ => False) := by
  refine ⟨by show 1 ≤ 1000; decide, fun a ha => ⟨a, v, rfl, upd_same, fun dx h1 h2 => ⟨rfl, dx, _, upd_same, by rw [upd_ne h2, upd_same], ?_, ?_⟩⟩⟩
  · rw [upd_ne h2] at h1; exact h1
  · have hdx : H dx = none := by rw [upd_ne h2] at h1; exact h1
    refine h dx _ (fun b o e => ?_) hdx upd_same
    have nb : b ≠ dx := ne_of_none e hdx
    have na : b ≠ a := ne_of_none e ha
    rw [upd_ne nb]
    unfold del
    rw [if_neg na, upd_ne na, upd_ne nb, upd_ne na]
    exact e
/-- a def that may raise, by its name -/
structure DfX (P : Program) (w : World) (K : PySem.W.Frag) (mg : Str → Option Value) (base : Heap) (k : Nat) (x : Str) (ps : List Str) (sp : Sp) (f : Addr) (fd : FuncData) : Prop where
  at_ : mg x = some (.ref f)
  kp : PySem.W.keepIn K (.ref f) = true
  b : Binds K fd ps []
  F : FnOk P w K mg base (CX P w) k f fd ps sp

def Seqs (K : PySem.W.Frag) (H : Hp) (a : Addr) (xs : List V) : Prop := SqL K H a xs ∨ SqT K H a xs
theorem Seqs.same {H H' : Hp} {a : Addr} {xs : List V} (h : Seqs K H a xs) (e : Same H H') : Seqs K H' a xs := h.elim (fun h => .inl (e.seq h)) fun h => .inr (Same.tup e h)
theorem scErrP : FnScope ["self", "n"] ["self", "n"] (defScope sErrP) := ⟨rfl, rfl, rfl, by decide +kernel, rfl, by decide +kernel, by decide +kernel⟩
theorem ok_errP {f C fI : Addr} {fd : FuncData} (F : Fun K "__init__" "BadPlace.__init__" sErrP f fd) (T : ErrF K mg "BadPlace" "n" C fI) : FnOk P w K mg base CX0 1 f fd ["self", "n"] (spErr K C "n") := by
  refine F.ok scErrP (fun vs H Q E h => ?_) (fun cdv A outer s H vs Q E hr h => ?_)
  · obtain ⟨a, v, rfl, _⟩ := h
    rfl
  · obtain ⟨a, v, rfl, ha, q⟩ := h
    refine ⟨_, (pss_one (ps_ost (pv 0) (pv 1))), ?_⟩
    exact ⟨_, rfl, _, rfl, a, C, rfl, T.oex, T.nN, .inl ⟨ha, fun dx h1 h2 => q dx h1 h2⟩⟩
theorem scErrN : FnScope ["self", "number"] ["self", "number"] (defScope sErrN) := ⟨rfl, rfl, rfl, by decide +kernel, rfl, by decide +kernel, by decide +kernel⟩
theorem ok_errN {f C fI : Addr} {fd : FuncData} (F : Fun K "__init__" "BadNumber.__init__" sErrN f fd) (T : ErrF K mg "BadNumber" "number" C fI) : FnOk P w K mg base CX0 1 f fd ["self", "number"] (spErr K C "number") := by
  refine F.ok scErrN (fun vs H Q E h => ?_) (fun cdv A outer s H vs Q E hr h => ?_)
  · obtain ⟨a, v, rfl, _⟩ := h
    rfl
  · obtain ⟨a, v, rfl, ha, q⟩ := h
    refine ⟨_, (pss_one (ps_ost (pv 0) (pv 1))), ?_⟩
    exact ⟨_, rfl, _, rfl, a, C, rfl, T.oex, T.nN, .inl ⟨ha, fun dx h1 h2 => q dx h1 h2⟩⟩
theorem scErrF : FnScope ["self", "most"] ["self", "most"] (defScope sErrF) := ⟨rfl, rfl, rfl, by decide +kernel, rfl, by decide +kernel, by decide +kernel⟩
theorem ok_errF {f C fI : Addr} {fd : FuncData} (F : Fun K "__init__" "TooFine.__init__" sErrF f fd) (T : ErrF K mg "TooFine" "most" C fI) : FnOk P w K mg base CX0 1 f fd ["self", "most"] (spErr K C "most") := by
  refine F.ok scErrF (fun vs H Q E h => ?_) (fun cdv A outer s H vs Q E hr h => ?_)
  · obtain ⟨a, v, rfl, _⟩ := h
    rfl
  · obtain ⟨a, v, rfl, ha, q⟩ := h
    refine ⟨_, (pss_one (ps_ost (pv 0) (pv 1))), ?_⟩
    exact ⟨_, rfl, _, rfl, a, C, rfl, T.oex, T.nN, .inl ⟨ha, fun dx h1 h2 => q dx h1 h2⟩⟩
theorem scErrL : FnScope ["self", "most"] ["self", "most"] (defScope sErrL) := ⟨rfl, rfl, rfl, by decide +kernel, rfl, by decide +kernel, by decide +kernel⟩
theorem ok_errL {f C fI : Addr} {fd : FuncData} (F : Fun K "__init__" "TooLate.__init__" sErrL f fd) (T : ErrF K mg "TooLate" "most" C fI) : FnOk P w K mg base CX0 1 f fd ["self", "most"] (spErr K C "most") := by
  refine F.ok scErrL (fun vs H Q E h => ?_) (fun cdv A outer s H vs Q E hr h => ?_)
  · obtain ⟨a, v, rfl, _⟩ := h
    rfl
  · obtain ⟨a, v, rfl, ha, q⟩ := h
    refine ⟨_, (pss_one (ps_ost (pv 0) (pv 1))), ?_⟩
    exact ⟨_, rfl, _, rfl, a, C, rfl, T.oex, T.nN, .inl ⟨ha, fun dx h1 h2 => q dx h1 h2⟩⟩
end
end Ef
set_option Elab.async false
set_option linter.all false
set_option maxRecDepth 100000
set_option maxHeartbeats 4000000
namespace Ef
open PySem PySem.Spec PyProof.Rows L2
abbrev sLeast : Stmt := top 30
theorem dint' (a b : Int) : decide (V.int a = V.int b) = decide (a = b) := by
  by_cases h : a = b
  · rw [decide_eq_true h, decide_eq_true (by rw [h])]
  · rw [decide_eq_false h, decide_eq_false (fun z => h (V.int.inj z))]
section
variable {P : Program} {w : World} {K : PySem.W.Frag} {mg : Str → Option Value} {base : Heap}
def spLeast : Sp := fun vs H Q _ => ∃ (r : Addr) (bs rs : List Bool) (m s : Nat), vs = [.ref r] ∧ Md H r bs rs ∧ 1 ≤ rs.length ∧ rs.length ≤ 720 ∧ bs.length ≤ 10000 ∧ Canon bs rs m s ∧
  ∀ t tb tr H', Same H H' → H' t = some (.tup [.ref tb, .ref tr]) → H' tb = some (.tup ((bs.take s).map V.bl)) → H' tr = some (.tup ((rs.take m).map V.bl)) → Q (.ref t) H'
theorem scLeast : FnScope ["model", "below", "rests", "size", "period", "start"] ["model"] (defScope sLeast) := ⟨rfl, rfl, rfl, by decide +kernel, rfl, by decide +kernel, by decide +kernel⟩
theorem df_least (A : At K mg "_law_least_model" sLeast) (T : TxtW mg) : Df P w K mg base 1 "_law_least_model" ["model"] spLeast := by
  obtain ⟨f, fd, hm, F⟩ := A.ex
  refine ⟨f, fd, hm, F.kp, F.binds (fun _ _ _ _ _ _ us hl => match us, hl with | [_], _ => rfl), F.ok scLeast (fun vs H Q E h => ?_) (fun cdv A outer s H vs Q E hr h => ?_)⟩
  · obtain ⟨r, bs, rs, m, s, rfl, _⟩ := h
    rfl
  · obtain ⟨r, bs, rs, m, s, rfl, ⟨rb, rr, h1, h2, h3⟩, hr1, hr2, hb2, hc, q⟩ := h
    refine ⟨_, (pss_cons (ps_asg (pv 0) (pg_tup (by rfl) (pgs_cons (pg_name (i := 1) scLeast.nd rfl (.inl rfl)) (pgs_cons (pg_name (i := 2) scLeast.nd rfl (.inl rfl)) pgs_nil))))
      (pss_cons (ps_for PassesOwn.never rfl (pi_range3 (by rfl) T.range (pa_cons (pe_callB call_len_seq (by rfl) T.len PySem.boot_len (pa_cons (pv 2) pa_nil)) (pa_cons pe_int (pa_cons (pe_un un_neg pe_int) pa_nil)))) (pg_name (i := 3) scLeast.nd rfl (.inl rfl))
      (pss_one (ps_if (pw_and (pt_cmpR op_eq (pe_op op_mod (pe_callB call_len_seq (by rfl) T.len PySem.boot_len (pa_cons (pv 2) pa_nil)) (pv 3)) pe_int (nomark _)) (pw_and1 (pt_cmpR (op_eqD hr.units) (pv 2) (pe_op op_rep (pe_slice sl_list (pv 2) po_none (po_some (pv 3))) (pe_op op_fdiv (pe_callB call_len_seq (by rfl) T.len PySem.boot_len (pa_cons (pv 2) pa_nil)) (pv 3))) (nomark _)))).pt (pss_one (ps_set (i := 4) scLeast.nd rfl (.inl rfl) (pv 3))) pss_nil)))
      (pss_cons (ps_set (i := 5) scLeast.nd rfl (.inl rfl) (pe_callB call_len_seq (by rfl) T.len PySem.boot_len (pa_cons (pv 1) pa_nil)))
      (pss_cons (ps_while PassesOwn.never (pw_and (pt_cmpR op_gt (pv 5) pe_int (nomark _)) (pw_and1 (pt_cmpR op_eq (pe_ix ix_seq (pv 1) (pe_op op_sub (pv 5) pe_int) (fun _ _ => rfl)) (pe_ix ix_seq (pv 2) (pe_op op_mod (pe_callTy call_int1 (by rfl) T.int (by decide +kernel) (pa_cons (pe_op op_sub (pv 5) pe_int) pa_nil)) (pv 4)) (fun _ _ => rfl)) (nomark _)))).pt
      (pss_one (ps_set (i := 5) scLeast.nd rfl (.inl rfl) (pe_op op_sub (pv 5) pe_int))))
      (pss_one (ps_ret (pe_tup (pa_cons (pe_callTy call_tuple_of (by rfl) T.tuple (by decide +kernel) (pa_cons (pe_slice sl_list (pv 1) po_none (po_some (pv 5))) pa_nil)) (pa_cons (pe_callTy call_tuple_of (by rfl) T.tuple (by decide +kernel) (pa_cons (pe_slice sl_list (pv 2) po_none (po_some (pv 4))) pa_nil)) pa_nil))))))))), ?_⟩
    refine ⟨_, rfl, r, _, rfl, .inl (.inl h1), rfl, _, _, rfl, _, _, rfl, rfl, ?_⟩
    have hR : SqL K H rr (rs.map V.bl) := .inl (.inl h3)
    refine ⟨_, rfl, rr, _, rfl, .inl hR, _, rfl, _, _, _, _, rfl, RgC.neg (by rw [List.length_map]; omega) (by rw [List.length_map]; omega) (by decide) (by decide), ?_⟩
    have eL : ((((rs.map V.bl).length : Int) - 0).toNat) = rs.length := by rw [List.length_map]; omega
    rw [eL, List.length_map]
    refine for_rangeC (n := rs.length) (fun i σ H' => Same H H' ∧ ∃ y3 y4 : Option V, σ = [some (.ref r), some (.ref rb), some (.ref rr), y3, y4, none] ∧ ((i = 0 ∧ y4 = none) ∨ ∃ pd : Nat, y4 = some (.int (pd : Int)) ∧ pd ∣ rs.length ∧ PerF (led rs) pd ∧ ∀ d, rs.length - i < d → d ≤ rs.length → d ∣ rs.length → PerF (led rs) d → pd ≤ d))
      ⟨Same.refl H, none, none, rfl, .inl ⟨rfl, rfl⟩⟩ ?_ ?_
    · rintro i σ H1 hi ⟨s1, y3, y4, rfl, hy⟩
      have e1 : ((rs.length : Nat) : Int) + ((i : Nat) : Int) * (-1) = ((rs.length - i : Nat) : Int) := by omega
      rw [e1]
      have hk1 : 1 ≤ rs.length - i := by omega
      have hk2 : rs.length - i ≤ rs.length := by omega
      generalize hk : rs.length - i = k at hk1 hk2
      have skip : (¬ (k ∣ rs.length ∧ PerF (led rs) k)) → (∃ y3' y4' : Option V, [some (V.ref r), some (V.ref rb), some (V.ref rr), some (V.int (k : Int)), y4, none] = [some (.ref r), some (.ref rb), some (.ref rr), y3', y4', none] ∧ ((i + 1 = 0 ∧ y4' = none) ∨ ∃ pd : Nat, y4' = some (.int (pd : Int)) ∧ pd ∣ rs.length ∧ PerF (led rs) pd ∧ ∀ d, rs.length - (i + 1) < d → d ≤ rs.length → d ∣ rs.length → PerF (led rs) d → pd ≤ d)) := fun hno => by
        rcases hy with ⟨rfl, rfl⟩ | ⟨pd, rfl, a1, a2, a3⟩
        · exact absurd ⟨by rw [← hk]; exact Nat.dvd_refl _, by rw [← hk]; exact led_self rs⟩ hno
        · refine ⟨_, _, rfl, .inr ⟨pd, rfl, a1, a2, fun d b1 b2 b3 b4 => ?_⟩⟩
          rcases Nat.lt_or_ge (rs.length - i) d with z | z
          · exact a3 d z b2 b3 b4
          · have : d = k := by omega
            rw [this] at b3 b4
            exact absurd ⟨b3, b4⟩ hno
      refine ⟨_, rfl, rr, _, rfl, .inl (s1.seq hR), _, rfl, _, _, rfl, rfl, by omega, rfl, _, rfl, ?_⟩
      rw [List.length_map, dint']
      by_cases hd : k ∣ rs.length
      · rw [decide_eq_true (show ((rs.length : Nat) : Int) % (k : Int) = 0 from Int.emod_eq_zero_of_dvd (Int.natCast_dvd_natCast.mpr hd))]
        refine iteT ?_
        refine ⟨_, rfl, _, rfl, _, rfl, _, rfl, rr, _, rfl, s1.seq hR, fun t1 ht1 => ?_⟩
        rw [cut_hi rs k hk2]
        have s2 := s1.trans (same_new (o := .lst ((rs.take k).map V.bl)) ht1)
        have e2 : (upd H1 t1 (.lst ((rs.take k).map V.bl))) t1 = some (.lst ((rs.take k).map V.bl)) := upd_same
        generalize upd H1 t1 (.lst ((rs.take k).map V.bl)) = H2 at s2 e2 ⊢
        refine ⟨_, rfl, rr, _, rfl, .inl (s2.seq hR), _, rfl, _, _, rfl, rfl, ⟨by omega, by omega⟩, ?_⟩
        rw [List.length_map]
        have eq : ((rs.length : Int) / (k : Int)) = ((rs.length / k : Nat) : Int) := rfl
        dsimp only
        rw [eq]
        have hqk : k * (rs.length / k) = rs.length := Nat.mul_div_cancel' hd
        have hql : rs.length / k ≤ rs.length := Nat.div_le_self _ _
        have hq0 : (0 : Int) ≤ ((rs.length / k : Nat) : Int) := Int.natCast_nonneg _
        have hq1 : ((rs.length / k : Nat) : Int) ≤ 720 := by exact_mod_cast Nat.le_trans hql hr2
        refine ⟨t1, _, _, rfl, rfl, e2, Int.le_trans (by decide) hq0, Int.lt_of_le_of_lt hq1 (by decide), by rw [List.length_map, List.length_take, Nat.min_eq_left hk2, Int.toNat_natCast, hqk]; exact Nat.le_trans hr2 (by decide), fun t2 ht2 => ?_⟩
        rw [Int.toNat_natCast]
        have efl : (List.replicate (rs.length / k) ((rs.take k).map V.bl)).flatten = ((List.replicate (rs.length / k) (rs.take k)).flatten).map V.bl := by
          rw [List.map_flatten, List.map_replicate]
        rw [efl]
        have s3 := s2.trans (same_new (o := .lst (((List.replicate (rs.length / k) (rs.take k)).flatten).map V.bl)) ht2)
        have e3 : (upd H2 t2 (.lst (((List.replicate (rs.length / k) (rs.take k)).flatten).map V.bl))) t2 = some (.lst (((List.replicate (rs.length / k) (rs.take k)).flatten).map V.bl)) := upd_same
        generalize upd H2 t2 (.lst (((List.replicate (rs.length / k) (rs.take k)).flatten).map V.bl)) = H3 at s3 e3 ⊢
        refine ⟨_, _, .lst (s3.seq hR) (dp_bls _), .lst (.inl (.inl e3)) (dp_bls _), (sh_list (can_bls _).1 (can_bls _).2).1, (sh_list (can_bls _).1 (can_bls _).2).1, _, rfl, ?_⟩
        rw [show PyData.eqv (.list (rs.map PyData.bool)) (.list (((List.replicate (rs.length / k) (rs.take k)).flatten).map PyData.bool)) = decide (rs = (List.replicate (rs.length / k) (rs.take k)).flatten) from eqv_bls _ _]
        have hper := rep_per (by omega) hk1 hd
        by_cases hp : PerF (led rs) k
        · rw [decide_eq_true (hper.mpr hp)]
          refine iteT ⟨_, rfl, s3, _, _, rfl, .inr ⟨k, rfl, hd, hp, fun d b1 b2 b3 b4 => by omega⟩⟩
        · rw [decide_eq_false (fun z => hp (hper.mp z))]
          refine iteF ?_
          exact ⟨s3, skip fun z => hp z.2⟩
      · rw [decide_eq_false (show ¬ ((rs.length : Nat) : Int) % (k : Int) = 0 from fun z => hd (Int.natCast_dvd_natCast.mp (Int.dvd_of_emod_eq_zero z)))]
        refine iteF ?_
        exact ⟨s1, skip fun z => hd z.1⟩
    · rintro σ H1 ⟨s1, y3, y4, rfl, hy⟩
      obtain ⟨pd, rfl, a1, a2, a3⟩ : ∃ pd : Nat, y4 = some (.int (pd : Int)) ∧ pd ∣ rs.length ∧ PerF (led rs) pd ∧ ∀ d, rs.length - rs.length < d → d ≤ rs.length → d ∣ rs.length → PerF (led rs) d → pd ≤ d := by
        rcases hy with ⟨e, _⟩ | h
        · omega
        · exact h
      have hm1 := hc.m1
      have hpd : pd = m := by
        have b1 := a3 m (by omega) (Nat.le_of_dvd (by omega) hc.dvd) hc.dvd hc.per
        have b2 := Nat.le_of_dvd (Nat.pos_of_dvd_of_pos a1 (by omega)) (hc.least pd a2)
        omega
      subst hpd
      refine ⟨_, rfl, rb, _, rfl, .inl (.inl (.inl (s1 _ _ h2))), ?_⟩
      rw [List.length_map]
      refine ⟨fun n σ H' => Same H H' ∧ ∃ y3 : Option V, σ = [some (.ref r), some (.ref rb), some (.ref rr), y3, some (.int (pd : Int)), some (.int (n : Int))] ∧ s ≤ n ∧ n ≤ bs.length, ⟨bs.length, s1, y3, rfl, hc.start.1, Nat.le_refl _⟩, fun n σ H2 hW => ?_⟩
      obtain ⟨s2, y3', rfl, hn1, hn2⟩ := hW
      refine ⟨_, rfl, _, _, rfl, rfl, _, rfl, ?_⟩
      have hpd1 : 1 ≤ pd := hc.m1
      have hpl : pd ≤ rs.length := Nat.le_of_dvd (by omega) hc.dvd
      have hB2 : SqL K H2 rb (bs.map V.bl) := .inl (.inl (s2 _ _ h2))
      have hR2 : SqL K H2 rr (rs.map V.bl) := s2.seq hR
      have ht : (((n : Nat) : Int) > 0 ∧ bs.getD (n - 1) false = led rs (n - 1)) ∨ n = s := by
        rcases Nat.lt_or_ge s n with z | z
        · exact .inl ⟨by omega, hc.start.2.1 (n - 1) (by omega) (by omega)⟩
        · exact .inr (by omega)
      have ret : n = s → ∃ v, [some (V.ref r), some (V.ref rb), some (V.ref rr), y3', some (V.int (pd : Int)), some (V.int (n : Int))][1]? = some (some v) ∧ True := fun _ => ⟨_, rfl, trivial⟩
      cases n with
      | zero =>
        refine iteF ?_
        have hs0 : s = 0 := by omega
        subst hs0
        refine ⟨_, rfl, _, rfl, _, rfl, rb, _, rfl, hB2, fun t1 ht1 => ?_⟩
        rw [cut_hi bs 0 (Nat.zero_le _)]
        have s3 := s2.trans (same_new (o := .lst ((bs.take 0).map V.bl)) ht1)
        have e3 : (upd H2 t1 (.lst ((bs.take 0).map V.bl))) t1 = some (.lst ((bs.take 0).map V.bl)) := upd_same
        generalize upd H2 t1 (.lst ((bs.take 0).map V.bl)) = H3 at s3 e3 ⊢
        refine ⟨t1, _, rfl, .inl ⟨.inl (.inl e3), fun t2 ht2 => ?_⟩⟩
        have s4 := s3.trans (same_new (o := .tup ((bs.take 0).map V.bl)) ht2)
        have e4 : (upd H3 t2 (.tup ((bs.take 0).map V.bl))) t2 = some (.tup ((bs.take 0).map V.bl)) := upd_same
        generalize upd H3 t2 (.tup ((bs.take 0).map V.bl)) = H4 at s4 e4 ⊢
        refine ⟨_, rfl, _, rfl, _, rfl, rr, _, rfl, s4.seq hR, fun t3 ht3 => ?_⟩
        rw [cut_hi rs pd hpl]
        have s5 := same_new (o := .lst ((rs.take pd).map V.bl)) ht3
        have e5 : (upd H4 t3 (.lst ((rs.take pd).map V.bl))) t3 = some (.lst ((rs.take pd).map V.bl)) := upd_same
        generalize upd H4 t3 (.lst ((rs.take pd).map V.bl)) = H5 at s5 e5 ⊢
        refine ⟨t3, _, rfl, .inl ⟨.inl (.inl e5), fun t4 ht4 => ?_⟩⟩
        have s6 := s5.trans (same_new (o := .tup ((rs.take pd).map V.bl)) ht4)
        have e6 : (upd H5 t4 (.tup ((rs.take pd).map V.bl))) t4 = some (.tup ((rs.take pd).map V.bl)) := upd_same
        generalize upd H5 t4 (.tup ((rs.take pd).map V.bl)) = H6 at s6 e6 ⊢
        refine ⟨by show 2 ≤ sizeLine; decide, fun t5 ht5 => ?_⟩
        have s7 := same_new (o := .tup [.ref t2, .ref t4]) ht5
        exact q t5 t2 t4 _ (s4.trans (s6.trans s7)) upd_same (s7 _ _ (s6 _ _ e4)) (s7 _ _ e6)
      | succ k =>
        rw [decide_eq_true (show (0 : Int) < ((k + 1 : Nat) : Int) by omega)]
        have ek : ((k + 1 : Nat) : Int) - 1 = (k : Int) := by omega
        have hk0 : k < bs.length := by omega
        refine iteT ⟨_, rfl, _, rfl, _, _, rfl, rfl, ?_⟩
        dsimp only
        rw [ek]
        refine ix_bls (.inl hB2) (by omega) (by omega) ⟨_, rfl, _, rfl, _, _, rfl, rfl, .inl ⟨_, rfl, _, rfl, _, _, rfl, rfl, by omega, ?_⟩⟩
        rw [ek]
        have em : ((k : Int) % (pd : Int)).toNat = k % pd := by rw [← Int.natCast_emod]; rfl
        have g0 := Int.emod_nonneg (k : Int) (show (pd : Int) ≠ 0 by omega)
        have g1 := Int.emod_lt_of_pos (k : Int) (show (0 : Int) < (pd : Int) by omega)
        refine ix_bls (.inl hR2) g0 (by omega) ⟨rfl, _, rfl, ?_⟩
        rw [em, led_mod hc.per hc.m1 hpl]
        have en : ((k : Nat) : Int).toNat = k := rfl
        rw [en]
        by_cases hx : bs.getD k false = led rs k
        · rw [decide_eq_true (congrArg V.bl hx)]
          have hsk : s ≤ k := by
            rcases Nat.lt_or_ge k s with z | z
            · rcases hc.start.2.2 with w | w
              · omega
              · have : s - 1 = k := by omega
                rw [this] at w
                exact absurd hx w
            · exact z
          refine iteT ⟨fun σ H' => Same H H' ∧ ∃ y3 : Option V, σ = [some (.ref r), some (.ref rb), some (.ref rr), y3, some (.int (pd : Int)), some (.int (k : Int))], fun σ' H' ⟨e1, y, e2⟩ => ⟨k, Nat.lt_succ_self k, e1, y, e2, hsk, by omega⟩, _, rfl, _, _, rfl, rfl, s2, y3', ?_⟩
          show [some (V.ref r), some (V.ref rb), some (V.ref rr), y3', some (V.int (pd : Int)), some (V.int (((k + 1 : Nat) : Int) - 1))] = _
          rw [ek]
        · rw [decide_eq_false (fun z => hx (by injection z))]
          have hsk : s = k + 1 := by
            rcases Nat.lt_or_ge k s with z | z
            · omega
            · exact absurd (hc.start.2.1 k z hk0) hx
          refine iteF ?_
          subst hsk
          refine ⟨_, rfl, _, rfl, _, rfl, rb, _, rfl, hB2, fun t1 ht1 => ?_⟩
          rw [cut_hi bs (k + 1) hn2]
          have s3 := s2.trans (same_new (o := .lst ((bs.take (k + 1)).map V.bl)) ht1)
          have e3 : (upd H2 t1 (.lst ((bs.take (k + 1)).map V.bl))) t1 = some (.lst ((bs.take (k + 1)).map V.bl)) := upd_same
          generalize upd H2 t1 (.lst ((bs.take (k + 1)).map V.bl)) = H3 at s3 e3 ⊢
          refine ⟨t1, _, rfl, .inl ⟨.inl (.inl e3), fun t2 ht2 => ?_⟩⟩
          have s4 := s3.trans (same_new (o := .tup ((bs.take (k + 1)).map V.bl)) ht2)
          have e4 : (upd H3 t2 (.tup ((bs.take (k + 1)).map V.bl))) t2 = some (.tup ((bs.take (k + 1)).map V.bl)) := upd_same
          generalize upd H3 t2 (.tup ((bs.take (k + 1)).map V.bl)) = H4 at s4 e4 ⊢
          refine ⟨_, rfl, _, rfl, _, rfl, rr, _, rfl, s4.seq hR, fun t3 ht3 => ?_⟩
          rw [cut_hi rs pd hpl]
          have s5 := same_new (o := .lst ((rs.take pd).map V.bl)) ht3
          have e5 : (upd H4 t3 (.lst ((rs.take pd).map V.bl))) t3 = some (.lst ((rs.take pd).map V.bl)) := upd_same
          generalize upd H4 t3 (.lst ((rs.take pd).map V.bl)) = H5 at s5 e5 ⊢
          refine ⟨t3, _, rfl, .inl ⟨.inl (.inl e5), fun t4 ht4 => ?_⟩⟩
          have s6 := s5.trans (same_new (o := .tup ((rs.take pd).map V.bl)) ht4)
          have e6 : (upd H5 t4 (.tup ((rs.take pd).map V.bl))) t4 = some (.tup ((rs.take pd).map V.bl)) := upd_same
          generalize upd H5 t4 (.tup ((rs.take pd).map V.bl)) = H6 at s6 e6 ⊢
          refine ⟨by show 2 ≤ sizeLine; decide, fun t5 ht5 => ?_⟩
          have s7 := same_new (o := .tup [.ref t2, .ref t4]) ht5
          exact q t5 t2 t4 _ (s4.trans (s6.trans s7)) upd_same (s7 _ _ (s6 _ _ e4)) (s7 _ _ e6)
end
end Ef
set_option Elab.async false
set_option linter.all false
set_option maxRecDepth 100000
set_option maxHeartbeats 4000000
namespace Ef
open PySem PySem.Spec PyProof.Rows L2
abbrev sOf : Stmt := inClass (top 20) 1
abbrev sSince : Stmt := inClass (top 20) 2
abbrev sRest : Stmt := inClass (top 20) 3
theorem same_inst {H : Hp} {x dx C : Addr} {fs : List (Str × V)} (nx : H x = none) (nd : H dx = none) : Same H (upd (upd H dx (.own x)) x (.ins C dx fs)) := fun b o e => by
  rw [upd_ne (ne_of_none e nx), upd_ne (ne_of_none e nd)]
  exact e
/-- the truths of the set of the given members -/
def ofL (ms : List Int) (k : Nat) : List Bool := (List.range k).map fun n : Nat => decide ((n : Int) ∈ ms)
theorem ofL_len (ms : List Int) (k : Nat) : (ofL ms k).length = k := by unfold ofL; rw [List.length_map, List.length_range]
theorem flat_rep (k : Nat) : (List.replicate k [V.bl false]).flatten = (List.replicate k false).map V.bl := by
  induction k with
  | zero => rfl
  | succ k ih => rw [List.replicate_succ, List.flatten_cons, ih, List.replicate_succ]; rfl
/-- one more than the greatest one -/
def SzOk (ms : List Int) (k : Nat) : Prop := (∀ m ∈ ms, m < k) ∧ (k = 0 ∨ ∃ m ∈ ms, (k : Int) = m + 1)
/-- no integer from low on -/
def NotFrom (K : PySem.W.Frag) (H : Hp) (v : V) (low : Int) : Prop := (∃ i, v = .int i ∧ ¬ low ≤ i) ∨ NotInt K H v
/-- the row of one rest -/
def onceR (m : Nat) (r : Int) : List Bool := (List.range m).map fun k : Nat => decide ((k : Int) = r)
/-- an error comes with one field -/
def Errs (H : Hp) (C : Addr) (fl : Str) (v : V) (E : XK) : Prop := ∀ d H', Same H H' → H d = none → H' d = some (.xd [(fl, v)]) → E (.ref C) (some d) H'
def Made (K : PySem.W.Frag) (C : Addr) (H : Hp) (bs rs : List Bool) (Q : VK) : Prop := ∀ p H' m s, H p = none → Same H H' → Canon bs rs m s → WAt K C H' p m s bs rs → Q (.ref p) H'
theorem Errs.mono {H H' : Hp} {C : Addr} {fl : Str} {v : V} {E : XK} (h : Errs H C fl v E) (s : Same H H') : Errs H' C fl v E := fun d H2 s2 hd hx => h d H2 (s.trans s2) (s.free hd) hx
section
variable {P : Program} {w : World} {K : PySem.W.Frag} {mg : Str → Option Value} {base : Heap}
/-! ### since -/
def spSince (K : PySem.W.Frag) (C CP CL : Addr) : Sp := fun vs H Q E => ∃ (v : V), vs = [.ref C, v] ∧ ((NotFrom K H v 0 ∧ Errs H CP "n" v E) ∨ (∃ k : Nat, v = .int (k : Int) ∧ ((10000 < k ∧ Errs H CL "most" (.int 10000) E) ∨ (k ≤ 10000 ∧ Made K C H (List.replicate k false) [true] Q))))
theorem scSince : FnScope ["cls", "low"] ["cls", "low"] (defScope sSince) := ⟨rfl, rfl, rfl, by decide +kernel, rfl, by decide +kernel, by decide +kernel⟩
theorem ok_since {f C CP CL fP fL fI : Addr} {fd fdP fdL fdI : FuncData} (F : Fun K "since" "Where.since" sSince f fd) (T : TxtI mg) (M : Mk K C fI) (FI : FnOk P w K mg base CX0 3 fI fdI ["self", "below", "rests"] (spInit K C)) (bI : Binds K fdI ["self", "below", "rests"] [])
    (EP : ErrF K mg "BadPlace" "n" CP fP) (FP : FnOk P w K mg base CX0 1 fP fdP ["self", "n"] (spErr K CP "n")) (bP : Binds K fdP ["self", "n"] []) (EL : ErrF K mg "TooLate" "most" CL fL) (FL : FnOk P w K mg base CX0 1 fL fdL ["self", "most"] (spErr K CL "most")) (bL : Binds K fdL ["self", "most"] [])
    (Disfrom : Df P w K mg base 2 "is_int_from" ["value", "low"] (spFrom K)) : FnOk P w K mg base (CX P w) 5 f fd ["cls", "low"] (spSince K C CP CL) := by
  refine F.okX scSince (fun vs H Q E h => ?_) (fun cdv A outer s H vs Q E hr h => ?_)
  · obtain ⟨v, rfl, _⟩ := h
    rfl
  · obtain ⟨v, rfl, q⟩ := h
    obtain ⟨tMS, eMS⟩ := T.MOST_START
    refine ⟨_, (pss_cons (ps_if (pt_not (pt_val (Disfrom.call (hr.mono (by decide)) (pa_cons (pv 1) (pa_cons pe_int pa_nil))))) (pss_one (ps_raise rfl (takes_of rfl rfl rfl rfl) (pmk_oex EP.oex EP.iC EP.tI FP (hr.mono (by decide)) bP .nil pass0 (by rfl) EP.mgC (pa_cons (pv 1) pa_nil)))) pss_nil)
      (pss_cons (ps_if (pt_cmpR op_gt (pv 1) (pe_glob (v := .int 10000) rfl eMS ⟨_, rfl⟩) (nomark _)) (pss_one (ps_raise rfl (takes_of rfl rfl rfl rfl) (pmk_oex EL.oex EL.iC EL.tI FL (hr.mono (by decide)) bL .nil pass0 (by rfl) EL.mgC (pa_cons (pe_glob (v := .int 10000) rfl eMS ⟨_, rfl⟩) pa_nil)))) pss_nil)
      (pss_one (ps_ret (pe_makeL (i := 0) M FI (hr.mono (by decide)) bI (pa_cons (pe_op op_rep (pe_lst (pa_cons pe_bl pa_nil)) (pv 1)) (pa_cons (pe_tup (pa_cons pe_bl pa_nil)) pa_nil))))))), ?_⟩
    rcases q with ⟨hN, q⟩ | ⟨k, rfl, q⟩
    · refine ⟨_, rfl, _, 0, rfl, ?_⟩
      rcases hN with ⟨i, rfl, hi⟩ | hN
      · refine .inl ⟨i, rfl, _, rfl, ?_⟩
        rw [decide_eq_false hi]
        refine iteT ⟨_, rfl, mk_err (v := .int i) (R := E) q⟩
      · refine .inr ⟨hN, _, rfl, ?_⟩
        refine iteT ⟨_, rfl, mk_err (v := v) (R := E) q⟩
    refine ⟨_, rfl, _, 0, rfl, .inl ⟨k, rfl, _, rfl, ?_⟩⟩
    rw [decide_eq_true (show (0 : Int) ≤ (k : Int) by omega)]
    refine iteF ?_
    refine ⟨_, rfl, _, _, rfl, rfl, _, rfl, ?_⟩
    rcases q with ⟨hk, q⟩ | ⟨hk, q⟩
    · rw [decide_eq_true (show (10000 : Int) < (k : Int) by omega)]
      exact iteT (mk_err (v := .int 10000) (R := E) q)
    rw [decide_eq_false (show ¬ (10000 : Int) < (k : Int) by omega)]
    refine iteF ⟨rfl, ?_⟩
    refine ⟨by show 1 ≤ sizeLine; decide, fun l0 hl0 => ?_⟩
    refine ⟨_, rfl, l0, k, _, rfl, rfl, upd_same, by omega, by omega, by show 1 * ((k : Int).toNat) ≤ sizeLine; exact Nat.le_trans (show 1 * ((k : Int).toNat) ≤ 100000 by omega) (by decide), fun l1 hl1 => ?_⟩
    have s1 : Same H (upd (upd H l0 (.lst [.bl false])) l1 (.lst ((List.replicate (k : Int).toNat [V.bl false]).flatten))) := (same_new hl0).trans (same_new hl1)
    have e1 : (upd (upd H l0 (.lst [.bl false])) l1 (.lst ((List.replicate (k : Int).toNat [V.bl false]).flatten))) l1 = some (.lst ((List.replicate k false).map V.bl)) := by
      rw [upd_same, ← flat_rep]; rfl
    generalize upd (upd H l0 (.lst [.bl false])) l1 (.lst ((List.replicate (k : Int).toNat [V.bl false]).flatten)) = H1 at s1 e1 ⊢
    refine ⟨by show 1 ≤ sizeLine; decide, fun t ht => ?_⟩
    have s2 := same_new (o := .tup [V.bl true]) ht
    have e2 : (upd H1 t (.tup [V.bl true])) t = some (.tup ([true].map V.bl)) := upd_same
    generalize upd H1 t (.tup [V.bl true]) = H2 at s2 e2 ⊢
    intro x dx nx ndx nex
    refine ⟨H2, x, dx, l1, t, List.replicate k false, [true], rfl, same_inst nx ndx, nx, upd_same, .inl (.inl (.inl (s2 _ _ e1))), .inr (.inl (.inl e2)), Nat.le_refl 1, by decide, by rw [List.length_replicate]; exact hk, fun m s H' hc sm hw => ⟨rfl, ?_⟩⟩
    exact q x H' m s ((s1.trans s2).free nx) ((s1.trans s2).trans sm) hc hw
/-! ### rest -/
def spRest (K : PySem.W.Frag) (C CN CF : Addr) : Sp := fun vs H Q E => ∃ (v u : V), vs = [.ref C, v, u] ∧ ((NotFrom K H v 1 ∧ Errs H CN "number" v E) ∨ (∃ m : Nat, v = .int (m : Int) ∧ 1 ≤ m ∧
  ((NotFrom K H u 0 ∧ Errs H CN "number" u E) ∨ (∃ r : Nat, u = .int (r : Int) ∧ ((m ≤ r ∧ Errs H CN "number" u E) ∨ (r < m ∧ ((720 < m ∧ Errs H CF "most" (.int 720) E) ∨ (m ≤ 720 ∧ Made K C H [] (onceR m r) Q))))))))
theorem scRest : FnScope ["cls", "m", "r", "k"] ["cls", "m", "r"] (defScope sRest) := ⟨rfl, rfl, rfl, by decide +kernel, rfl, by decide +kernel, by decide +kernel⟩
theorem ok_rest {f C CN CF fN fF fI : Addr} {fd fdN fdF fdI : FuncData} (F : Fun K "rest" "Where.rest" sRest f fd) (T : TxtI mg) (M : Mk K C fI) (FI : FnOk P w K mg base CX0 3 fI fdI ["self", "below", "rests"] (spInit K C)) (bI : Binds K fdI ["self", "below", "rests"] [])
    (EN : ErrF K mg "BadNumber" "number" CN fN) (FN : FnOk P w K mg base CX0 1 fN fdN ["self", "number"] (spErr K CN "number")) (bN : Binds K fdN ["self", "number"] []) (EF_ : ErrF K mg "TooFine" "most" CF fF) (FF : FnOk P w K mg base CX0 1 fF fdF ["self", "most"] (spErr K CF "most")) (bF : Binds K fdF ["self", "most"] [])
    (Disfrom : Df P w K mg base 2 "is_int_from" ["value", "low"] (spFrom K)) : FnOk P w K mg base (CX P w) 5 f fd ["cls", "m", "r"] (spRest K C CN CF) := by
  refine F.okX scRest (fun vs H Q E h => ?_) (fun cdv A outer s H vs Q E hr h => ?_)
  · obtain ⟨v, u, rfl, _⟩ := h
    rfl
  · obtain ⟨v, u, rfl, q⟩ := h
    obtain ⟨tMP, eMP⟩ := T.MOST_PERIOD
    refine ⟨_, (pss_cons (ps_if (pt_not (pt_val (Disfrom.call (hr.mono (by decide)) (pa_cons (pv 1) (pa_cons pe_int pa_nil))))) (pss_one (ps_raise rfl (takes_of rfl rfl rfl rfl) (pmk_oex EN.oex EN.iC EN.tI FN (hr.mono (by decide)) bN .nil pass0 (by rfl) EN.mgC (pa_cons (pv 1) pa_nil)))) pss_nil)
      (pss_cons (ps_if (pw_or (pt_not (pt_val (Disfrom.call (hr.mono (by decide)) (pa_cons (pv 2) (pa_cons pe_int pa_nil))))) (pw_or1 (pt_cmpR op_ge (pv 2) (pv 1) (nomark _)))).pt (pss_one (ps_raise rfl (takes_of rfl rfl rfl rfl) (pmk_oex EN.oex EN.iC EN.tI FN (hr.mono (by decide)) bN .nil pass0 (by rfl) EN.mgC (pa_cons (pv 2) pa_nil)))) pss_nil)
      (pss_cons (ps_if (pt_cmpR op_gt (pv 1) (pe_glob (v := .int 720) rfl eMP ⟨_, rfl⟩) (nomark _)) (pss_one (ps_raise rfl (takes_of rfl rfl rfl rfl) (pmk_oex EF_.oex EF_.iC EF_.tI FF (hr.mono (by decide)) bF .nil pass0 (by rfl) EF_.mgC (pa_cons (pe_glob (v := .int 720) rfl eMP ⟨_, rfl⟩) pa_nil)))) pss_nil)
      (pss_one (ps_ret (pe_makeL (i := 0) M FI (hr.mono (by decide)) bI (pa_cons (pe_tup pa_nil) (pa_cons (pe_lc (own := [("k", 3)]) (g := gName 3) (by rfl) scRest.nd (pi_range1 (by rfl) T.range (pa_cons (pv 1) pa_nil)) (blkOk_by (own := [("k", 3)]) (N := ["cls", "m", "r", "k"]) (sc := defScope sRest) (by decide +kernel)) (fun _ _ _ _ _ => pg_name (i := 3) scRest.nd rfl (Or.inl rfl)) (fun _ _ _ _ _ => pts_nil) (fun _ _ _ _ _ => (pe_cmpR op_eq (pv 3) (pv 2) (nomark _)))) pa_nil)))))))), ?_⟩
    rcases q with ⟨hN, q⟩ | ⟨m, rfl, hm1, q⟩
    · refine ⟨_, rfl, _, 1, rfl, ?_⟩
      rcases hN with ⟨i, rfl, hi⟩ | hN
      · refine .inl ⟨i, rfl, _, rfl, ?_⟩
        rw [decide_eq_false hi]
        refine iteT ⟨_, rfl, mk_err (v := .int i) (R := E) q⟩
      · refine .inr ⟨hN, _, rfl, ?_⟩
        refine iteT ⟨_, rfl, mk_err (v := v) (R := E) q⟩
    refine ⟨_, rfl, _, 1, rfl, .inl ⟨m, rfl, _, rfl, ?_⟩⟩
    rw [decide_eq_true (show (1 : Int) ≤ (m : Int) by omega)]
    refine iteF ?_
    rcases q with ⟨hN, q⟩ | ⟨r, rfl, q⟩
    · refine ⟨_, rfl, _, 0, rfl, ?_⟩
      rcases hN with ⟨i, rfl, hi⟩ | hN
      · refine .inl ⟨i, rfl, _, rfl, ?_⟩
        rw [decide_eq_false hi]
        refine iteT (iteT ⟨_, rfl, mk_err (v := .int i) (R := E) q⟩)
      · refine .inr ⟨hN, _, rfl, ?_⟩
        refine iteT (iteT ⟨_, rfl, mk_err (v := u) (R := E) q⟩)
    refine ⟨_, rfl, _, 0, rfl, .inl ⟨r, rfl, _, rfl, ?_⟩⟩
    rw [decide_eq_true (show (0 : Int) ≤ (r : Int) by omega)]
    refine iteF ⟨_, rfl, _, rfl, _, _, rfl, rfl, _, rfl, ?_⟩
    rcases q with ⟨hmr, q⟩ | ⟨hmr, q⟩
    · rw [decide_eq_true (show (m : Int) ≤ (r : Int) by omega)]
      exact iteT ⟨_, rfl, mk_err (v := .int (r : Int)) (R := E) q⟩
    rw [decide_eq_false (show ¬ (m : Int) ≤ (r : Int) by omega)]
    refine iteF ⟨_, rfl, _, _, rfl, rfl, _, rfl, ?_⟩
    rcases q with ⟨hm7, q⟩ | ⟨hm7, q⟩
    · rw [decide_eq_true (show (720 : Int) < (m : Int) by omega)]
      exact iteT (mk_err (v := .int 720) (R := E) q)
    rw [decide_eq_false (show ¬ (720 : Int) < (m : Int) by omega)]
    refine iteF ⟨rfl, ?_⟩
    refine ⟨by show 0 ≤ sizeLine; decide, fun t ht => ?_⟩
    have s1 := same_new (o := .tup []) ht
    have e1 : (upd H t (.tup [])) t = some (.tup (([] : List Bool).map V.bl)) := upd_same
    generalize upd H t (.tup []) = H1 at s1 e1 ⊢
    refine ⟨_, rfl, _, rfl, by omega, by omega, fun D hD => ?_⟩
    refine lc_range (lo := 0) (n := m) (fun i H' => Same H1 H' ∧ H' D = some (.lst (((List.range i).map fun k : Nat => decide ((k : Int) = (r : Int))).map V.bl))) ⟨same_new hD, upd_same⟩ ?_ ?_
    · rintro i H4 hi ⟨s4, hA⟩
      refine ⟨rfl, _, rfl, _, rfl, rfl, _, hA, by rw [List.length_map, List.length_map, List.length_range]; exact small1000' (by omega), same_mut s4 hD, ?_⟩
      rw [upd_same, List.range_succ, List.map_append, List.map_append, Int.zero_add, dint']
      rfl
    rintro H4 ⟨s4, hA⟩
    have hA : H4 D = some (.lst ((onceR m r).map V.bl)) := hA
    intro x dx nx ndx nex
    have hl : (onceR m r).length = m := by unfold onceR; rw [List.length_map, List.length_range]
    refine ⟨H4, x, dx, t, D, [], onceR m r, rfl, same_inst nx ndx, nx, upd_same, .inr (.inl (.inl (s4 _ _ e1))), .inl (.inl (.inl hA)), by omega, by omega, by decide, fun m' s H' hc sm hw => ⟨rfl, ?_⟩⟩
    exact q x H' m' s ((s1.trans s4).free nx) ((s1.trans s4).trans sm) hc hw
/-! ### of -/
theorem SzOk.nil : SzOk [] 0 := ⟨fun m h => (by cases h), .inl rfl⟩
theorem SzOk.keep {ms : List Int} {k : Nat} {m : Int} (h : SzOk ms k) (hm : m < k) : SzOk (ms ++ [m]) k :=
  ⟨fun x hx => (List.mem_append.mp hx).elim (h.1 x) fun z => by rw [List.mem_singleton.mp z]; exact hm, h.2.elim .inl fun ⟨x, hx, e⟩ => .inr ⟨x, List.mem_append.mpr (.inl hx), e⟩⟩
theorem SzOk.up {ms : List Int} {k : Nat} {m : Int} (h : SzOk ms k) (h0 : 0 ≤ m) (hm : (k : Int) ≤ m) : SzOk (ms ++ [m]) (m + 1).toNat :=
  ⟨fun x hx => (List.mem_append.mp hx).elim (fun z => by have := h.1 x z; omega) fun z => by rw [List.mem_singleton.mp z]; omega, .inr ⟨m, List.mem_append.mpr (.inr (List.mem_singleton.mpr rfl)), by omega⟩⟩
def spOf (K : PySem.W.Frag) (C CP CL : Addr) : Sp := fun vs H Q E => ∃ (a : Addr) (ms : List Int) (rest : List V), vs = [.ref C, .ref a] ∧ SqL K H a (ms.map V.int ++ rest) ∧ (∀ m ∈ ms, 0 ≤ m) ∧
  ((∃ v ys, rest = v :: ys ∧ NotFrom K H v 0 ∧ Errs H CP "n" v E) ∨ (rest = [] ∧ ∀ k : Nat, SzOk ms k → ((10000 < k ∧ Errs H CL "most" (.int 10000) E) ∨ (k ≤ 10000 ∧ Made K C H (ofL ms k) [false] Q))))
theorem scOf : FnScope ["cls", "members", "size", "member", "below"] ["cls", "members"] (defScope sOf) := ⟨rfl, rfl, rfl, by decide +kernel, rfl, by decide +kernel, by decide +kernel⟩
theorem ok_of {f C CP CL fP fL fI : Addr} {fd fdP fdL fdI : FuncData} (F : Fun K "of" "Where.of" sOf f fd) (T : TxtI mg) (M : Mk K C fI) (FI : FnOk P w K mg base CX0 3 fI fdI ["self", "below", "rests"] (spInit K C)) (bI : Binds K fdI ["self", "below", "rests"] [])
    (EP : ErrF K mg "BadPlace" "n" CP fP) (FP : FnOk P w K mg base CX0 1 fP fdP ["self", "n"] (spErr K CP "n")) (bP : Binds K fdP ["self", "n"] []) (EL : ErrF K mg "TooLate" "most" CL fL) (FL : FnOk P w K mg base CX0 1 fL fdL ["self", "most"] (spErr K CL "most")) (bL : Binds K fdL ["self", "most"] [])
    (Disfrom : Df P w K mg base 2 "is_int_from" ["value", "low"] (spFrom K)) : FnOk P w K mg base (CX P w) 5 f fd ["cls", "members"] (spOf K C CP CL) := by
  refine F.okX scOf (fun vs H Q E h => ?_) (fun cdv A outer s H vs Q E hr h => ?_)
  · obtain ⟨a, ms, rest, rfl, _⟩ := h
    rfl
  · obtain ⟨a, ms, rest, rfl, hS, hms, q⟩ := h
    obtain ⟨tMS, eMS⟩ := T.MOST_START
    refine ⟨_, (pss_cons (ps_set (i := 2) scOf.nd rfl (.inl rfl) pe_int)
      (pss_cons (ps_for (passes_of rfl) rfl (pi_list (pv 1)) (pg_name (i := 3) scOf.nd rfl (.inl rfl))
      (pss_cons (ps_if (pt_not (pt_val (Disfrom.call (hr.mono (by decide)) (pa_cons (pv 3) (pa_cons pe_int pa_nil))))) (pss_one (ps_raise rfl (takes_of rfl rfl rfl rfl) (pmk_oex EP.oex EP.iC EP.tI FP (hr.mono (by decide)) bP .nil pass0 (by rfl) EP.mgC (pa_cons (pv 3) pa_nil)))) pss_nil)
      (pss_one (ps_if (pt_cmpR op_ge (pv 3) (pv 2) (nomark _)) (pss_one (ps_set (i := 2) scOf.nd rfl (.inl rfl) (pe_op op_add (pv 3) pe_int))) pss_nil))))
      (pss_cons (ps_if (pt_cmpR op_gt (pv 2) (pe_glob (v := .int 10000) rfl eMS ⟨_, rfl⟩) (nomark _)) (pss_one (ps_raise rfl (takes_of rfl rfl rfl rfl) (pmk_oex EL.oex EL.iC EL.tI FL (hr.mono (by decide)) bL .nil pass0 (by rfl) EL.mgC (pa_cons (pe_glob (v := .int 10000) rfl eMS ⟨_, rfl⟩) pa_nil)))) pss_nil)
      (pss_cons (ps_set (i := 4) scOf.nd rfl (.inl rfl) (pe_op op_rep (pe_lst (pa_cons pe_bl pa_nil)) (pv 2)))
      (pss_cons (ps_for (passes_of rfl) rfl (pi_list (pv 1)) (pg_name (i := 3) scOf.nd rfl (.inl rfl))
      (pss_one (ps_asg pe_bl (pg_sub (pv 4) (pv 3) set_list))))
      (pss_one (ps_ret (pe_makeL (i := 0) M FI (hr.mono (by decide)) bI (pa_cons (pv 4) (pa_cons (pe_tup (pa_cons pe_bl pa_nil)) pa_nil)))))))))), ?_⟩
    refine ⟨_, rfl, a, rfl, ⟨_, hS⟩, for_list (K := K) (a := a) (xs := ms.map V.int ++ rest) (fun i σ H' => H' = H ∧ ∃ (k : Nat) (y : Option V), σ = [some (.ref C), some (.ref a), some (.int k), y, none] ∧ i ≤ ms.length ∧ SzOk (ms.take i) k)
      ⟨rfl, 0, none, rfl, Nat.zero_le _, SzOk.nil⟩ (fun i σ H' _ ⟨e, _⟩ => e ▸ hS) ?_ ?_⟩
    · rintro i x σ H' hi ⟨rfl, k, y, rfl, hil, hsz⟩
      rcases Nat.lt_or_ge i ms.length with z | z
      · rw [List.getElem?_append_left (by rw [List.length_map]; exact z), List.getElem?_map] at hi
        obtain ⟨m, hm, rfl⟩ := Option.map_eq_some_iff.mp hi
        have m0 := hms m (List.mem_of_getElem? hm)
        have et : ms.take (i + 1) = ms.take i ++ [m] := by rw [List.take_succ, hm]; rfl
        refine ⟨_, rfl, _, 0, rfl, .inl ⟨m, rfl, _, rfl, ?_⟩⟩
        rw [decide_eq_true m0]
        refine iteF ⟨_, rfl, _, rfl, _, _, rfl, rfl, _, rfl, ?_⟩
        refine ite2 (fun hc => ?_) (fun hc => ?_)
        · have hc' := of_decide_eq_true hc
          refine ⟨_, rfl, _, _, rfl, rfl, rfl, (m + 1).toNat, some (.int m), ?_, z, ?_⟩
          · show [some (V.ref C), some (V.ref a), some (V.int (m + 1)), some (V.int m), none] = _
            rw [Int.toNat_of_nonneg (show 0 ≤ m + 1 by omega)]
          · rw [et]
            exact hsz.up m0 hc'
        · refine ⟨rfl, k, _, rfl, z, ?_⟩
          rw [et]
          exact hsz.keep (by have : ¬ (k : Int) ≤ m := fun z => hc (decide_eq_true z); omega)
      · have ei : i = ms.length := by omega
        rcases q with ⟨v, ys, rfl, hN, q⟩ | ⟨rfl, _⟩
        · rw [ei, List.getElem?_append_right (by rw [List.length_map]; exact Nat.le_refl _), List.length_map, Nat.sub_self] at hi
          injection hi with hi
          subst hi
          refine ⟨_, rfl, _, 0, rfl, ?_⟩
          rcases hN with ⟨j, rfl, hj⟩ | hN
          · refine .inl ⟨j, rfl, _, rfl, ?_⟩
            rw [decide_eq_false hj]
            exact iteT ⟨_, rfl, mk_err (v := .int j) (R := E) q⟩
          · refine .inr ⟨hN, _, rfl, ?_⟩
            exact iteT ⟨_, rfl, mk_err (v := v) (R := E) q⟩
        · rw [List.append_nil, List.getElem?_eq_none (by rw [List.length_map]; omega)] at hi
          cases hi
    · rintro σ H' ⟨rfl, k, y, rfl, hil, hsz⟩
      rcases q with ⟨v, ys, rfl, _, _⟩ | ⟨rfl, q⟩
      · rw [List.length_append, List.length_map, List.length_cons] at hil
        omega
      rw [List.append_nil] at hS hsz
      rw [List.length_map, List.take_length] at hsz
      have hlt := hsz.1
      refine ⟨_, rfl, _, _, rfl, rfl, _, rfl, ?_⟩
      rcases q k hsz with ⟨hk, q⟩ | ⟨hk, q⟩
      · rw [decide_eq_true (show (10000 : Int) < (k : Int) by omega)]
        exact iteT (mk_err (v := .int 10000) (R := E) q)
      rw [decide_eq_false (show ¬ (10000 : Int) < (k : Int) by omega)]
      refine iteF ⟨by show 1 ≤ sizeLine; decide, fun l0 hl0 => ?_⟩
      refine ⟨_, rfl, l0, k, _, rfl, rfl, upd_same, by omega, by omega, by show 1 * ((k : Int).toNat) ≤ sizeLine; exact Nat.le_trans (show 1 * ((k : Int).toNat) ≤ 100000 by omega) (by decide), fun l1 hl1 => ?_⟩
      have s0 : Same H' (upd H' l0 (.lst [.bl false])) := same_new hl0
      have s1 : Same H' (upd (upd H' l0 (.lst [.bl false])) l1 (.lst ((List.replicate (k : Int).toNat [V.bl false]).flatten))) := s0.trans (same_new hl1)
      have nl1 : H' l1 = none := s0.free hl1
      have e1 : (upd (upd H' l0 (.lst [.bl false])) l1 (.lst ((List.replicate (k : Int).toNat [V.bl false]).flatten))) l1 = some (.lst ((ofL [] k).map V.bl)) := by
        rw [upd_same]
        have : ofL [] k = List.replicate k false := by
          unfold ofL
          refine List.ext_getElem (by simp) fun i h1 h2 => ?_
          simp
        rw [this, ← flat_rep]; rfl
      generalize upd (upd H' l0 (.lst [.bl false])) l1 (.lst ((List.replicate (k : Int).toNat [V.bl false]).flatten)) = H1 at s1 e1 ⊢
      refine ⟨_, rfl, a, rfl, ⟨_, s1.seq hS⟩, for_list (K := K) (a := a) (xs := ms.map V.int) (fun i σ H2 => Same H' H2 ∧ H2 l1 = some (.lst ((ofL (ms.take i) k).map V.bl)) ∧ ∃ (y : Option V), σ = [some (.ref C), some (.ref a), some (.int k), y, some (.ref l1)])
        ⟨s1, e1, y, rfl⟩ (fun i σ H2 _ ⟨e, _⟩ => e.seq hS) ?_ ?_⟩
      · rintro i x σ H2 hi ⟨s2, e2, y, rfl⟩
        rw [List.getElem?_map] at hi
        obtain ⟨m, hm, rfl⟩ := Option.map_eq_some_iff.mp hi
        have m0 := hms m (List.mem_of_getElem? hm)
        have mk := hlt m (List.mem_of_getElem? hm)
        have hlen : (ofL (ms.take i) k).length = k := ofL_len _ _
        refine ⟨_, rfl, _, rfl, l1, _, _, m.toNat, rfl, rfl, e2, ?_, same_mut s2 nl1, ?_, _, rfl⟩
        · unfold ixN
          rw [if_pos m0, if_pos (by rw [List.length_map, hlen]; omega)]
        · rw [upd_same, ← List.map_set]
          congr 3
          unfold ofL
          refine List.ext_getElem (by simp) fun j h1 h2 => ?_
          rw [List.getElem_set]
          simp only [List.getElem_map, List.getElem_range]
          rw [List.take_succ, hm]
          have hjm : (m.toNat = j) ↔ ((j : Int) = m) := by omega
          by_cases hj : m.toNat = j
          · rw [if_pos hj]
            simp [hjm.mp hj]
          · rw [if_neg hj]
            have : ¬ ((j : Int) = m) := fun z => hj (hjm.mpr z)
            simp [this]
      · rintro σ H2 ⟨s2, e2, y, rfl⟩
        rw [List.length_map, List.take_length] at e2
        refine ⟨rfl, _, rfl, by show 1 ≤ sizeLine; decide, fun t ht => ?_⟩
        have s3 := same_new (o := .tup [V.bl false]) ht
        have e3 : (upd H2 t (.tup [V.bl false])) t = some (.tup ([false].map V.bl)) := upd_same
        generalize upd H2 t (.tup [V.bl false]) = H3 at s3 e3 ⊢
        intro x dx nx ndx nex
        refine ⟨H3, x, dx, l1, t, ofL ms k, [false], rfl, same_inst nx ndx, nx, upd_same, .inl (.inl (.inl (s3 _ _ e2))), .inr (.inl (.inl e3)), Nat.le_refl 1, by decide, by rw [ofL_len]; exact hk, fun m s H' hc sm hw => ⟨rfl, ?_⟩⟩
        exact q x H' m s ((s2.trans s3).free nx) ((s2.trans s3).trans sm) hc hw
end
end Ef
set_option Elab.async false
set_option linter.all false
set_option maxRecDepth 100000
set_option maxHeartbeats 4000000
namespace Ef
open PySem PySem.Spec PyProof.Rows L2
/-- the truth at n of the set told by bs and rs -/
def ftr (bs rs : List Bool) (n : Nat) : Bool := if n < bs.length then bs.getD n false else led rs n
theorem mtruth_ftr (bs rs : List Bool) (n : Nat) : mtruth bs rs (n : Int) = ftr bs rs n := by
  unfold mtruth ftr led
  by_cases h : n < bs.length
  · rw [if_pos h, if_pos (by omega)]; rfl
  · rw [if_neg h, if_neg (by omega), ← Int.natCast_emod]; rfl
theorem led_take {rs : List Bool} {m : Nat} (hp : PerF (led rs) m) (h1 : 1 ≤ m) (hl : m ≤ rs.length) (n : Nat) : led (rs.take m) n = led rs n := by
  rw [← led_mod hp h1 hl]
  unfold led
  rw [List.length_take, Nat.min_eq_left hl, List.getD_eq_getElem?_getD, List.getElem?_take_of_lt (Nat.mod_lt _ h1), ← List.getD_eq_getElem?_getD]
theorem led_of_ftr {bs rs bs' rs' : List Bool} (hr : 1 ≤ rs.length) (hr' : 1 ≤ rs'.length) (h : ∀ n, ftr bs rs n = ftr bs' rs' n) (n : Nat) : led rs n = led rs' n := by
  have hB : bs.length + bs'.length ≤ rs.length * (rs'.length * (bs.length + bs'.length)) := Nat.le_trans (Nat.le_mul_of_pos_left _ hr') (Nat.le_mul_of_pos_left _ hr)
  have hk := h (n + rs.length * (rs'.length * (bs.length + bs'.length)))
  unfold ftr at hk
  rw [if_neg (by omega), if_neg (by omega), (led_self rs).mul _ n] at hk
  rw [hk, Nat.mul_left_comm, (led_self rs').mul _ n]
theorem Canon.tail {bs rs : List Bool} {m s n : Nat} (h : Canon bs rs m s) (hn : s ≤ n) : ftr bs rs n = led rs n := by
  unfold ftr
  split
  · exact h.start.2.1 n hn ‹_›
  · rfl
theorem Canon.edge {bs rs : List Bool} {m s : Nat} (h : Canon bs rs m s) (hs : 0 < s) : ftr bs rs (s - 1) ≠ led rs (s - 1) := by
  have h1 := h.start.1
  unfold ftr
  rw [if_pos (by omega)]
  rcases h.start.2.2 with z | z
  · omega
  · exact z
theorem Canon.ml {bs rs : List Bool} {m s : Nat} (hr : 1 ≤ rs.length) (h : Canon bs rs m s) : m ≤ rs.length := Nat.le_of_dvd (by omega) h.dvd
theorem get_ftr {bs rs : List Bool} {i : Nat} (h : i < bs.length) : bs[i]? = some (ftr bs rs i) := by
  unfold ftr
  rw [if_pos h, List.getD_eq_getElem?_getD, List.getElem?_eq_getElem h]
  rfl
theorem StartOk.uniq {bs rs : List Bool} {s s' : Nat} (h : StartOk bs rs s) (h' : StartOk bs rs s') : s = s' := by
  obtain ⟨a1, a2, a3⟩ := h
  obtain ⟨b1, b2, b3⟩ := h'
  rcases Nat.lt_trichotomy s s' with z | z | z
  · rcases b3 with w | w
    · omega
    · exact absurd (a2 (s' - 1) (by omega) (by omega)) w
  · exact z
  · rcases a3 with w | w
    · omega
    · exact absurd (b2 (s - 1) (by omega) (by omega)) w
/-- the least data of one set are alike -/
theorem canon_ext {bs rs bs' rs' : List Bool} {m s m' s' : Nat} (hr : 1 ≤ rs.length) (hr' : 1 ≤ rs'.length) (hc : Canon bs rs m s) (hc' : Canon bs' rs' m' s') (h : ∀ n, ftr bs rs n = ftr bs' rs' n) : m = m' ∧ s = s' ∧ rs.take m = rs'.take m' ∧ bs.take s = bs'.take s' := by
  have hl := led_of_ftr hr hr' h
  have he : led rs = led rs' := funext hl
  have hm : m = m' := Nat.dvd_antisymm (hc.least m' (by rw [he]; exact hc'.per)) (hc'.least m (by rw [← he]; exact hc.per))
  subst hm
  have hs : s = s' := by
    rcases Nat.lt_trichotomy s s' with z | z | z
    · refine absurd ?_ (hc'.edge (by omega))
      rw [← h, hc.tail (by omega), hl]
    · exact z
    · refine absurd ?_ (hc.edge (by omega))
      rw [h, hc'.tail (by omega), hl]
  subst hs
  have a1 := hc.ml hr
  have a2 := hc'.ml hr'
  have b1 := hc.start.1
  have b2 := hc'.start.1
  refine ⟨rfl, rfl, List.ext_getElem? fun i => ?_, List.ext_getElem? fun i => ?_⟩
  · rcases Nat.lt_or_ge i m with z | z
    · rw [List.getElem?_take_of_lt z, List.getElem?_take_of_lt z, led_lt (by omega), led_lt (by omega), hl]
    · rw [List.getElem?_eq_none (by rw [List.length_take]; omega), List.getElem?_eq_none (by rw [List.length_take]; omega)]
  · rcases Nat.lt_or_ge i s with z | z
    · rw [List.getElem?_take_of_lt z, List.getElem?_take_of_lt z, get_ftr (rs := rs) (by omega), get_ftr (rs := rs') (by omega), h]
    · rw [List.getElem?_eq_none (by rw [List.length_take]; omega), List.getElem?_eq_none (by rw [List.length_take]; omega)]
/-- like data tell one set -/
theorem canon_fn {bs rs bs' rs' : List Bool} {m s m' s' : Nat} (hr : 1 ≤ rs.length) (hr' : 1 ≤ rs'.length) (hc : Canon bs rs m s) (hc' : Canon bs' rs' m' s') (e1 : rs.take m = rs'.take m') (e2 : bs.take s = bs'.take s') (n : Nat) : ftr bs rs n = ftr bs' rs' n := by
  have a1 := hc.ml hr
  have a2 := hc'.ml hr'
  have b1 := hc.start.1
  have b2 := hc'.start.1
  have hm : m = m' := by
    have := congrArg List.length e1
    rw [List.length_take, List.length_take] at this
    omega
  have hs : s = s' := by
    have := congrArg List.length e2
    rw [List.length_take, List.length_take] at this
    omega
  subst hm
  subst hs
  rcases Nat.lt_or_ge n s with z | z
  · have := congrArg (fun l => l[n]?) e2
    rw [List.getElem?_take_of_lt z, List.getElem?_take_of_lt z, get_ftr (rs := rs) (by omega), get_ftr (rs := rs') (by omega)] at this
    exact Option.some.inj this
  · rw [hc.tail z, hc'.tail z, ← led_take hc.per hc.m1 a1, ← led_take hc'.per hc'.m1 a2, e1]
/-- more rounds tell the same -/
theorem led_rep {rs : List Bool} (hr : 1 ≤ rs.length) {k : Nat} (hk : 1 ≤ k) (n : Nat) : led (List.replicate k rs).flatten n = led rs n := by
  have hlt : n % (rs.length * k) < rs.length * k := Nat.mod_lt _ (Nat.mul_pos hr hk)
  show (List.replicate k rs).flatten.getD (n % (List.replicate k rs).flatten.length) false = rs.getD (n % rs.length) false
  rw [rep_len, List.getD_eq_getElem?_getD, rep_get rs hr k _ hlt, Nat.mod_mul_right_mod, ← List.getD_eq_getElem?_getD]
end Ef
set_option Elab.async false
set_option linter.all false
set_option maxRecDepth 100000
set_option maxHeartbeats 4000000
namespace Ef
open PySem PySem.Spec PyProof.Rows L2
abbrev sIsw : Stmt := top 31
theorem lk_ne {f g : Str} {v : V} {fs : List (Str × V)} (h : ¬ g = f) : (putF f v fs).lookup g = fs.lookup g := by rw [lookup_putF, if_neg h]
theorem lk_eq {f : Str} {v : V} {fs : List (Str × V)} : (putF f v fs).lookup f = some v := by rw [lookup_putF, if_pos rfl]
section
variable {m s : Int} {ra ba ea la : Addr}
theorem wf_late : (wf m s ra ba ea la).lookup ("_late" : Str) = some (.ref la) := lk_eq
theorem wf_early : (wf m s ra ba ea la).lookup ("_early" : Str) = some (.ref ea) := (lk_ne (by decide +kernel)).trans lk_eq
theorem wf_below : (wf m s ra ba ea la).lookup ("below" : Str) = some (.ref ba) := (lk_ne (by decide +kernel)).trans ((lk_ne (by decide +kernel)).trans lk_eq)
theorem wf_rests : (wf m s ra ba ea la).lookup ("rests" : Str) = some (.ref ra) := (lk_ne (by decide +kernel)).trans ((lk_ne (by decide +kernel)).trans ((lk_ne (by decide +kernel)).trans lk_eq))
theorem wf_start : (wf m s ra ba ea la).lookup ("start" : Str) = some (.int s) := (lk_ne (by decide +kernel)).trans ((lk_ne (by decide +kernel)).trans ((lk_ne (by decide +kernel)).trans ((lk_ne (by decide +kernel)).trans lk_eq)))
theorem wf_period : (wf m s ra ba ea la).lookup ("period" : Str) = some (.int m) :=
  (lk_ne (by decide +kernel)).trans ((lk_ne (by decide +kernel)).trans ((lk_ne (by decide +kernel)).trans ((lk_ne (by decide +kernel)).trans ((lk_ne (by decide +kernel)).trans lk_eq))))
end
/-- what the operators ask of the class -/
structure ClsQ (K : PySem.W.Frag) (mg : Str → Option Value) (C : Addr) : Prop extends ClsW K mg C where
  cc : PySem.W.findIn K (.ref C) "__class__" = some (some (.builtin "object.__class__"))
  cg : PySem.W.specialIn K (.builtin "object.__class__") "__get__" = some (some (.builtin "getset_descriptor.__get__"))
  ct : PySem.W.takesIn K (.builtin "object.__class__") = some true
  co : PySem.W.mroIn K C (.type "object") = some true
  sl : PySem.W.subIn K (.type "list") (.ref C) = some false ∧ PySem.W.subIn K (.type "tuple") (.ref C) = some false
section
variable {P : Program} {w : World} {K : PySem.W.Frag} {mg : Str → Option Value} {base : Heap}
theorem eqv_ints : ∀ as bs : List Int, PyData.eqvAll (as.map PyData.int) (bs.map PyData.int) = decide (as = bs)
  | [], [] => rfl
  | [], _ :: _ => rfl
  | _ :: _, [] => rfl
  | a :: as, b :: bs => by
    show (PyData.eqv (.int a) (.int b) && PyData.eqvAll (as.map PyData.int) (bs.map PyData.int)) = _
    rw [eqv_ints as bs]
    show (decide (a = b) && decide (as = bs)) = decide (a :: as = b :: bs)
    by_cases h1 : a = b <;> by_cases h2 : as = bs <;> simp [h1, h2]
/-- where has the least data of the model -/
def spIsw (K : PySem.W.Frag) (C : Addr) : Sp := fun vs H Q _ => ∃ (p r : Addr) (m s : Nat) (bs rs bs' rs' : List Bool), vs = [.ref p, .ref r] ∧ WAt K C H p m s bs' rs' ∧ Md H r bs rs ∧ 1 ≤ rs.length ∧ rs.length ≤ 720 ∧ bs.length ≤ 10000 ∧ Canon bs rs m s ∧
  bs'.take s = bs.take s ∧ rs'.take m = rs.take m ∧ ∀ H', Same H H' → Q (.bl true) H'
theorem scIsw : FnScope ["where", "model", "below", "rests"] ["where", "model"] (defScope sIsw) := ⟨rfl, rfl, rfl, by decide +kernel, rfl, by decide +kernel, by decide +kernel⟩
theorem df_isw {C : Addr} (A : At K mg "_law_is_where" sIsw) (T : TxtW mg) (CW : ClsQ K mg C) (Dleast : Df P w K mg base 1 "_law_least_model" ["model"] spLeast) : Df P w K mg base 2 "_law_is_where" ["where", "model"] (spIsw K C) := by
  obtain ⟨f, fd, hm, F⟩ := A.ex
  refine ⟨f, fd, hm, F.kp, F.binds (fun _ _ _ _ _ _ us hl => match us, hl with | [_, _], _ => rfl), F.ok scIsw (fun vs H Q E h => ?_) (fun cdv A outer s H vs Q E hr h => ?_)⟩
  · obtain ⟨p, r, m, s, bs, rs, bs', rs', rfl, _⟩ := h
    rfl
  · obtain ⟨p, r, m, st, bs, rs, bs', rs', rfl, hW, hM, hr1, hr2, hb2, hc, eb, er, q⟩ := h
    have a1 := hc.ml hr1
    have b1 := hc.start.1
    refine ⟨_, (pss_cons (ps_asg (Dleast.call (hr.mono (by decide)) (pa_cons (pv 1) pa_nil)) (pg_tup (by rfl) (pgs_cons (pg_name (i := 2) scIsw.nd rfl (.inl rfl)) (pgs_cons (pg_name (i := 3) scIsw.nd rfl (.inl rfl)) pgs_nil))))
      (pss_cons (ps_if (pw_or (pt_not (pt_val (pe_callB call_isi (by rfl) T.isinstance (by decide +kernel) (pa_cons (pv 0) (pa_cons (pe_glob (v := .ref C) (by rfl) CW.mgC rfl) pa_nil))))) (pw_or1 (pt_cmpR (op_neD hr.units) (pe_tup (pa_cons (pe_fld (pv 0) rfl) (pa_cons (pe_fld (pv 0) rfl) pa_nil))) (pe_tup (pa_cons (pe_callB call_len_seq (by rfl) T.len PySem.boot_len (pa_cons (pv 3) pa_nil)) (pa_cons (pe_callB call_len_seq (by rfl) T.len PySem.boot_len (pa_cons (pv 2) pa_nil)) pa_nil))) (nomark _)))).pt (pss_one (ps_ret pe_bl)) pss_nil)
      (pss_one (ps_ret (pe_and (pe_cmpR (op_eqD hr.units) (pe_fld (pv 0) rfl) (pv 2) (nomark _)) (pe_one (pe_cmpR (op_eqD hr.units) (pe_fld (pv 0) rfl) (pv 3) (nomark _)))))))), ?_⟩
    refine ⟨_, rfl, r, bs, rs, m, st, rfl, hM, hr1, hr2, hb2, hc, fun t tb tr H1 s1 ht htb htr => ?_⟩
    refine ⟨t, _, rfl, .inl (.inl ht), rfl, _, _, rfl, _, _, rfl, rfl, ?_⟩
    obtain ⟨dx, ra, ba, ea, la, h1, h2, h3, h4, h5⟩ := hW.same s1
    refine ⟨_, rfl, _, _, _, _, true, rfl, .own C, .base (.ins h1 CW.cl CW.cc CW.cg CW.ct CW.co), if_pos (by simp), ?_⟩
    refine ⟨_, rfl, iteF ?_⟩
    refine ⟨_, rfl, p, C, dx, _, _, rfl, h1, CW.cl, CW.nP, wf_period, _, rfl, p, C, dx, _, _, rfl, h1, CW.cl, CW.nS, wf_start, by show 2 ≤ sizeLine; decide, fun t1 ht1 => ?_⟩
    have s2 := s1.trans (same_new (o := .tup [.int (m : Int), .int (st : Int)]) ht1)
    have e2 : (upd H1 t1 (.tup [.int (m : Int), .int (st : Int)])) t1 = some (.tup ([(m : Int), (st : Int)].map V.int)) := upd_same
    have htb := same_new (o := .tup [.int (m : Int), .int (st : Int)]) ht1 _ _ htb
    have htr := same_new (o := .tup [.int (m : Int), .int (st : Int)]) ht1 _ _ htr
    generalize upd H1 t1 (.tup [.int (m : Int), .int (st : Int)]) = H2 at s2 e2 htb htr ⊢
    refine ⟨_, rfl, tr, _, rfl, .inr (.inl (.inl htr)), _, rfl, tb, _, rfl, .inr (.inl (.inl htb)), by show 2 ≤ sizeLine; decide, fun t2 ht2 => ?_⟩
    rw [List.length_map, List.length_map, List.length_take, List.length_take, Nat.min_eq_left a1, Nat.min_eq_left b1]
    have s3 := same_new (o := .tup [.int (m : Int), .int (st : Int)]) ht2
    have e3 : (upd H2 t2 (.tup [.int (m : Int), .int (st : Int)])) t2 = some (.tup ([(m : Int), (st : Int)].map V.int)) := upd_same
    have htb := s3 _ _ htb
    have htr := s3 _ _ htr
    have e2 := s3 _ _ e2
    have s4 := s2.trans s3
    generalize upd H2 t2 (.tup [.int (m : Int), .int (st : Int)]) = H3 at s4 e2 e3 htb htr ⊢
    refine ⟨_, _, .tup (.inl (.inl e2)) (dp_ints _), .tup (.inl (.inl e3)) (dp_ints _), (sh_list (can_ints _).1 (can_ints _).2).2, (sh_list (can_ints _).1 (can_ints _).2).2, _, rfl, ?_⟩
    rw [show PyData.eqv (.tuple ([(m : Int), (st : Int)].map PyData.int)) (.tuple ([(m : Int), (st : Int)].map PyData.int)) = true from (eqv_ints _ _).trans (decide_eq_true rfl)]
    refine iteF ?_
    obtain ⟨dx, ra, ba, ea, la, h1, h2, h3, h4, h5⟩ := hW.same s4
    refine ⟨_, rfl, p, C, dx, _, _, rfl, h1, CW.cl, CW.nB, wf_below, _, rfl, eq_blsT (t := true) h3 (.inl (.inl htb)) ?_⟩
    rw [eb, decide_eq_true rfl]
    refine ⟨_, rfl, iteT ?_⟩
    refine ⟨_, rfl, p, C, dx, _, _, rfl, h1, CW.cl, CW.nR, wf_rests, _, rfl, eq_blsT (t := true) h2 (.inl (.inl htr)) ?_⟩
    rw [er, decide_eq_true rfl]
    exact q _ s4
end
end Ef
set_option Elab.async false
set_option linter.all false
set_option maxRecDepth 100000
set_option maxHeartbeats 4000000
namespace Ef
open PySem PySem.Spec PyProof.Rows L2
abbrev sFault : Stmt := top 32
structure ErrM (K : PySem.W.Frag) (CP CN CF CL : Addr) : Prop where
  pp : PySem.W.exmOne K (.ref CP) (.ref CP) = some true
  np : PySem.W.exmOne K (.ref CN) (.ref CP) = some false
  fp : PySem.W.exmOne K (.ref CF) (.ref CP) = some false
  lp : PySem.W.exmOne K (.ref CL) (.ref CP) = some false
  nn : PySem.W.exmOne K (.ref CN) (.ref CN) = some true
  fn : PySem.W.exmOne K (.ref CF) (.ref CN) = some false
  ln : PySem.W.exmOne K (.ref CL) (.ref CN) = some false
  ff : PySem.W.exmOne K (.ref CF) (.ref CF) = some true
  lf : PySem.W.exmOne K (.ref CL) (.ref CF) = some false
  ll : PySem.W.exmOne K (.ref CL) (.ref CL) = some true
/-- what is told of one error -/
def E1 (C : Addr) (fl tag : Str) (Q : VK) : XK := fun cls d H' => cls = .ref C ∧ ∃ (v : V) (dd : Addr), d = some dd ∧ H' dd = some (.xd [(fl, v)]) ∧ ∀ t H2, Same H' H2 → H2 t = some (.tup [.str tag, v]) → Q (.ref t) H2
def EF (CP CN CF CL : Addr) (Q : VK) : XK := fun cls d H' => E1 CP "n" "place" Q cls d H' ∨ E1 CN "number" "number" Q cls d H' ∨ E1 CF "most" "fine" Q cls d H' ∨ E1 CL "most" "late" Q cls d H'
def TFault (CP CN CF CL : Addr) : (XK → Hp → VK → Prop) → Hp → VK → Prop := fun tl H Q => tl (EF CP CN CF CL Q) H fun _ H' => Q .non H'
theorem scFault : FnScope ["ask", "e"] ["ask"] (defScope sFault) := ⟨rfl, rfl, rfl, by decide +kernel, rfl, by decide +kernel, by decide +kernel⟩
theorem fault_gives {X : Cx} {g CP CN CF CL fP fN fF fL : Addr} {cdg : Value} {q : Str} (EP : ErrF X.K X.mg "BadPlace" "n" CP fP) (EN : ErrF X.K X.mg "BadNumber" "number" CN fN) (EFi : ErrF X.K X.mg "TooFine" "most" CF fF) (EL : ErrF X.K X.mg "TooLate" "most" CL fL) (EM : ErrM X.K CP CN CF CL) :
    LamX.GivesTo X ["ask", "e"] "_law_fault" (defScope sFault) g cdg (defBody sFault) "ask" q (TFault CP CN CF CL) := by
  intro f c' s H Q tl act hc h
  refine ⟨_, (pss_cons (ps_try_asL (tb := fun W D σ H1 => ∃ Ech : XK, (∀ (cls : Value) (d : Option Addr) (σ' : L2.St) (H' : Hp), σ'.length = 2 → Ech cls d H' → W cls d σ' H') ∧ σ[0]? = some (some (.ref f)) ∧ H1 c' = some (LamX.CodeO c' q) ∧ tl Ech H1 fun _ H2 => D.nx σ H2) rfl rfl scFault.nd takes0
      (fun W pn xe tk _ => ⟨fun pins s' σ H' D I h' => ?_⟩)
      (.cons (i := 1) rfl rfl ⟨rfl, by decide, .inl EP.mgC⟩ (fun a oe cls d pn hz hf => pss_one (ps_ret (pe_tup (pa_cons pe_str (pa_cons (pe_xf EP.xf EP.nN hz hf (pv 1)) pa_nil)))))
      (.cons (i := 1) rfl rfl ⟨rfl, by decide, .inl EN.mgC⟩ (fun a oe cls d pn hz hf => pss_one (ps_ret (pe_tup (pa_cons pe_str (pa_cons (pe_xf EN.xf EN.nN hz hf (pv 1)) pa_nil)))))
      (.cons (i := 1) rfl rfl ⟨rfl, by decide, .inl EFi.mgC⟩ (fun a oe cls d pn hz hf => pss_one (ps_ret (pe_tup (pa_cons pe_str (pa_cons (pe_xf EFi.xf EFi.nN hz hf (pv 1)) pa_nil)))))
      (.cons (i := 1) rfl rfl ⟨rfl, by decide, .inl EL.mgC⟩ (fun a oe cls d pn hz hf => pss_one (ps_ret (pe_tup (pa_cons pe_str (pa_cons (pe_xf EL.xf EL.nN hz hf (pv 1)) pa_nil)))))
      .nil)))))
      (pss_one (ps_ret pe_non))), ?_⟩
  · obtain ⟨Ech, hW, h1, h2, h3⟩ := h'
    have tk' : Takes ((cxOf C8.CX0 X.prog X.w X.K X.mg X.base ["ask", "e"] "_law_fault" (defScope sFault) g cdg X.A X.stack s H C8.E0).tr pn xe) (fun cls d σ' H' => σ'.length = 2 → W cls d σ' H') := by
      intro u s2 hx
      obtain ⟨a, B, sI, pins', σ', H2, cls, d, e1, J, nb, up, sky, na, os, ag, hw⟩ := hx
      exact tk u s2 ⟨a, B, sI, pins', σ', H2, cls, d, e1, J, nb, up, sky, na, os, ag, hw J.len⟩
    exact (pss_one (ps_expr (act _ pn xe Ech _ _ tk' fun cls d σ' H' hE hl => hW cls d σ' H' hl hE))).run pins s' σ H' D I ⟨h1, h2, h3⟩
  · refine ⟨EF CP CN CF CL Q, fun cls d σ' H' hlen hE => ?_, rfl, hc, h⟩
    match σ', hlen with
    | [z0, z1], _ =>
      have fin : ∀ {v : V} {dd : Addr} {tag fl : Str}, H' dd = some (.xd [(fl, v)]) → (∀ t H2, Same H' H2 → H2 t = some (.tup [.str tag, v]) → Q (.ref t) H2) → ∀ t, H' t = none → Q (.ref t) (upd H' t (.tup [.str tag, v])) := fun hx q t ht => q t _ (same_new ht) upd_same
      rcases hE with ⟨rfl, v, dd, rfl, hx, q⟩ | ⟨rfl, v, dd, rfl, hx, q⟩ | ⟨rfl, v, dd, rfl, hx, q⟩ | ⟨rfl, v, dd, rfl, hx, q⟩
      · refine ⟨true, EM.pp, fun _ a ha => ?_, fun z => Bool.noConfusion z⟩
        exact ⟨_, rfl, rfl, rfl, dd, _, v, rfl, hx, rfl, by show 2 ≤ sizeLine; decide, fin hx q⟩
      · refine ⟨false, EM.np, fun z => Bool.noConfusion z, fun _ => ⟨true, EM.nn, fun _ a ha => ?_, fun z => Bool.noConfusion z⟩⟩
        exact ⟨_, rfl, rfl, rfl, dd, _, v, rfl, hx, rfl, by show 2 ≤ sizeLine; decide, fin hx q⟩
      · refine ⟨false, EM.fp, fun z => Bool.noConfusion z, fun _ => ⟨false, EM.fn, fun z => Bool.noConfusion z, fun _ => ⟨true, EM.ff, fun _ a ha => ?_, fun z => Bool.noConfusion z⟩⟩⟩
        exact ⟨_, rfl, rfl, rfl, dd, _, v, rfl, hx, rfl, by show 2 ≤ sizeLine; decide, fin hx q⟩
      · refine ⟨false, EM.lp, fun z => Bool.noConfusion z, fun _ => ⟨false, EM.ln, fun z => Bool.noConfusion z, fun _ => ⟨false, EM.lf, fun z => Bool.noConfusion z, fun _ => ⟨true, EM.ll, fun _ a ha => ?_, fun z => Bool.noConfusion z⟩⟩⟩⟩
        exact ⟨_, rfl, rfl, rfl, dd, _, v, rfl, hx, rfl, by show 2 ≤ sizeLine; decide, fin hx q⟩
end Ef
set_option Elab.async false
set_option linter.all false
set_option maxRecDepth 100000
set_option maxHeartbeats 8000000
namespace Ef
open PySem PySem.Spec PyProof.Rows L2
abbrev sRr : Stmt := top 33
abbrev TT (PR PL PT : Addr) : List (Addr × Str) := [(PR, ("_law_rest_right.<locals>.<lambda>" : Str)), (PL, ("_law_list_right.<locals>.<lambda>" : Str)), (PT, ("law.<locals>.<lambda>" : Str))]
structure Dis (PR PL PT : Addr) : Prop where
  rl : ¬ PR = PL
  rt : ¬ PR = PT
  lt : ¬ PL = PT
theorem tt_cases {PR PL PT : Addr} {p : Addr × Str} (h : p ∈ TT PR PL PT) : p = (PR, ("_law_rest_right.<locals>.<lambda>" : Str)) ∨ p = (PL, ("_law_list_right.<locals>.<lambda>" : Str)) ∨ p = (PT, ("law.<locals>.<lambda>" : Str)) :=
  (List.mem_cons.mp h).elim .inl fun h => (List.mem_cons.mp h).elim (fun z => .inr (.inl z)) fun h => .inr (.inr (List.mem_singleton.mp h))
theorem huR {PR PL PT : Addr} (D : Dis PR PL PT) : ∀ p ∈ TT PR PL PT, p.1 = PR → p.2 = ("_law_rest_right.<locals>.<lambda>" : Str) := fun p hp e => by
  rcases tt_cases hp with rfl | rfl | rfl
  · rfl
  · exact absurd e.symm D.rl
  · exact absurd e.symm D.rt
theorem huL {PR PL PT : Addr} (D : Dis PR PL PT) : ∀ p ∈ TT PR PL PT, p.1 = PL → p.2 = ("_law_list_right.<locals>.<lambda>" : Str) := fun p hp e => by
  rcases tt_cases hp with rfl | rfl | rfl
  · exact absurd e D.rl
  · rfl
  · exact absurd e.symm D.lt
theorem huT {PR PL PT : Addr} (D : Dis PR PL PT) : ∀ p ∈ TT PR PL PT, p.1 = PT → p.2 = ("law.<locals>.<lambda>" : Str) := fun p hp e => by
  rcases tt_cases hp with rfl | rfl | rfl
  · exact absurd e D.rt
  · exact absurd e D.lt
  · rfl
theorem passF {X : Cx} : Passes (CX X.prog X.w) X (fun _ _ _ => False) := fun pins σ H s e s' I h => by
  obtain ⟨a, B, H', cls, d, _, _, _, _, _, _, _, hE⟩ := h
  exact hE.elim
theorem passX {X : Cx} {A : Around} {outer : List Env} {s : Shared} {H : Hp} {E : XK} {scope : Scope} {f c' : Addr} : Passes (CX X.prog X.w) (LamX.lamCx X A outer s H E scope f c') E :=
  fun pins σ H1 s1 e s' I h => passes_call (X := LamX.lamCx X A outer s H E scope f c') (takes_of rfl rfl rfl rfl) (fun _ _ _ _ h => h) pins σ H1 s1 e s' I h
theorem tabs_same {T : List (Addr × Str)} {H H' : Hp} (t : LamX.Tabs T H) (e : Same H H') : LamX.Tabs T H' := fun p hp => (t p hp).ext e
theorem tab_kp {H H' : Hp} {P p l : Addr} {q : Str} {ns : List Int} {a b : Int} (t : LamX.TabS H P q) (k : Kp p H H') (hp : Pen H p l ns a b) : LamX.TabS H' P q := by
  obtain ⟨ps, h1, h2, h3⟩ := t
  refine ⟨ps, k _ _ (ne_of h1 hp.hd (by intro q; cases q)) h1, h2, fun pos cv hc => ?_⟩
  obtain ⟨c, e1, e2⟩ := h3 pos cv hc
  exact ⟨c, e1, k _ _ (ne_of e2 hp.hd (by intro q; cases q)) e2⟩
theorem tabs_kp {T : List (Addr × Str)} {H H' : Hp} {p l : Addr} {ns : List Int} {a b : Int} (t : LamX.Tabs T H) (k : Kp p H H') (hp : Pen H p l ns a b) : LamX.Tabs T H' := fun x hx => tab_kp (t x hx) k hp
/-- all but the pen and the tables stays -/
def Kx (p : Addr) (H H' : Hp) : Prop := ∀ b o, b ≠ p → (∀ ps, o ≠ HO.tbl ps) → H b = some o → H' b = some o
theorem Kx.of_same {p : Addr} {H H' : Hp} (h : Same H H') : Kx p H H' := fun b o _ _ e => h b o e
theorem Kx.of_kp {p : Addr} {H H' : Hp} (h : Kp p H H') : Kx p H H' := fun b o n _ e => h b o n e
theorem Kx.of_ext {p : Addr} {H H' : Hp} (h : LamX.ExtN H H') : Kx p H H' := fun b o _ n e => h b o e n
theorem Kx.trans {p : Addr} {H H' H2 : Hp} (h : Kx p H H') (k : Kx p H' H2) : Kx p H H2 := fun b o n m e => k b o n m (h b o n m e)
theorem Kx.lst {p b : Addr} {H H' : Hp} {xs : List V} {d : List (Key × V)} (k : Kx p H H') (hp : H p = some (.dK d)) (h : H b = some (.lst xs)) : H' b = some (.lst xs) := k _ _ (ne_of h hp (by intro z; cases z)) (fun _ z => by cases z) h
theorem Kx.tup {p b : Addr} {H H' : Hp} {xs : List V} {d : List (Key × V)} (k : Kx p H H') (hp : H p = some (.dK d)) (h : H b = some (.tup xs)) : H' b = some (.tup xs) := k _ _ (ne_of h hp (by intro z; cases z)) (fun _ z => by cases z) h
theorem Kx.sqt {K : PySem.W.Frag} {p b : Addr} {H H' : Hp} {xs : List V} {d : List (Key × V)} (k : Kx p H H') (hp : H p = some (.dK d)) (h : SqT K H b xs) : SqT K H' b xs := by
  rcases h with (h | ⟨z, h⟩) | h
  · exact .inl (.inl (k.tup hp h))
  · exact .inl (.inr ⟨z, k _ _ (ne_of h hp (by intro q; cases q)) (fun _ z => by cases z) h⟩)
  · exact .inr h
theorem Kx.md {p r : Addr} {H H' : Hp} {bs rs : List Bool} {d : List (Key × V)} (k : Kx p H H') (hp : H p = some (.dK d)) (h : Md H r bs rs) : Md H' r bs rs := by
  obtain ⟨rb, rr, h1, h2, h3⟩ := h
  exact ⟨rb, rr, k.tup hp h1, k.lst hp h2, k.lst hp h3⟩
theorem Kx.wat {K : PySem.W.Frag} {C p q : Addr} {H H' : Hp} {m s : Nat} {bs rs : List Bool} {d : List (Key × V)} (k : Kx p H H') (hp : H p = some (.dK d)) (h : WAt K C H q m s bs rs) : WAt K C H' q m s bs rs := by
  obtain ⟨dx, ra, ba, ea, la, h1, h2, h3, h4, h5⟩ := h
  exact ⟨dx, ra, ba, ea, la, k _ _ (ne_of h1 hp (by intro z; cases z)) (fun _ z => by cases z) h1, k.sqt hp h2, k.sqt hp h3, k.sqt hp h4, k.sqt hp h5⟩
theorem ext_of {H H' : Hp} (h : LamX.ExtN H H') {b : Addr} {o : HO} (e : H b = some o) (n : ∀ ps : Array Value, o ≠ .tbl ps) : H' b = some o := h b o e n
theorem Pen.ext {H H' : Hp} {p l : Addr} {ns : List Int} {a b : Int} (h : Pen H p l ns a b) (e : LamX.ExtN H H') : Pen H' p l ns a b := ⟨ext_of e h.hd (fun _ z => by cases z), ext_of e h.hl (fun _ z => by cases z), h.len, h.a0, h.b0⟩
theorem Pen.same {H H' : Hp} {p l : Addr} {ns : List Int} {a b : Int} (h : Pen H p l ns a b) (e : Same H H') : Pen H' p l ns a b := ⟨e _ _ h.hd, e _ _ h.hl, h.len, h.a0, h.b0⟩
theorem eqv_int (i : Int) : PyData.eqv (.int i) (.int i) = true := by
  show decide (i = i) = true
  exact decide_eq_true rfl
theorem sh_tag (t : Str) (d : PyData) (h1 : PyData.canLay0 (.str t) = true) (h2 : PyData.depth (.str t) = 0) (h3 : PyData.canLay0 d = true) (h4 : PyData.depth d ≤ 5) : SeqAt.shaped (.tuple [.str t, d]) = true := by
  show ((PyData.canLay0 (.str t) && (PyData.canLay0 d && true)) && decide (max (PyData.depth (.str t)) (max (PyData.depth d) 0) + 1 ≤ 64)) = true
  rw [h1, h2, h3]
  exact decide_eq_true (by omega)
theorem eqv_tag (t : Str) (i : Int) (h : PyData.eqv (.str t) (.str t) = true) : PyData.eqv (.tuple [.str t, .int i]) (.tuple [.str t, .int i]) = true := by
  show (PyData.eqv (.str t) (.str t) && (PyData.eqv (.int i) (.int i) && true)) = true
  rw [eqv_int, h]; rfl
theorem sqt_lst {K : PySem.W.Frag} {H : Hp} {q l : Addr} {ys xs : List V} {o : HO} (h2 : SqT K H q xs) (hl : H l = some (.lst ys)) : SqT K (upd H l o) q xs := by
  rcases h2 with (h | ⟨z, h⟩) | h
  · exact .inl (.inl (by rw [upd_ne (ne_of h hl (by intro q; cases q))]; exact h))
  · exact .inl (.inr ⟨z, by rw [upd_ne (ne_of h hl (by intro q; cases q))]; exact h⟩)
  · exact .inr h
theorem WAt.lst {K : PySem.W.Frag} {C : Addr} {H : Hp} {q l : Addr} {m s : Nat} {bs rs : List Bool} {ys : List V} {o : HO} (h : WAt K C H q m s bs rs) (hl : H l = some (.lst ys)) : WAt K C (upd H l o) q m s bs rs := by
  obtain ⟨dx, ra, ba, ea, la, h1, h2, h3, h4, h5⟩ := h
  exact ⟨dx, ra, ba, ea, la, by rw [upd_ne (ne_of h1 hl (by intro q; cases q))]; exact h1, sqt_lst h2 hl, sqt_lst h3 hl, sqt_lst h4 hl, sqt_lst h5 hl⟩
/-- where _law_fault stands -/
structure FaultAt (K : PySem.W.Frag) (mg : Str → Option Value) (g : Addr) (oc : Value) (od an : Option Addr) (kV doc pm cdv ct : Value) (osl : Array (Option Value)) : Prop where
  mg_ : mg "_law_fault" = some (.ref g)
  kp : PySem.W.keepIn K (.ref g) = true
  lk : K.lookup g = some ⟨oc, od, .func (PySem.W.fnOf "_law_fault" "_law_fault" (defArgs sFault) (defBody sFault) (defScope sFault) .none kV doc pm an cdv ct), osl⟩
  cd : PySem.W.codeIn K cdv "_law_fault" = true
  b : Binds K (PySem.W.fnOf "_law_fault" "_law_fault" (defArgs sFault) (defBody sFault) (defScope sFault) .none kV doc pm an cdv ct) ["ask"] []
section
variable {P : Program} {w : World} {K : PySem.W.Frag} {mg : Str → Option Value} {base : Heap}
theorem ne_same {x y : Addr} {H : Hp} {R : VK} {tag : Str} {B : Int} (h1 : PyData.canLay0 (.str tag) = true) (h2 : PyData.depth (.str tag) = 0) (h3 : PyData.eqv (.str tag) (.str tag) = true) (hx : H x = some (.tup [.str tag, .int B])) (hy : H y = some (.tup [.str tag, .int B])) (q : R (.bl false) H) : rNeD K (.ref x) (.ref y) H R :=
  ⟨_, _, .tup (.inl (.inl hx)) (.cons (.str _) (.cons (.int _) .nil)), .tup (.inl (.inl hy)) (.cons (.str _) (.cons (.int _) .nil)), sh_tag tag _ h1 h2 rfl (Nat.zero_le 5), sh_tag tag _ h1 h2 rfl (Nat.zero_le 5), by rw [eqv_tag tag B h3]; exact q⟩
theorem ne_non {H : Hp} {R : VK} (q : R (.bl false) H) : rNeD K .non .non H R := ⟨_, _, .non, .non, by decide, by decide, q⟩
theorem gt_true {σ : L2.St} {H : Hp} {i : Nat} {v B : Int} {a b : TE} {R : VK} (hi : σ[i]? = some (some (.int v))) (h : B < v) (q : a σ H R) : tIf (tTest (tOp (rI0 fun i j => V.bl (decide (j < i))) (tVar i) (tC (V.int B)))) a b σ H R := by
  refine ⟨_, hi, _, _, rfl, rfl, _, rfl, ?_⟩
  rw [decide_eq_true h]
  exact iteT q
theorem gt_false {σ : L2.St} {H : Hp} {i : Nat} {v B : Int} {a b : TE} {R : VK} (hi : σ[i]? = some (some (.int v))) (h : ¬ B < v) (q : b σ H R) : tIf (tTest (tOp (rI0 fun i j => V.bl (decide (j < i))) (tVar i) (tC (V.int B)))) a b σ H R := by
  refine ⟨_, hi, _, _, rfl, rfl, _, rfl, ?_⟩
  rw [decide_eq_false h]
  exact iteF q
/-- the tag that is due, told -/
theorem tag_due {σ : L2.St} {H : Hp} {x : Addr} {R : VK} {tag : Str} {B : Int} (h1 : PyData.canLay0 (.str tag) = true) (h2 : PyData.depth (.str tag) = 0) (h3 : PyData.eqv (.str tag) (.str tag) = true) (hx : H x = some (.tup [.str tag, .int B])) (q : ∀ H', Same H H' → R (.bl false) H') :
    tTup (tCons (tC (V.str tag)) (tCons (tC (V.int B)) tNil)) σ H fun y H2 => rNeD K (.ref x) y H2 R := by
  refine ⟨by show 2 ≤ sizeLine; decide, fun t ht => ?_⟩
  have s1 := same_new (o := .tup [.str tag, .int B]) ht
  exact ne_same h1 h2 h3 (s1 _ _ hx) upd_same (q _ s1)
/-- a value that can be told as data -/
def DataV (v : V) : Prop := ∃ d, (∀ (K : PySem.W.Frag) (H : Hp), Dp K H v d) ∧ PyData.canLay0 d = true ∧ PyData.depth d ≤ 5 ∧ PyData.eqv d d = true
theorem DataV.int (i : Int) : DataV (.int i) := ⟨.int i, fun _ _ => .int i, rfl, Nat.zero_le 5, eqv_int i⟩
theorem eqv_tag2 (t : Str) (d : PyData) (h : PyData.eqv (.str t) (.str t) = true) (h2 : PyData.eqv d d = true) : PyData.eqv (.tuple [.str t, d]) (.tuple [.str t, d]) = true := by
  show (PyData.eqv (.str t) (.str t) && (PyData.eqv d d && true)) = true
  rw [h, h2]; rfl
theorem ne_tagv {x y : Addr} {H : Hp} {R : VK} {tag : Str} {v : V} (h1 : PyData.canLay0 (.str tag) = true) (h2 : PyData.depth (.str tag) = 0) (h3 : PyData.eqv (.str tag) (.str tag) = true) (hv : DataV v) (hx : H x = some (.tup [.str tag, v])) (hy : H y = some (.tup [.str tag, v])) (q : R (.bl false) H) : rNeD K (.ref x) (.ref y) H R := by
  obtain ⟨d, d1, d2, d3, d4⟩ := hv
  exact ⟨_, _, .tup (.inl (.inl hx)) (.cons (.str _) (.cons (d1 K H) .nil)), .tup (.inl (.inl hy)) (.cons (.str _) (.cons (d1 K H) .nil)), sh_tag tag _ h1 h2 d2 d3, sh_tag tag _ h1 h2 d2 d3, by rw [eqv_tag2 tag d h3 d4]; exact q⟩
theorem eq_tagv {x y : Addr} {H : Hp} {R : VK} {tag : Str} {v : V} (h1 : PyData.canLay0 (.str tag) = true) (h2 : PyData.depth (.str tag) = 0) (h3 : PyData.eqv (.str tag) (.str tag) = true) (hv : DataV v) (hx : H x = some (.tup [.str tag, v])) (hy : H y = some (.tup [.str tag, v])) (q : R (.bl true) H) : rEqD K (.ref x) (.ref y) H R := by
  obtain ⟨d, d1, d2, d3, d4⟩ := hv
  exact ⟨_, _, .tup (.inl (.inl hx)) (.cons (.str _) (.cons (d1 K H) .nil)), .tup (.inl (.inl hy)) (.cons (.str _) (.cons (d1 K H) .nil)), sh_tag tag _ h1 h2 d2 d3, sh_tag tag _ h1 h2 d2 d3, by rw [eqv_tag2 tag d h3 d4]; exact q⟩
theorem tagv_due {σ : L2.St} {H : Hp} {x : Addr} {R : VK} {tag : Str} {v : V} {i : Nat} (h1 : PyData.canLay0 (.str tag) = true) (h2 : PyData.depth (.str tag) = 0) (h3 : PyData.eqv (.str tag) (.str tag) = true) (hv : DataV v) (hi : σ[i]? = some (some v)) (hx : H x = some (.tup [.str tag, v])) (q : ∀ H', Same H H' → R (.bl false) H') :
    tTup (tCons (tC (V.str tag)) (tCons (tVar i) tNil)) σ H fun y H2 => rNeD K (.ref x) y H2 R := by
  refine ⟨_, hi, by show 2 ≤ sizeLine; decide, fun t ht => ?_⟩
  have s1 := same_new (o := .tup [.str tag, v]) ht
  exact ne_tagv h1 h2 h3 hv (s1 _ _ hx) upd_same (q _ s1)
theorem tag_dueE {σ : L2.St} {H : Hp} {x : Addr} {R : VK} {tag : Str} {B : Int} (h1 : PyData.canLay0 (.str tag) = true) (h2 : PyData.depth (.str tag) = 0) (h3 : PyData.eqv (.str tag) (.str tag) = true) (hx : H x = some (.tup [.str tag, .int B])) (q : ∀ H', Same H H' → R (.bl true) H') :
    tTup (tCons (tC (V.str tag)) (tCons (tC (V.int B)) tNil)) σ H fun y H2 => rEqD K (.ref x) y H2 R := by
  refine ⟨by show 2 ≤ sizeLine; decide, fun t ht => ?_⟩
  have s1 := same_new (o := .tup [.str tag, .int B]) ht
  exact eq_tagv h1 h2 h3 (.int B) (s1 _ _ hx) upd_same (q _ s1)
/-- no integer, whatever the heap holds -/
def NoI (K : PySem.W.Frag) (v : V) : Prop := ∀ H, NotInt K H v
theorem noi_bl (K : PySem.W.Frag) (b : Bool) : NoI K (.bl b) := fun H => ⟨"bool", true, true, .base (.bl _), by decide +kernel, by decide +kernel, rfl⟩
theorem noi_non (K : PySem.W.Frag) : NoI K .non := fun H => ⟨"NoneType", false, false, .base .non, by decide +kernel, by decide +kernel, rfl⟩
theorem noi_str (K : PySem.W.Frag) (t : Str) : NoI K (.str t) := fun H => ⟨"str", false, false, .base (.str _), by decide +kernel, by decide +kernel, rfl⟩
theorem DataV.bl (b : Bool) : DataV (.bl b) := ⟨.bool b, fun _ _ => .bl b, rfl, Nat.zero_le 5, by cases b <;> decide⟩
theorem DataV.non : DataV .non := ⟨.none, fun _ _ => .non, rfl, Nat.zero_le 5, by decide⟩
theorem DataV.str {t : Str} (h1 : PyData.canLay0 (.str t) = true) (h2 : PyData.depth (.str t) ≤ 5) (h3 : PyData.eqv (.str t) (.str t) = true) : DataV (.str t) := ⟨.str t, fun _ _ => .str t, h1, h2, h3⟩
def DataAt (K : PySem.W.Frag) (H : Hp) (v : V) : Prop := ∃ d, Dp K H v d ∧ PyData.canLay0 d = true ∧ PyData.depth d ≤ 5 ∧ PyData.eqv d d = true
theorem DataV.at_ {v : V} (h : DataV v) (K : PySem.W.Frag) (H : Hp) : DataAt K H v := by
  obtain ⟨d, d1, d2⟩ := h
  exact ⟨d, d1 K H, d2⟩
theorem ne_tagA {x y : Addr} {H : Hp} {R : VK} {tag : Str} {v : V} (h1 : PyData.canLay0 (.str tag) = true) (h2 : PyData.depth (.str tag) = 0) (h3 : PyData.eqv (.str tag) (.str tag) = true) (hv : DataAt K H v) (hx : H x = some (.tup [.str tag, v])) (hy : H y = some (.tup [.str tag, v])) (q : R (.bl false) H) : rNeD K (.ref x) (.ref y) H R := by
  obtain ⟨d, d1, d2, d3, d4⟩ := hv
  exact ⟨_, _, .tup (.inl (.inl hx)) (.cons (.str _) (.cons d1 .nil)), .tup (.inl (.inl hy)) (.cons (.str _) (.cons d1 .nil)), sh_tag tag _ h1 h2 d2 d3, sh_tag tag _ h1 h2 d2 d3, by rw [eqv_tag2 tag d h3 d4]; exact q⟩
theorem tagA_due {σ : L2.St} {H : Hp} {x : Addr} {R : VK} {tag : Str} {v : V} {i : Nat} (h1 : PyData.canLay0 (.str tag) = true) (h2 : PyData.depth (.str tag) = 0) (h3 : PyData.eqv (.str tag) (.str tag) = true) (hv : ∀ H', Same H H' → DataAt K H' v) (hi : σ[i]? = some (some v)) (hx : H x = some (.tup [.str tag, v])) (q : ∀ H', Same H H' → R (.bl false) H') :
    tTup (tCons (tC (V.str tag)) (tCons (tVar i) tNil)) σ H fun y H2 => rNeD K (.ref x) y H2 R := by
  refine ⟨_, hi, by show 2 ≤ sizeLine; decide, fun t ht => ?_⟩
  have s1 := same_new (o := .tup [.str tag, v]) ht
  exact ne_tagA h1 h2 h3 (hv _ s1) (s1 _ _ hx) upd_same (q _ s1)
theorem eq_non {H : Hp} {R : VK} (q : R (.bl true) H) : rEqD K .non .non H R := ⟨_, _, .non, .non, by decide, by decide, q⟩
end
end Ef
set_option Elab.async false
set_option linter.all false
set_option maxRecDepth 100000
set_option maxHeartbeats 8000000
namespace Ef
open PySem PySem.Spec PyProof.Rows L2 ClX
section
variable {P : Program} {w : World} {K : PySem.W.Frag} {mg : Str → Option Value} {base : Heap}
theorem fault_num {C CP CN CF CL : Addr} {σ : L2.St} {H : Hp} {i j k : Nat} {v u x : V} {R : VK} (hi : σ[i]? = some (some v)) (hj : σ[j]? = some (some u)) (hk : σ[k]? = some (some x)) (hx : DataV x) (hsp : ∀ Q E, Errs H CN "number" x E → spRest K C CN CF [.ref C, v, u] H Q E) (hR : ∀ H', Same H H' → R (.bl false) H') :
    TFault CP CN CF CL (fun E H' Q' => tCMeth C (spRest K C CN CF) E (tC (V.ref C)) (tCons (tVar i) (tCons (tVar j) tNil)) σ H' Q') H fun x H1 => tTup (tCons (tC (V.str "number")) (tCons (tVar k) tNil)) σ H1 fun y H2 => rNeD K x y H2 R :=
  ⟨rfl, _, hi, _, hj, hsp _ _ fun dd H2 s2 hd2 hx2 => .inr (.inl ⟨rfl, _, dd, rfl, hx2, fun tt H3 s3 e3 => tagv_due (by decide +kernel) (by decide +kernel) (by decide +kernel) hx hk e3 fun H4 s4 => hR H4 (s2.trans (s3.trans s4))⟩)⟩
theorem fault_fine {C CP CN CF CL : Addr} {σ : L2.St} {H : Hp} {i j : Nat} {v u : V} {R : VK} (hi : σ[i]? = some (some v)) (hj : σ[j]? = some (some u)) (hsp : ∀ Q E, Errs H CF "most" (.int 720) E → spRest K C CN CF [.ref C, v, u] H Q E) (hR : ∀ H', Same H H' → R (.bl true) H') :
    TFault CP CN CF CL (fun E H' Q' => tCMeth C (spRest K C CN CF) E (tC (V.ref C)) (tCons (tVar i) (tCons (tVar j) tNil)) σ H' Q') H fun x H1 => tTup (tCons (tC (V.str "fine")) (tCons (tC (V.int 720)) tNil)) σ H1 fun y H2 => rEqD K x y H2 R :=
  ⟨rfl, _, hi, _, hj, hsp _ _ fun dd H2 s2 hd2 hx2 => .inr (.inr (.inl ⟨rfl, _, dd, rfl, hx2, fun tt H3 s3 e3 => tag_dueE (by decide +kernel) (by decide +kernel) (by decide +kernel) e3 fun H4 s4 => hR H4 (s2.trans (s3.trans s4))⟩))⟩
def spRr (K : PySem.W.Frag) (PR PL PT : Addr) : Sp := fun vs H Q _ => ∃ (p l : Addr) (ns : List Int) (a b : Int), vs = [.ref p] ∧ Pen H p l ns a b ∧ a ≤ 900000000 ∧ LamX.Tabs (TT PR PL PT) H ∧ ∀ (a' b' : Int) H', a' ≤ a + 10 → Pen H' p l ns a' b' → Kx p H H' → LamX.Tabs (TT PR PL PT) H' → Q (.bl true) H'
theorem scRr : FnScope ["pen", "m", "r", "odd", "wrong", "great", "k"] ["pen"] (defScope sRr) := ⟨rfl, rfl, rfl, by decide +kernel, rfl, by decide +kernel, by decide +kernel⟩
theorem ok_rr {f C CP CN CF CL fP fN fF fL g cR PR PL PT gr : Addr} {mc : Value} {pr : Addr} {oc oc2 kV doc pm ct kV2 doc2 pm2 cdv2 ct2 : Value} {od an od2 an2 : Option Addr} {osl osl2 : Array (Option Value)}
    (lk : K.lookup f = some ⟨oc, od, .func (PySem.W.fnOf "_law_rest_right" "_law_rest_right" (defArgs sRr) (defBody sRr) (defScope sRr) .none kV doc pm an (.ref cR) ct), osl⟩) (hcd : PySem.W.codeIn K (.ref cR) "_law_rest_right" = true)
    (T : TxtW mg) (CW : ClsQ K mg C) (CR : CRead K C mc) (CMr : CMet K C mc "rest" pr gr) (GMr : FnR P w K mg base (CX P w) 5 gr (spRest K C CN CF))
    (FT : FaultAt K mg g oc2 od2 an2 kV2 doc2 pm2 cdv2 ct2 osl2) (EP : ErrF K mg "BadPlace" "n" CP fP) (EN : ErrF K mg "BadNumber" "number" CN fN) (EFi : ErrF K mg "TooFine" "most" CF fF) (EL : ErrF K mg "TooLate" "most" CL fL) (EM : ErrM K CP CN CF CL) (TB : LamX.TabB base mg cR PR) (DD : Dis PR PL PT)
    (Ddraw : Df P w K mg base 1 "_law_draw" ["pen", "many"] spDraw) (Dpick : Df P w K mg base 2 "_law_pick" ["pen", "some"] (spPick K)) (Disw : Df P w K mg base 2 "_law_is_where" ["where", "model"] (spIsw K C)) :
    FnOk P w K mg base CX0 8 f (PySem.W.fnOf "_law_rest_right" "_law_rest_right" (defArgs sRr) (defBody sRr) (defScope sRr) .none kV doc pm an (.ref cR) ct) ["pen"] (spRr K PR PL PT) := by
  refine fn_of lk hcd scRr (fun vs H Q E h => ?_) (fun A outer s H vs Q E hr h => ?_)
  · obtain ⟨p, l, ns, a, b, rfl, _⟩ := h
    rfl
  · obtain ⟨p, l, ns, a, b, rfl, hP, ha, hT, q⟩ := h
    refine ⟨_, PSs.nox (pss_cons (ps_set (i := 1) scRr.nd rfl (.inr rfl) (Dpick.call (hr.mono (by decide)) (pa_cons (pv 0) (pa_cons (pe_lst (pa_cons pe_int (pa_cons pe_int (pa_cons pe_int (pa_cons pe_int (pa_cons pe_int (pa_cons pe_int (pa_cons pe_int pa_nil)))))))) pa_nil))))
      (pss_cons (ps_set (i := 2) scRr.nd rfl (.inr rfl) (Ddraw.call (hr.mono (by decide)) (pa_cons (pv 0) (pa_cons (pv 1) pa_nil))))
      (pss_cons (ps_if (pt_not (pt_val (Disw.call (hr.mono (by decide)) (pa_cons (pe_cmeth (pe_glob (v := .ref C) (by rfl) CW.mgC rfl) CR CMr GMr (hr.mono (by decide)) passF (pa_cons (pv 1) (pa_cons (pv 2) pa_nil))) (pa_cons (pe_tup (pa_cons (pe_lst pa_nil) (pa_cons (pe_lc (own := [("k", 6)]) (g := gName 6) (by rfl) scRr.nd (pi_range1 (by rfl) T.range (pa_cons (pv 1) pa_nil)) (blkOk_by (own := [("k", 6)]) (N := ["pen", "m", "r", "odd", "wrong", "great", "k"]) (sc := defScope sRr) (by decide +kernel)) (fun _ _ _ _ _ => pg_name (i := 6) scRr.nd rfl (Or.inl rfl)) (fun _ _ _ _ _ => pts_nil) (fun _ _ _ _ _ => (pe_cmpR op_eq (pv 6) (pv 2) (nomark _)))) pa_nil))) pa_nil))))) (pss_one (ps_ret pe_bl)) pss_nil)
      (pss_cons (ps_set (i := 3) scRr.nd rfl (.inr rfl) (Dpick.call (hr.mono (by decide)) (pa_cons (pv 0) (pa_cons (pe_lst (pa_cons pe_int (pa_cons (pe_un un_neg pe_int) (pa_cons pe_bl (pa_cons pe_non (pa_cons pe_str pa_nil)))))) pa_nil))))
      (pss_cons (ps_set (i := 4) scRr.nd rfl (.inr rfl) (Dpick.call (hr.mono (by decide)) (pa_cons (pv 0) (pa_cons (pe_lst (pa_cons (pv 1) (pa_cons (pe_un un_neg pe_int) (pa_cons pe_bl (pa_cons pe_non (pa_cons pe_str (pa_cons (pe_op op_pow pe_int pe_int) pa_nil))))))) pa_nil))))
      (pss_cons (ps_if (pt_cmpR (op_neD hr.units) (LamX.pe_lamcall (k := 5) (by rfl) FT.mg_ FT.kp FT.lk FT.cd FT.b scFault rfl (.inl rfl) (fault_gives EP EN EFi EL EM) TB rfl (show (PR, ("_law_rest_right.<locals>.<lambda>" : Str)) ∈ TT PR PL PT from List.Mem.head _) (huR DD) (hr.mono (by decide)) (LamX.lamS_by (show LamX.lamSB (defScope sRr) _ = true by decide +kernel)) rfl (fun _ _ _ _ _ => rfl) (fun A' outer' s' H' E' f' c' hr' => (pe_cmeth (pe_glob (v := .ref C) (by rfl) CW.mgC rfl) CR CMr GMr (hr'.mono (by decide)) passX (pa_cons (pv 3) (pa_cons (pv 4) pa_nil))))) (pe_tup (pa_cons pe_str (pa_cons (pv 3) pa_nil))) (nomark _)) (pss_one (ps_ret pe_bl)) pss_nil)
      (pss_cons (ps_if (pt_cmpR (op_neD hr.units) (LamX.pe_lamcall (k := 5) (by rfl) FT.mg_ FT.kp FT.lk FT.cd FT.b scFault rfl (.inl rfl) (fault_gives EP EN EFi EL EM) TB rfl (show (PR, ("_law_rest_right.<locals>.<lambda>" : Str)) ∈ TT PR PL PT from List.Mem.head _) (huR DD) (hr.mono (by decide)) (LamX.lamS_by (show LamX.lamSB (defScope sRr) _ = true by decide +kernel)) rfl (fun _ _ _ _ _ => rfl) (fun A' outer' s' H' E' f' c' hr' => (pe_cmeth (pe_glob (v := .ref C) (by rfl) CW.mgC rfl) CR CMr GMr (hr'.mono (by decide)) passX (pa_cons (pv 1) (pa_cons (pv 4) pa_nil))))) (pe_tup (pa_cons pe_str (pa_cons (pv 4) pa_nil))) (nomark _)) (pss_one (ps_ret pe_bl)) pss_nil)
      (pss_cons (ps_set (i := 5) scRr.nd rfl (.inr rfl) (pe_op op_add pe_int (Ddraw.call (hr.mono (by decide)) (pa_cons (pv 0) (pa_cons (pe_op op_pow pe_int pe_int) pa_nil)))))
      (pss_cons (ps_if (pt_cmpR (op_neD hr.units) (LamX.pe_lamcall (k := 5) (by rfl) FT.mg_ FT.kp FT.lk FT.cd FT.b scFault rfl (.inl rfl) (fault_gives EP EN EFi EL EM) TB rfl (show (PR, ("_law_rest_right.<locals>.<lambda>" : Str)) ∈ TT PR PL PT from List.Mem.head _) (huR DD) (hr.mono (by decide)) (LamX.lamS_by (show LamX.lamSB (defScope sRr) _ = true by decide +kernel)) rfl (fun _ _ _ _ _ => rfl) (fun A' outer' s' H' E' f' c' hr' => (pe_cmeth (pe_glob (v := .ref C) (by rfl) CW.mgC rfl) CR CMr GMr (hr'.mono (by decide)) passX (pa_cons (pv 5) (pa_cons (pv 5) pa_nil))))) (pe_tup (pa_cons pe_str (pa_cons (pv 5) pa_nil))) (nomark _)) (pss_one (ps_ret pe_bl)) pss_nil)
      (pss_one (ps_ret (pe_cmpR (op_eqD hr.units) (LamX.pe_lamcall (k := 5) (by rfl) FT.mg_ FT.kp FT.lk FT.cd FT.b scFault rfl (.inl rfl) (fault_gives EP EN EFi EL EM) TB rfl (show (PR, ("_law_rest_right.<locals>.<lambda>" : Str)) ∈ TT PR PL PT from List.Mem.head _) (huR DD) (hr.mono (by decide)) (LamX.lamS_by (show LamX.lamSB (defScope sRr) _ = true by decide +kernel)) rfl (fun _ _ _ _ _ => rfl) (fun A' outer' s' H' E' f' c' hr' => (pe_cmeth (pe_glob (v := .ref C) (by rfl) CW.mgC rfl) CR CMr GMr (hr'.mono (by decide)) passX (pa_cons (pv 5) (pa_cons (pv 2) pa_nil))))) (pe_tup (pa_cons pe_str (pa_cons pe_int pa_nil))) (nomark _))))))))))))), ?_⟩
    refine ⟨_, rfl, by show 7 ≤ sizeLine; decide, fun l1 hl1 => ?_⟩
    have s1 : Same H (upd H l1 (.lst [.int 1, .int 2, .int 7, .int 12, .int 360, .int 719, .int 720])) := same_new hl1
    have e1 : (upd H l1 (.lst [.int 1, .int 2, .int 7, .int 12, .int 360, .int 719, .int 720])) l1 = some (.lst [.int 1, .int 2, .int 7, .int 12, .int 360, .int 719, .int 720]) := upd_same
    generalize upd H l1 (.lst [.int 1, .int 2, .int 7, .int 12, .int 360, .int 719, .int 720]) = H1 at s1 e1 ⊢
    have hP1 := hP.same s1
    refine ⟨p, l, l1, ns, a, b, _, rfl, hP1, by omega, .inl (.inl e1), ne_of e1 hP1.hd (by intro q; cases q), by show 1 ≤ 7; decide, by show 7 ≤ 100000; decide, fun j1 mv a1 b1 H2 hj1 ha1 hP2 hK2 => ?_⟩
    obtain ⟨m, rfl, hm1, hm7⟩ : ∃ m : Nat, mv = .int (m : Int) ∧ 1 ≤ m ∧ m ≤ 720 := by
      have hm := List.mem_of_getElem? hj1
      simp only [List.mem_cons, List.not_mem_nil, or_false] at hm
      rcases hm with rfl | rfl | rfl | rfl | rfl | rfl | rfl
      · exact ⟨1, rfl, by decide, by decide⟩
      · exact ⟨2, rfl, by decide, by decide⟩
      · exact ⟨7, rfl, by decide, by decide⟩
      · exact ⟨12, rfl, by decide, by decide⟩
      · exact ⟨360, rfl, by decide, by decide⟩
      · exact ⟨719, rfl, by decide, by decide⟩
      · exact ⟨720, rfl, by decide, by decide⟩
    have hT2 := tabs_kp (tabs_same hT s1) hK2 hP1
    have x2 : Kx p H H2 := (Kx.of_same s1).trans (Kx.of_kp hK2)
    refine ⟨_, rfl, _, rfl, p, l, ns, a1, b1, _, rfl, hP2, by omega, by omega, by omega, fun d1 a2 b2 H3 d10 d11 ha2 hP3 hK3 => ?_⟩
    obtain ⟨r, rfl⟩ : ∃ k : Nat, d1 = (k : Int) := ⟨d1.toNat, by omega⟩
    have hT3 := tabs_kp hT2 hK3 hP2
    have x3 : Kx p H H3 := x2.trans (Kx.of_kp hK3)
    -- is_where
    refine ⟨rfl, _, rfl, _, rfl, _, _, rfl, .inr ⟨m, rfl, hm1, .inr ⟨r, rfl, .inr ⟨by omega, .inr ⟨hm7, fun x H4 m' s' nx s4 hc hw => ?_⟩⟩⟩⟩⟩
    refine ⟨by show 0 ≤ sizeLine; decide, fun lE hlE => ?_⟩
    have s5 : Same H4 (upd H4 lE (.lst [])) := same_new hlE
    have eE : (upd H4 lE (.lst [])) lE = some (.lst (([] : List Bool).map V.bl)) := upd_same
    generalize upd H4 lE (.lst []) = H5 at s5 eE ⊢
    refine ⟨_, rfl, _, rfl, by omega, by omega, fun D hD => ?_⟩
    refine lc_range (lo := 0) (n := m) (fun i H' => Same H5 H' ∧ H' D = some (.lst (((List.range i).map fun k : Nat => decide ((k : Int) = (r : Int))).map V.bl))) ⟨same_new hD, upd_same⟩ ?_ ?_
    · rintro i Hx hi ⟨sx, hA⟩
      refine ⟨rfl, _, rfl, _, rfl, rfl, _, hA, by rw [List.length_map, List.length_map, List.length_range]; exact small1000' (by omega), same_mut sx hD, ?_⟩
      rw [upd_same, List.range_succ, List.map_append, List.map_append, Int.zero_add, dint']
      rfl
    rintro H6 ⟨s6, hA⟩
    have hA : H6 D = some (.lst ((onceR m r).map V.bl)) := hA
    refine ⟨by show 2 ≤ sizeLine; decide, fun t ht => ?_⟩
    have s7 : Same H6 (upd H6 t (.tup [.ref lE, .ref D])) := same_new ht
    have e7 : (upd H6 t (.tup [.ref lE, .ref D])) t = some (.tup [.ref lE, .ref D]) := upd_same
    generalize upd H6 t (.tup [.ref lE, .ref D]) = H7 at s7 e7 ⊢
    have hl : (onceR m r).length = m := by unfold onceR; rw [List.length_map, List.length_range]
    refine ⟨x, t, m', s', [], onceR m r, [], onceR m r, rfl, hw.same (s5.trans (s6.trans s7)), ⟨lE, D, e7, s7 _ _ (s6 _ _ eE), s7 _ _ hA⟩, by omega, by omega, Nat.zero_le _, hc, rfl, rfl, fun H8 s8 => ?_⟩
    refine ⟨_, rfl, iteF ?_⟩
    have s38 := s4.trans (s5.trans (s6.trans (s7.trans s8)))
    have hP8 := hP3.same s38
    have hT8 := tabs_same hT3 s38
    have x8 := x3.trans (Kx.of_same s38)
    -- odd
    refine ⟨_, rfl, _, rfl, by show 5 ≤ sizeLine; decide, fun l2 hl2 => ?_⟩
    have s9 : Same H8 (upd H8 l2 (.lst [.int 0, .int (-4), .bl true, .non, .str "7"])) := same_new hl2
    have e9 : (upd H8 l2 (.lst [.int 0, .int (-4), .bl true, .non, .str "7"])) l2 = some (.lst [.int 0, .int (-4), .bl true, .non, .str "7"]) := upd_same
    generalize upd H8 l2 (.lst [.int 0, .int (-4), .bl true, .non, .str "7"]) = H9 at s9 e9 ⊢
    have hP9 := hP8.same s9
    refine ⟨p, l, l2, ns, a2, b2, _, rfl, hP9, by omega, .inl (.inl e9), ne_of e9 hP9.hd (by intro q; cases q), by show 1 ≤ 5; decide, by show 5 ≤ 100000; decide, fun j2 ov a3 b3 H10 hj2 ha3 hP10 hK10 => ?_⟩
    have hov : (∀ H', NotFrom K H' ov 1) ∧ DataV ov := by
      have hm := List.mem_of_getElem? hj2
      simp only [List.mem_cons, List.not_mem_nil, or_false] at hm
      rcases hm with rfl | rfl | rfl | rfl | rfl
      · exact ⟨fun _ => .inl ⟨_, rfl, by decide⟩, .int _⟩
      · exact ⟨fun _ => .inl ⟨_, rfl, by decide⟩, .int _⟩
      · exact ⟨fun H' => .inr (noi_bl K _ H'), .bl _⟩
      · exact ⟨fun H' => .inr (noi_non K H'), .non⟩
      · exact ⟨fun H' => .inr (noi_str K _ H'), .str (by decide +kernel) (by decide +kernel) (by decide +kernel)⟩
    have hT10 := tabs_kp (tabs_same hT8 s9) hK10 hP9
    have x10 := x8.trans ((Kx.of_same s9).trans (Kx.of_kp hK10))
    -- wrong
    refine ⟨_, rfl, _, rfl, _, rfl, _, _, rfl, rfl, ⟨by decide, by decide, by decide⟩, by show 6 ≤ sizeLine; decide, fun l3 hl3 => ?_⟩
    have s11 : Same H10 (upd H10 l3 (.lst [.int (m : Int), .int (-1), .bl true, .non, .str "0", .int ((10 : Int) ^ (30 : Int).toNat)])) := same_new hl3
    have e11 : (upd H10 l3 (.lst [.int (m : Int), .int (-1), .bl true, .non, .str "0", .int ((10 : Int) ^ (30 : Int).toNat)])) l3 = some (.lst [.int (m : Int), .int (-1), .bl true, .non, .str "0", .int ((10 : Int) ^ (30 : Int).toNat)]) := upd_same
    generalize upd H10 l3 (.lst [.int (m : Int), .int (-1), .bl true, .non, .str "0", .int ((10 : Int) ^ (30 : Int).toNat)]) = H11 at s11 e11 ⊢
    have hP11 := hP10.same s11
    refine ⟨p, l, l3, ns, a3, b3, _, rfl, hP11, by omega, .inl (.inl e11), ne_of e11 hP11.hd (by intro q; cases q), by show 1 ≤ 6; decide, by show 6 ≤ 100000; decide, fun j3 wv a4 b4 H12 hj3 ha4 hP12 hK12 => ?_⟩
    have hwv : ((∀ H', NotFrom K H' wv 0) ∨ ∃ k : Nat, wv = .int (k : Int) ∧ m ≤ k) ∧ DataV wv := by
      have hm := List.mem_of_getElem? hj3
      simp only [List.mem_cons, List.not_mem_nil, or_false] at hm
      rcases hm with rfl | rfl | rfl | rfl | rfl | rfl
      · exact ⟨.inr ⟨m, rfl, Nat.le_refl m⟩, .int _⟩
      · exact ⟨.inl fun _ => .inl ⟨_, rfl, by decide⟩, .int _⟩
      · exact ⟨.inl fun H' => .inr (noi_bl K _ H'), .bl _⟩
      · exact ⟨.inl fun H' => .inr (noi_non K H'), .non⟩
      · exact ⟨.inl fun H' => .inr (noi_str K _ H'), .str (by decide +kernel) (by decide +kernel) (by decide +kernel)⟩
      · exact ⟨.inr ⟨10 ^ 30, rfl, Nat.le_trans hm7 (by decide)⟩, .int _⟩
    have hT12 := tabs_kp (tabs_same hT10 s11) hK12 hP11
    have x12 := x10.trans ((Kx.of_same s11).trans (Kx.of_kp hK12))
    -- the first fault
    refine ⟨hT12, fun H13 y13 hT13 => ?_⟩
    refine fault_num rfl rfl rfl hov.2 (fun Q E h => ⟨_, _, rfl, .inl ⟨hov.1 H13, h⟩⟩) fun H14 s14 => ?_
    refine ⟨_, rfl, iteF ?_⟩
    have hP14 := (hP12.ext y13).same s14
    have x14 := x12.trans ((Kx.of_ext y13).trans (Kx.of_same s14))
    refine ⟨tabs_same hT13 s14, fun H15 y15 hT15 => ?_⟩
    refine fault_num rfl rfl rfl hwv.2 (fun Q E h => ⟨_, _, rfl, .inr ⟨m, rfl, hm1, ?_⟩⟩) fun H16 s16 => ?_
    · rcases hwv.1 with z | ⟨k, rfl, hk⟩
      · exact .inl ⟨z H15, h⟩
      · exact .inr ⟨k, rfl, .inl ⟨hk, h⟩⟩
    refine ⟨_, rfl, iteF ?_⟩
    have hP16 := (hP14.ext y15).same s16
    have x16 := x14.trans ((Kx.of_ext y15).trans (Kx.of_same s16))
    have hT16 := tabs_same hT15 s16
    -- great
    refine ⟨_, rfl, _, _, rfl, rfl, ⟨by decide, by decide, by decide⟩, p, l, ns, a4, b4, _, rfl, hP16, by omega, by decide, by decide, fun d5 a5 b5 H17 d50 d51 ha5 hP17 hK17 => ?_⟩
    obtain ⟨gt, hgt⟩ : ∃ k : Nat, 721 + d5 = (k : Int) := ⟨(721 + d5).toNat, by omega⟩
    have hg7 : 721 ≤ gt := by omega
    have hT17 := tabs_kp hT16 hK17 hP16
    have x17 := x16.trans (Kx.of_kp hK17)
    refine ⟨_, _, rfl, rfl, ?_⟩
    refine ⟨hT17, fun H18 y18 hT18 => ?_⟩
    refine fault_num (v := .int (gt : Int)) (u := .int (gt : Int)) (x := .int (gt : Int)) (by rw [← hgt]; rfl) (by rw [← hgt]; rfl) (by rw [← hgt]; rfl) (.int _) (fun Q E h => ⟨_, _, rfl, .inr ⟨gt, rfl, by omega, .inr ⟨gt, rfl, .inl ⟨Nat.le_refl gt, h⟩⟩⟩⟩) fun H19 s19 => ?_
    refine ⟨_, rfl, iteF ?_⟩
    have x19 := x17.trans ((Kx.of_ext y18).trans (Kx.of_same s19))
    have hP19 := (hP17.ext y18).same s19
    refine ⟨tabs_same hT18 s19, fun H20 y20 hT20 => ?_⟩
    refine fault_fine (v := .int (gt : Int)) (u := .int (r : Int)) (by rw [← hgt]; rfl) rfl (fun Q E h => ⟨_, _, rfl, .inr ⟨gt, rfl, by omega, .inr ⟨r, rfl, .inr ⟨by omega, .inl ⟨by omega, h⟩⟩⟩⟩⟩) fun H21 s21 => ?_
    exact q a5 b5 H21 (by omega) ((hP19.ext y20).same s21) (x19.trans ((Kx.of_ext y20).trans (Kx.of_same s21))) (tabs_same hT20 s21)
end
end Ef
set_option Elab.async false
set_option linter.all false
set_option maxRecDepth 100000
set_option maxHeartbeats 8000000
namespace Ef
open PySem PySem.Spec PyProof.Rows L2 ClX
abbrev sLr : Stmt := top 34
theorem cut_hiV (xs : List V) (k : Nat) : cutV xs none (some (k : Int)) = xs.take k := by
  unfold cutV
  rw [HT.sIx_none, HT.sIx_nat, List.drop_zero, Nat.sub_zero]
  rcases Nat.lt_or_ge k xs.length with z | z
  · rw [Nat.min_eq_left (by omega)]
  · rw [Nat.min_eq_right z, List.take_length, List.take_of_length_le z]
theorem cut_loV (xs : List V) (k : Nat) (hk : k ≤ xs.length) : cutV xs (some (k : Int)) none = xs.drop k := by
  unfold cutV
  rw [HT.sIx_none, HT.sIx_nat, Nat.min_eq_left hk, List.take_of_length_le (by rw [List.length_drop]; omega)]
theorem inV_ints (n : Int) : ∀ ns : List Int, inV (.int n) (ns.map V.int) = decide (n ∈ ns)
  | [] => by simp [inV]
  | c :: ns => by
    show (eqV (.int c) (.int n) || inV (.int n) (ns.map V.int)) = _
    rw [inV_ints n ns, show eqV (.int c) (.int n) = decide (c = n) from rfl]
    by_cases h1 : c = n
    · rw [decide_eq_true h1, decide_eq_true (show n ∈ c :: ns from List.mem_cons.mpr (.inl h1.symm))]; rfl
    · by_cases h2 : n ∈ ns
      · rw [decide_eq_true h2, decide_eq_true (List.mem_cons.mpr (.inr h2)), Bool.or_true]
      · rw [decide_eq_false h1, decide_eq_false h2, decide_eq_false (fun z => (List.mem_cons.mp z).elim (fun w => h1 w.symm) h2)]; rfl
theorem flat_ints : ∀ ns : List Int, (ns.map V.int).all flatV = true
  | [] => rfl
  | c :: ns => by
    show (flatV (.int c) && (ns.map V.int).all flatV) = true
    rw [flat_ints ns]; rfl
theorem SzOk.uniq {ms : List Int} {k k' : Nat} (h : SzOk ms k) (h' : SzOk ms k') : k = k' := by
  rcases h.2 with z | ⟨x, hx, ex⟩
  · rcases h'.2 with w | ⟨y, hy, ey⟩
    · omega
    · have := h.1 y hy; omega
  · have a1 := h'.1 x hx
    rcases h'.2 with w | ⟨y, hy, ey⟩
    · omega
    · have := h.1 y hy; omega
section
variable {P : Program} {w : World} {K : PySem.W.Frag} {mg : Str → Option Value} {base : Heap}
theorem fault_place {C CP CN CF CL : Addr} {σ : L2.St} {H : Hp} {i k : Nat} {a : Addr} {x : V} {R : VK} (hi : σ[i]? = some (some (.ref a))) (hk : σ[k]? = some (some x)) (hx : ∀ H', Same H H' → DataAt K H' x) (hsp : ∀ Q E, Errs H CP "n" x E → spOf K C CP CL [.ref C, .ref a] H Q E) (hR : ∀ H', Same H H' → R (.bl false) H') :
    TFault CP CN CF CL (fun E H' Q' => tCMeth C (spOf K C CP CL) E (tC (V.ref C)) (tCons (tVar i) tNil) σ H' Q') H fun x H1 => tTup (tCons (tC (V.str "place")) (tCons (tVar k) tNil)) σ H1 fun y H2 => rNeD K x y H2 R :=
  ⟨rfl, _, hi, hsp _ _ fun dd H2 s2 hd2 hx2 => .inl ⟨rfl, _, dd, rfl, hx2, fun tt H3 s3 e3 => tagA_due (by decide +kernel) (by decide +kernel) (by decide +kernel) (fun H4 s4 => hx H4 (s2.trans (s3.trans s4))) hk e3 fun H4 s4 => hR H4 (s2.trans (s3.trans s4))⟩⟩
def spLr (K : PySem.W.Frag) (PR PL PT : Addr) : Sp := fun vs H Q _ => ∃ (p l : Addr) (ns : List Int) (a b : Int), vs = [.ref p] ∧ Pen H p l ns a b ∧ a ≤ 900000000 ∧ LamX.Tabs (TT PR PL PT) H ∧ ∀ (a' b' : Int) H', a' ≤ a + 30 → Pen H' p l ns a' b' → Kx p H H' → LamX.Tabs (TT PR PL PT) H' → Q (.bl true) H'
theorem scLr : FnScope ["pen", "places", "many", "handed", "where", "odd", "at", "bad", "late", "k", "spot", "n"] ["pen"] (defScope sLr) := ⟨rfl, rfl, rfl, by decide +kernel, rfl, by decide +kernel, by decide +kernel⟩
theorem ok_lr {f C CP CN CF CL fP fN fF fL g cR PR PL PT gr : Addr} {mc : Value} {pr : Addr} {oc oc2 kV doc pm ct kV2 doc2 pm2 cdv2 ct2 : Value} {od an od2 an2 : Option Addr} {osl osl2 : Array (Option Value)}
    (lk : K.lookup f = some ⟨oc, od, .func (PySem.W.fnOf "_law_list_right" "_law_list_right" (defArgs sLr) (defBody sLr) (defScope sLr) .none kV doc pm an (.ref cR) ct), osl⟩) (hcd : PySem.W.codeIn K (.ref cR) "_law_list_right" = true)
    (T : TxtW mg) (hmax : mg "max" = none) (CW : ClsQ K mg C) (CR : CRead K C mc) (CMo : CMet K C mc "of" pr gr) (GMo : FnR P w K mg base (CX P w) 5 gr (spOf K C CP CL))
    (FT : FaultAt K mg g oc2 od2 an2 kV2 doc2 pm2 cdv2 ct2 osl2) (EP : ErrF K mg "BadPlace" "n" CP fP) (EN : ErrF K mg "BadNumber" "number" CN fN) (EFi : ErrF K mg "TooFine" "most" CF fF) (EL : ErrF K mg "TooLate" "most" CL fL) (EM : ErrM K CP CN CF CL) (TB : LamX.TabB base mg cR PL) (DD : Dis PR PL PT)
    (Ddraw : Df P w K mg base 1 "_law_draw" ["pen", "many"] spDraw) (Dpick : Df P w K mg base 2 "_law_pick" ["pen", "some"] (spPick K)) (Disw : Df P w K mg base 2 "_law_is_where" ["where", "model"] (spIsw K C)) :
    FnOk P w K mg base CX0 8 f (PySem.W.fnOf "_law_list_right" "_law_list_right" (defArgs sLr) (defBody sLr) (defScope sLr) .none kV doc pm an (.ref cR) ct) ["pen"] (spLr K PR PL PT) := by
  refine fn_of lk hcd scLr (fun vs H Q E h => ?_) (fun A outer s H vs Q E hr h => ?_)
  · obtain ⟨p, l, ns, a, b, rfl, _⟩ := h
    rfl
  · obtain ⟨p, l, ns, a, b, rfl, hP, ha, hT, q⟩ := h
    refine ⟨_, PSs.nox (pss_cons (ps_set (i := 1) scLr.nd rfl (.inr rfl) (pe_lc (own := [("k", 9)]) (g := gName 9) (by rfl) scLr.nd (pi_range1 (by rfl) T.range (pa_cons (Ddraw.call (hr.mono (by decide)) (pa_cons (pv 0) (pa_cons pe_int pa_nil))) pa_nil)) (blkOk_by (own := [("k", 9)]) (N := ["pen", "places", "many", "handed", "where", "odd", "at", "bad", "late", "k", "spot", "n"]) (sc := defScope sLr) (by decide +kernel)) (fun _ _ _ _ _ => pg_name (i := 9) scLr.nd rfl (Or.inl rfl)) (fun _ _ _ _ _ => pts_nil) (fun _ _ _ _ _ => (Ddraw.call (hr.mono (by decide)) (pa_cons (pv 0) (pa_cons (Dpick.call (hr.mono (by decide)) (pa_cons (pv 0) (pa_cons (pe_lst (pa_cons pe_int (pa_cons pe_int (pa_cons pe_int pa_nil)))) pa_nil))) pa_nil))))))
      (pss_cons (ps_set (i := 1) scLr.nd rfl (.inr rfl) (pe_op op_cat (pv 1) (pe_slice sl_list (pv 1) po_none (po_some (Ddraw.call (hr.mono (by decide)) (pa_cons (pv 0) (pa_cons pe_int pa_nil)))))))
      (pss_cons (ps_set (i := 2) scLr.nd rfl (.inl rfl) (pe_op op_add (pe_callB (cr_max rfl) (by rfl) hmax (by decide +kernel) (pa_cons (pe_lc (own := [("spot", 10)]) (g := gName 10) (by rfl) scLr.nd (pi_list (pe_op op_cat (pv 1) (pe_lst (pa_cons (pe_un un_neg pe_int) pa_nil)))) (blkOk_by (own := [("spot", 10)]) (N := ["pen", "places", "many", "handed", "where", "odd", "at", "bad", "late", "k", "spot", "n"]) (sc := defScope sLr) (by decide +kernel)) (fun _ _ _ _ _ => pg_name (i := 10) scLr.nd rfl (Or.inl rfl)) (fun _ _ _ _ _ => pts_nil) (fun _ _ _ _ _ => (pe_callTy call_int1 (by rfl) T.int (by decide +kernel) (pa_cons (pv 10) pa_nil)))) pa_nil)) pe_int))
      (pss_cons (ps_set (i := 3) scLr.nd rfl (.inl rfl) (pe_callTy call_list_of (by rfl) T.list (by decide +kernel) (pa_cons (pv 1) pa_nil)))
      (pss_cons (ps_set (i := 4) scLr.nd rfl (.inl rfl) (pe_cmeth (pe_glob (v := .ref C) (by rfl) CW.mgC rfl) CR CMo GMo (hr.mono (by decide)) passF (pa_cons (pv 3) pa_nil)))
      (pss_cons (ps_expr (pe_bm PySem.F.plainAttrs_list PySem.F.slot_list_append PySem.F.type_list_append mt_append (pv 3) (pa_cons pe_int pa_nil)))
      (pss_cons (ps_if (pt_not (pt_val (Disw.call (hr.mono (by decide)) (pa_cons (pv 4) (pa_cons (pe_tup (pa_cons (pe_lc (own := [("n", 11)]) (g := gName 11) (by rfl) scLr.nd (pi_range1 (by rfl) T.range (pa_cons (pv 2) pa_nil)) (blkOk_by (own := [("n", 11)]) (N := ["pen", "places", "many", "handed", "where", "odd", "at", "bad", "late", "k", "spot", "n"]) (sc := defScope sLr) (by decide +kernel)) (fun _ _ _ _ _ => pg_name (i := 11) scLr.nd rfl (Or.inl rfl)) (fun _ _ _ _ _ => pts_nil) (fun _ _ _ _ _ => (pe_cmpR (show OpR _ (compareOp .In) (rIn K false) from op_in_seq) (pv 11) (pv 1) (by rfl)))) (pa_cons (pe_lst (pa_cons pe_bl pa_nil)) pa_nil))) pa_nil))))) (pss_one (ps_ret pe_bl)) pss_nil)
      (pss_cons (ps_set (i := 5) scLr.nd rfl (.inl rfl) (Dpick.call (hr.mono (by decide)) (pa_cons (pv 0) (pa_cons (pe_lst (pa_cons (pe_un un_neg pe_int) (pa_cons pe_bl (pa_cons pe_non (pa_cons pe_str (pa_cons (pe_tup (pa_cons pe_int pa_nil)) pa_nil)))))) pa_nil))))
      (pss_cons (ps_set (i := 6) scLr.nd rfl (.inl rfl) (Ddraw.call (hr.mono (by decide)) (pa_cons (pv 0) (pa_cons (pe_op op_add (pe_callB call_len_seq (by rfl) T.len PySem.boot_len (pa_cons (pv 1) pa_nil)) pe_int) pa_nil))))
      (pss_cons (ps_set (i := 7) scLr.nd rfl (.inr rfl) (pe_op op_cat (pe_op op_cat (pe_op op_cat (pe_slice sl_list (pv 1) po_none (po_some (pv 6))) (pe_lst (pa_cons (pv 5) pa_nil))) (pe_slice sl_list (pv 1) (po_some (pv 6)) po_none)) (pe_lst (pa_cons (pe_op op_pow pe_int pe_int) pa_nil))))
      (pss_cons (ps_if (pt_cmpR (op_neD hr.units) (LamX.pe_lamcall (k := 5) (by rfl) FT.mg_ FT.kp FT.lk FT.cd FT.b scFault rfl (.inl rfl) (fault_gives EP EN EFi EL EM) TB rfl (show (PL, ("_law_list_right.<locals>.<lambda>" : Str)) ∈ TT PR PL PT from List.Mem.tail _ (List.Mem.head _)) (huL DD) (hr.mono (by decide)) (LamX.lamS_by (show LamX.lamSB (defScope sLr) _ = true by decide +kernel)) rfl (fun _ _ _ _ _ => rfl) (fun A' outer' s' H' E' f' c' hr' => (pe_cmeth (pe_glob (v := .ref C) (by rfl) CW.mgC rfl) CR CMo GMo (hr'.mono (by decide)) passX (pa_cons (pv 7) pa_nil)))) (pe_tup (pa_cons pe_str (pa_cons (pv 5) pa_nil))) (nomark _)) (pss_one (ps_ret pe_bl)) pss_nil)
      (pss_cons (ps_set (i := 8) scLr.nd rfl (.inr rfl) (pe_op op_add pe_int (Ddraw.call (hr.mono (by decide)) (pa_cons (pv 0) (pa_cons pe_int pa_nil)))))
      (pss_one (ps_ret (pe_cmpR (op_eqD hr.units) (LamX.pe_lamcall (k := 5) (by rfl) FT.mg_ FT.kp FT.lk FT.cd FT.b scFault rfl (.inl rfl) (fault_gives EP EN EFi EL EM) TB rfl (show (PL, ("_law_list_right.<locals>.<lambda>" : Str)) ∈ TT PR PL PT from List.Mem.tail _ (List.Mem.head _)) (huL DD) (hr.mono (by decide)) (LamX.lamS_by (show LamX.lamSB (defScope sLr) _ = true by decide +kernel)) rfl (fun _ _ _ _ _ => rfl) (fun A' outer' s' H' E' f' c' hr' => (pe_cmeth (pe_glob (v := .ref C) (by rfl) CW.mgC rfl) CR CMo GMo (hr'.mono (by decide)) passX (pa_cons (pe_op op_cat (pv 1) (pe_lst (pa_cons (pv 8) pa_nil))) pa_nil)))) (pe_ifExp (pt_cmpR op_ge (pv 8) pe_int (nomark _)) (pe_tup (pa_cons pe_str (pa_cons pe_int pa_nil))) pe_non) (nomark _)))))))))))))))), ?_⟩
    refine ⟨_, rfl, p, l, ns, a, b, _, rfl, hP, by omega, by decide, by decide, fun d1 a1 b1 H1 d10 d11 ha1 hP1 hK1 => ?_⟩
    refine ⟨d1, rfl, by omega, by omega, fun D hD => ?_⟩
    have hDH : H D = none := by
      refine hK1.free (fun z => ?_) hD
      rw [z, hP1.hd] at hD; cases hD
    have hDp : D ≠ p := fun z => by rw [z, hP.hd] at hDH; cases hDH
    refine lc_range (lo := 0) (n := d1.toNat) (fun i H' => ∃ (acc : List Int) (a' b' : Int), H' D = some (.lst (acc.map V.int)) ∧ acc.length = i ∧ (∀ c ∈ acc, 0 ≤ c ∧ c < 400) ∧ Pen H' p l ns a' b' ∧ a' ≤ a + 1 + 2 * i ∧ Kp p H H')
      ⟨[], a1, b1, upd_same, rfl, fun c hc => (by cases hc), hP1.same (same_new hD), by omega, hK1.trans (Kp.new _ hD)⟩ ?_ ?_
    · rintro i H4 hi ⟨acc, a', b', hA, hl, hb, hP4, ha4, hK4⟩
      refine ⟨rfl, _, rfl, _, rfl, by show 3 ≤ sizeLine; decide, fun l2 hl2 => ?_⟩
      have s5 : Same H4 (upd H4 l2 (.lst [.int 4, .int 30, .int 400])) := same_new hl2
      have e5 : (upd H4 l2 (.lst [.int 4, .int 30, .int 400])) l2 = some (.lst [.int 4, .int 30, .int 400]) := upd_same
      generalize upd H4 l2 (.lst [.int 4, .int 30, .int 400]) = H5 at s5 e5 ⊢
      have hP5 := hP4.same s5
      refine ⟨p, l, l2, ns, a', b', _, rfl, hP5, by omega, .inl (.inl e5), ne_of e5 hP5.hd (by intro q; cases q), by show 1 ≤ 3; decide, by show 3 ≤ 100000; decide, fun j v a5 b5 H6 hj ha5 hP6 hK6 => ?_⟩
      have hv : ∃ mm : Int, v = .int mm ∧ 1 ≤ mm ∧ mm ≤ 400 := by
        have hm := List.mem_of_getElem? hj
        simp only [List.mem_cons, List.not_mem_nil, or_false] at hm
        rcases hm with rfl | rfl | rfl
        · exact ⟨4, rfl, by decide, by decide⟩
        · exact ⟨30, rfl, by decide, by decide⟩
        · exact ⟨400, rfl, by decide, by decide⟩
      obtain ⟨mm, rfl, mm1, mm2⟩ := hv
      refine ⟨p, l, ns, a5, b5, mm, rfl, hP6, by omega, mm1, by omega, fun c a6 b6 H7 c0 c1 ha6 hP7 hK7 => ?_⟩
      have hA7 := hK7 _ _ hDp (hK6 _ _ hDp (s5 _ _ hA))
      refine ⟨_, hA7, by rw [List.length_map]; exact small1000' (by omega), acc ++ [c], a6, b6, by rw [upd_same, List.map_append]; rfl, by rw [List.length_append, hl]; rfl, fun x hx => ?_, ?_, by omega, ((hK4.trans (Kp.of_same s5)).trans (hK6.trans hK7)).mut hDH⟩
      · rcases List.mem_append.mp hx with z | z
        · exact hb x z
        · rw [List.mem_singleton.mp z]; exact ⟨c0, by omega⟩
      · exact ⟨by rw [upd_ne (Ne.symm hDp)]; exact hP7.hd, by rw [upd_ne (fun z => by rw [← z, hP.hl] at hDH; cases hDH)]; exact hP7.hl, hP7.len, hP7.a0, hP7.b0⟩
    rintro H4 ⟨acc, a4, b4, hA, hl, hb, hP4, ha4, hK4⟩
    have hT4 := tabs_kp hT hK4 hP
    -- places
    refine ⟨_, rfl, _, rfl, _, rfl, p, l, ns, a4, b4, _, rfl, hP4, by omega, by decide, by decide, fun d2 a5 b5 H5 d20 d21 ha5 hP5 hK5 => ?_⟩
    obtain ⟨k2, rfl⟩ : ∃ k : Nat, d2 = (k : Int) := ⟨d2.toNat, by omega⟩
    have hA := hK5 _ _ hDp hA
    refine ⟨_, rfl, D, _, rfl, .inl (.inl hA), fun t1 ht1 => ?_⟩
    rw [cut_hiV, ← List.map_take]
    have s6 : Same H5 (upd H5 t1 (.lst ((acc.take k2).map V.int))) := same_new ht1
    have e6 : (upd H5 t1 (.lst ((acc.take k2).map V.int))) t1 = some (.lst ((acc.take k2).map V.int)) := upd_same
    generalize upd H5 t1 (.lst ((acc.take k2).map V.int)) = H6 at s6 e6 ⊢
    have hla : acc.length ≤ 7 := by omega
    have hlt : (acc.take k2).length ≤ 7 := by rw [List.length_take]; omega
    refine ⟨D, t1, _, _, rfl, rfl, s6 _ _ hA, e6, by rw [List.length_map, List.length_map]; exact Nat.le_trans (show acc.length + (acc.take k2).length ≤ 100000 by omega) (by decide), fun D1 hD1 => ?_⟩
    rw [← List.map_append]
    obtain ⟨pl, hpl⟩ : ∃ pl, acc ++ acc.take k2 = pl := ⟨_, rfl⟩
    rw [hpl]
    have hpb : ∀ c ∈ pl, 0 ≤ c ∧ c < 400 := fun c hc => by
      rw [← hpl] at hc
      rcases List.mem_append.mp hc with z | z
      · exact hb c z
      · exact hb c (List.mem_of_mem_take z)
    have hpn : pl.length ≤ 14 := by rw [← hpl, List.length_append]; omega
    have s7 : Same H5 (upd H6 D1 (.lst (pl.map V.int))) := s6.trans (same_new hD1)
    have eP : (upd H6 D1 (.lst (pl.map V.int))) D1 = some (.lst (pl.map V.int)) := upd_same
    generalize upd H6 D1 (.lst (pl.map V.int)) = H7 at s7 eP ⊢
    have hP7 := hP5.same s7
    have hT7 := tabs_same (tabs_kp hT4 hK5 hP4) s7
    have x7 : Kx p H H7 := ((Kx.of_kp hK4).trans (Kx.of_kp hK5)).trans (Kx.of_same s7)
    clear hA hb hla hlt hpl
    -- many
    refine ⟨_, rfl, _, rfl, by show 1 ≤ sizeLine; decide, fun l3 hl3 => ?_⟩
    have s8 : Same H7 (upd H7 l3 (.lst [.int (-1)])) := same_new hl3
    have e8 : (upd H7 l3 (.lst [.int (-1)])) l3 = some (.lst [.int (-1)]) := upd_same
    generalize upd H7 l3 (.lst [.int (-1)]) = H8 at s8 e8 ⊢
    refine ⟨D1, l3, _, _, rfl, rfl, s8 _ _ eP, e8, by rw [List.length_map]; exact Nat.le_trans (show pl.length + 1 ≤ 100000 by omega) (by decide), fun l4 hl4 => ?_⟩
    have hLL : pl.map V.int ++ [V.int (-1)] = (pl ++ [-1]).map V.int := by rw [List.map_append]; rfl
    rw [hLL]
    have s9 : Same H7 (upd H8 l4 (.lst ((pl ++ [-1]).map V.int))) := s8.trans (same_new hl4)
    have eL : (upd H8 l4 (.lst ((pl ++ [-1]).map V.int))) l4 = some (.lst ((pl ++ [-1]).map V.int)) := upd_same
    generalize upd H8 l4 (.lst ((pl ++ [-1]).map V.int)) = H9 at s9 eL ⊢
    refine ⟨l4, rfl, ⟨_, .inl (.inl eL)⟩, fun D2 hD2 => ?_⟩
    refine lc_list (K := K) (a := l4) (xs := (pl ++ [-1]).map V.int) (fun i H' => Same H9 H' ∧ H' D2 = some (.lst (((pl ++ [-1]).take i).map V.int))) ⟨same_new hD2, upd_same⟩ (fun i H' _ hh => .inl (.inl (hh.1 _ _ eL))) ?_ ?_
    · rintro i y H' hi ⟨sx, hx⟩
      rw [List.getElem?_map] at hi
      obtain ⟨c, hc, rfl⟩ := Option.map_eq_some_iff.mp hi
      refine ⟨rfl, _, rfl, .inl ⟨c, rfl, _, hx, by rw [List.length_map, List.length_take, List.length_append]; exact small1000' (show min i (pl.length + 1) ≤ 100000 by omega), same_mut sx hD2, ?_⟩⟩
      rw [upd_same, List.take_succ, hc, Option.toList_some, List.map_append]
      rfl
    rintro H10 ⟨s10, h10⟩
    rw [List.length_map, List.take_length] at h10
    refine ⟨D2, pl ++ [-1], rfl, .inl (.inl h10), by rw [List.length_append]; exact Nat.succ_pos _, fun mx hmx hall => ?_⟩
    have hmx0 : -1 ≤ mx := by
      rcases List.mem_append.mp hmx with z | z
      · have := hpb mx z; omega
      · rw [List.mem_singleton.mp z]; exact Int.le_refl _
    obtain ⟨many, hmany⟩ : ∃ k : Nat, mx + 1 = (k : Int) := ⟨(mx + 1).toNat, by omega⟩
    have hsz : SzOk pl many := by
      refine ⟨fun x hx => by have := hall x (List.mem_append.mpr (.inl hx)); omega, ?_⟩
      rcases List.mem_append.mp hmx with z | z
      · exact .inr ⟨mx, z, hmany.symm⟩
      · have := List.mem_singleton.mp z
        exact .inl (by omega)
    have hmany4 : many ≤ 400 := by
      rcases hsz.2 with z | ⟨x, hx, ex⟩
      · omega
      · have := hpb x hx; omega
    refine ⟨_, _, rfl, rfl, ?_⟩
    dsimp only
    rw [hmany]
    have s711 := s9.trans s10
    have hP10 := hP7.same s711
    have hT10 := tabs_same hT7 s711
    have eP := s711 _ _ eP
    -- handed
    refine ⟨_, rfl, D1, _, rfl, .inl (.inl (.inl eP)), fun l5 hl5 => ?_⟩
    have s12 : Same H10 (upd H10 l5 (.lst (pl.map V.int))) := same_new hl5
    have e5 : (upd H10 l5 (.lst (pl.map V.int))) l5 = some (.lst (pl.map V.int)) := upd_same
    generalize upd H10 l5 (.lst (pl.map V.int)) = H12 at s12 e5 ⊢
    -- where
    refine ⟨rfl, _, rfl, l5, pl, [], rfl, .inl (.inl (by rw [List.append_nil]; exact e5)), fun m hm => (hpb m hm).1, .inr ⟨rfl, fun k hk => .inr ⟨by have := hk.uniq hsz; omega, fun x H13 m' s' nx s13 hc hw => ?_⟩⟩⟩
    obtain rfl : k = many := hk.uniq hsz
    have e5 := s13 _ _ e5
    -- append
    refine ⟨_, rfl, .inl ⟨rfl, _, .inl (.inl e5)⟩, l5, _, _, rfl, rfl, e5, by rw [List.length_map]; exact small1000' (by omega), ?_⟩
    have hw := hw.lst (o := .lst (pl.map V.int ++ [.int 1])) e5
    have s14 : Same H10 (upd H13 l5 (.lst (pl.map V.int ++ [.int 1]))) := same_mut (s12.trans s13) hl5
    generalize upd H13 l5 (.lst (pl.map V.int ++ [.int 1])) = H14 at hw s14 ⊢
    have hP14 := hP10.same s14
    have hT14 := tabs_same hT10 s14
    have eP := s14 _ _ eP
    -- is_where
    refine ⟨_, rfl, _, rfl, _, rfl, by omega, by omega, fun D3 hD3 => ?_⟩
    refine lc_range (lo := 0) (n := k) (fun i H' => Same H14 H' ∧ H' D3 = some (.lst (((List.range i).map fun n : Nat => decide ((n : Int) ∈ pl)).map V.bl))) ⟨same_new hD3, upd_same⟩ ?_ ?_
    · rintro i Hx hi ⟨sx, hA⟩
      refine ⟨rfl, _, rfl, _, rfl, D1, _, rfl, .inl (.inl (.inl (sx _ _ eP))), rfl, flat_ints pl, _, hA, by rw [List.length_map, List.length_map, List.length_range]; exact small1000' (by omega), same_mut sx hD3, ?_⟩
      rw [upd_same, List.range_succ, List.map_append, List.map_append, Int.zero_add]
      show some (HO.lst (_ ++ [V.bl (inV (.int (i : Int)) (pl.map V.int))])) = _
      rw [inV_ints]
      rfl
    rintro H15 ⟨s15, hA⟩
    have hA : H15 D3 = some (.lst ((ofL pl k).map V.bl)) := hA
    refine ⟨by show 1 ≤ sizeLine; decide, fun lf hlf => ?_⟩
    have s16 : Same H15 (upd H15 lf (.lst [.bl false])) := same_new hlf
    have e16 : (upd H15 lf (.lst [.bl false])) lf = some (.lst ([false].map V.bl)) := upd_same
    generalize upd H15 lf (.lst [.bl false]) = H16 at s16 e16 ⊢
    refine ⟨by show 2 ≤ sizeLine; decide, fun t ht => ?_⟩
    have s17 : Same H16 (upd H16 t (.tup [.ref D3, .ref lf])) := same_new ht
    have e17 : (upd H16 t (.tup [.ref D3, .ref lf])) t = some (.tup [.ref D3, .ref lf]) := upd_same
    generalize upd H16 t (.tup [.ref D3, .ref lf]) = H17 at s17 e17 ⊢
    refine ⟨x, t, m', s', ofL pl k, [false], ofL pl k, [false], rfl, hw.same (s15.trans (s16.trans s17)), ⟨D3, lf, e17, s17 _ _ (s16 _ _ hA), s17 _ _ e16⟩, by decide, by decide, by rw [ofL_len]; omega, hc, rfl, rfl, fun H18 s18 => ?_⟩
    refine ⟨_, rfl, iteF ?_⟩
    have s1418 := s15.trans (s16.trans (s17.trans s18))
    have hP18 := hP14.same s1418
    have hT18 := tabs_same hT14 s1418
    have x18 : Kx p H H18 := x7.trans (Kx.of_same (s711.trans (s14.trans s1418)))
    have eP := s1418 _ _ eP
    -- odd
    refine ⟨_, rfl, _, rfl, by show 1 ≤ sizeLine; decide, fun tO htO => ?_⟩
    have s19 : Same H18 (upd H18 tO (.tup [.int 2])) := same_new htO
    have eO : (upd H18 tO (.tup [.int 2])) tO = some (.tup [.int 2]) := upd_same
    generalize upd H18 tO (.tup [.int 2]) = H19 at s19 eO ⊢
    refine ⟨by show 5 ≤ sizeLine; decide, fun l6 hl6 => ?_⟩
    have s20 : Same H19 (upd H19 l6 (.lst [.int (-1), .bl true, .non, .str "3", .ref tO])) := same_new hl6
    have e20 : (upd H19 l6 (.lst [.int (-1), .bl true, .non, .str "3", .ref tO])) l6 = some (.lst [.int (-1), .bl true, .non, .str "3", .ref tO]) := upd_same
    have eO := s20 _ _ eO
    generalize upd H19 l6 (.lst [.int (-1), .bl true, .non, .str "3", .ref tO]) = H20 at s20 e20 eO ⊢
    have hP20 := hP18.same (s19.trans s20)
    refine ⟨p, l, l6, ns, a5, b5, _, rfl, hP20, by omega, .inl (.inl e20), ne_of e20 hP20.hd (by intro q; cases q), by show 1 ≤ 5; decide, by show 5 ≤ 100000; decide, fun j6 ov a6 b6 H21 hj6 ha6 hP21 hK21 => ?_⟩
    have hov : ∀ H' : Hp, H' tO = some (.tup [.int 2]) → NotFrom K H' ov 0 ∧ DataAt K H' ov := fun H' k1 => by
      have hm := List.mem_of_getElem? hj6
      simp only [List.mem_cons, List.not_mem_nil, or_false] at hm
      rcases hm with rfl | rfl | rfl | rfl | rfl
      · exact ⟨.inl ⟨_, rfl, by decide⟩, (DataV.int _).at_ K H'⟩
      · exact ⟨.inr (noi_bl K _ H'), (DataV.bl _).at_ K H'⟩
      · exact ⟨.inr (noi_non K H'), DataV.non.at_ K H'⟩
      · exact ⟨.inr (noi_str K _ H'), (DataV.str (by decide +kernel) (by decide +kernel) (by decide +kernel)).at_ K H'⟩
      · exact ⟨.inr ⟨"tuple", false, false, .base (.tup k1), by decide +kernel, by decide +kernel, rfl⟩, _, .tup (.inl (.inl k1)) (.cons (.int _) .nil), by decide +kernel, by decide +kernel, by decide +kernel⟩
    have x21 : Kx p H18 H21 := (Kx.of_same (s19.trans s20)).trans (Kx.of_kp hK21)
    have hT21 := tabs_kp (tabs_same hT18 (s19.trans s20)) hK21 hP20
    have eP := x21.lst hP18.hd eP
    have eO := (Kx.of_kp hK21).tup hP20.hd eO
    -- at
    refine ⟨_, rfl, _, rfl, D1, _, rfl, .inl (.inl (.inl eP)), _, _, rfl, rfl, p, l, ns, a6, b6, _, rfl, hP21, by omega, by rw [List.length_map]; omega, by rw [List.length_map]; omega, fun d7 a7 b7 H22 d70 d71 ha7 hP22 hK22 => ?_⟩
    obtain ⟨at_, rfl⟩ : ∃ k : Nat, d7 = (k : Int) := ⟨d7.toNat, by omega⟩
    have hat : at_ ≤ pl.length := by rw [List.length_map] at d71; omega
    have x22 := x21.trans (Kx.of_kp hK22)
    have hT22 := tabs_kp hT21 hK22 hP21
    have eP := (Kx.of_kp hK22).lst hP21.hd eP
    have eO := (Kx.of_kp hK22).tup hP21.hd eO
    -- bad
    refine ⟨_, rfl, _, rfl, _, rfl, D1, _, rfl, .inl (.inl eP), fun t1b ht1b => ?_⟩
    rw [cut_hiV, ← List.map_take]
    have s23 : Same H22 (upd H22 t1b (.lst ((pl.take at_).map V.int))) := same_new ht1b
    have e23 : (upd H22 t1b (.lst ((pl.take at_).map V.int))) t1b = some (.lst ((pl.take at_).map V.int)) := upd_same
    generalize upd H22 t1b (.lst ((pl.take at_).map V.int)) = H23 at s23 e23 ⊢
    refine ⟨_, rfl, by show 1 ≤ sizeLine; decide, fun l7 hl7 => ?_⟩
    have s24 : Same H22 (upd H23 l7 (.lst [ov])) := s23.trans (same_new hl7)
    have e24 : (upd H23 l7 (.lst [ov])) l7 = some (.lst [ov]) := upd_same
    have e23 := same_new (o := .lst [ov]) hl7 _ _ e23
    generalize upd H23 l7 (.lst [ov]) = H24 at s24 e23 e24 ⊢
    have htl : (pl.take at_).length = at_ := by rw [List.length_take]; omega
    refine ⟨t1b, l7, _, _, rfl, rfl, e23, e24, by rw [List.length_map, htl]; exact Nat.le_trans (show at_ + 1 ≤ 100000 by omega) (by decide), fun l8 hl8 => ?_⟩
    have s25 : Same H22 (upd H24 l8 (.lst ((pl.take at_).map V.int ++ [ov]))) := s24.trans (same_new hl8)
    have e25 : (upd H24 l8 (.lst ((pl.take at_).map V.int ++ [ov]))) l8 = some (.lst ((pl.take at_).map V.int ++ [ov])) := upd_same
    generalize upd H24 l8 (.lst ((pl.take at_).map V.int ++ [ov])) = H25 at s25 e25 ⊢
    refine ⟨_, rfl, _, rfl, _, rfl, D1, _, rfl, .inl (.inl (s25 _ _ eP)), fun t9 ht9 => ?_⟩
    rw [cut_loV _ _ (by rw [List.length_map]; exact hat), ← List.map_drop]
    have s26 : Same H22 (upd H25 t9 (.lst ((pl.drop at_).map V.int))) := s25.trans (same_new ht9)
    have e26 : (upd H25 t9 (.lst ((pl.drop at_).map V.int))) t9 = some (.lst ((pl.drop at_).map V.int)) := upd_same
    have e25 := same_new (o := .lst ((pl.drop at_).map V.int)) ht9 _ _ e25
    generalize upd H25 t9 (.lst ((pl.drop at_).map V.int)) = H26 at s26 e25 e26 ⊢
    have hdl : (pl.drop at_).length ≤ 14 := by rw [List.length_drop]; omega
    refine ⟨l8, t9, _, _, rfl, rfl, e25, e26, by rw [List.length_append, List.length_map, List.length_map, htl]; exact Nat.le_trans (show at_ + 1 + (pl.drop at_).length ≤ 100000 by omega) (by decide), fun l10 hl10 => ?_⟩
    have s27 : Same H22 (upd H26 l10 (.lst ((pl.take at_).map V.int ++ [ov] ++ (pl.drop at_).map V.int))) := s26.trans (same_new hl10)
    have e27 : (upd H26 l10 (.lst ((pl.take at_).map V.int ++ [ov] ++ (pl.drop at_).map V.int))) l10 = some (.lst ((pl.take at_).map V.int ++ [ov] ++ (pl.drop at_).map V.int)) := upd_same
    generalize upd H26 l10 (.lst ((pl.take at_).map V.int ++ [ov] ++ (pl.drop at_).map V.int)) = H27 at s27 e27 ⊢
    refine ⟨_, _, rfl, rfl, ⟨by decide, by decide, by decide⟩, by show 1 ≤ sizeLine; decide, fun l11 hl11 => ?_⟩
    have s28 : Same H22 (upd H27 l11 (.lst [.int ((10 : Int) ^ (30 : Int).toNat)])) := s27.trans (same_new hl11)
    have e28 : (upd H27 l11 (.lst [.int ((10 : Int) ^ (30 : Int).toNat)])) l11 = some (.lst [.int ((10 : Int) ^ (30 : Int).toNat)]) := upd_same
    have e27 := same_new (o := .lst [.int ((10 : Int) ^ (30 : Int).toNat)]) hl11 _ _ e27
    generalize upd H27 l11 (.lst [.int ((10 : Int) ^ (30 : Int).toNat)]) = H28 at s28 e27 e28 ⊢
    refine ⟨l10, l11, _, _, rfl, rfl, e27, e28, by rw [List.length_append, List.length_append, List.length_map, List.length_map, htl]; exact Nat.le_trans (show at_ + 1 + (pl.drop at_).length + 1 ≤ 100000 by omega) (by decide), fun lB hlB => ?_⟩
    have hBB : (pl.take at_).map V.int ++ [ov] ++ (pl.drop at_).map V.int ++ [V.int ((10 : Int) ^ (30 : Int).toNat)] = (pl.take at_).map V.int ++ ov :: ((pl.drop at_).map V.int ++ [V.int ((10 : Int) ^ (30 : Int).toNat)]) := by
      rw [List.append_assoc, List.append_assoc]; rfl
    rw [hBB]
    generalize (pl.drop at_).map V.int ++ [V.int ((10 : Int) ^ (30 : Int).toNat)] = ys
    have s29 : Same H22 (upd H28 lB (.lst ((pl.take at_).map V.int ++ ov :: ys))) := s28.trans (same_new hlB)
    have eB : (upd H28 lB (.lst ((pl.take at_).map V.int ++ ov :: ys))) lB = some (.lst ((pl.take at_).map V.int ++ ov :: ys)) := upd_same
    generalize upd H28 lB (.lst ((pl.take at_).map V.int ++ ov :: ys)) = H29 at s29 eB ⊢
    have hP29 := hP22.same s29
    have hT29 := tabs_same hT22 s29
    have eP := s29 _ _ eP
    have eO := s29 _ _ eO
    -- the first fault
    refine ⟨hT29, fun H30 y30 hT30 => ?_⟩
    have hP30 := hP29.ext y30
    have eB := ext_of y30 eB (fun _ z => by cases z)
    have eP := ext_of y30 eP (fun _ z => by cases z)
    have eO := ext_of y30 eO (fun _ z => by cases z)
    refine fault_place (a := lB) rfl rfl (fun H' s' => (hov H' (s' _ _ eO)).2) (fun Q E h => ⟨lB, pl.take at_, ov :: ys, rfl, .inl (.inl eB), fun m hm => (hpb m (List.mem_of_mem_take hm)).1, .inl ⟨ov, ys, rfl, (hov H30 eO).1, h⟩⟩) fun H31 s31 => ?_
    refine ⟨_, rfl, iteF ?_⟩
    have hP31 := hP30.same s31
    have hT31 := tabs_same hT30 s31
    have eP := s31 _ _ eP
    have x31 : Kx p H H31 := x18.trans (x22.trans ((Kx.of_same s29).trans ((Kx.of_ext y30).trans (Kx.of_same s31))))
    -- late
    refine ⟨_, rfl, p, l, ns, a7, b7, _, rfl, hP31, by omega, by decide, by decide, fun d8 a8 b8 H32 d80 d81 ha8 hP32 hK32 => ?_⟩
    refine ⟨_, _, rfl, rfl, ?_⟩
    obtain ⟨lt, hlt⟩ : ∃ k : Nat, 9998 + d8 = (k : Int) := ⟨(9998 + d8).toNat, by omega⟩
    dsimp only
    rw [hlt]
    have hT32 := tabs_kp hT31 hK32 hP31
    have eP := (Kx.of_kp hK32).lst hP31.hd eP
    have x32 := x31.trans (Kx.of_kp hK32)
    refine ⟨hT32, fun H33 y33 hT33 => ?_⟩
    have hP33 := hP32.ext y33
    have eP := ext_of y33 eP (fun _ z => by cases z)
    have x33 := x32.trans (Kx.of_ext y33)
    refine ⟨rfl, _, rfl, _, rfl, by show 1 ≤ sizeLine; decide, fun l12 hl12 => ?_⟩
    have s34 : Same H33 (upd H33 l12 (.lst [.int (lt : Int)])) := same_new hl12
    have e34 : (upd H33 l12 (.lst [.int (lt : Int)])) l12 = some (.lst [.int (lt : Int)]) := upd_same
    generalize upd H33 l12 (.lst [.int (lt : Int)]) = H34 at s34 e34 ⊢
    refine ⟨D1, l12, _, _, rfl, rfl, s34 _ _ eP, e34, by rw [List.length_map]; exact Nat.le_trans (show pl.length + 1 ≤ 100000 by omega) (by decide), fun l13 hl13 => ?_⟩
    have s35 : Same H33 (upd H34 l13 (.lst (pl.map V.int ++ [.int (lt : Int)]))) := s34.trans (same_new hl13)
    have e35 : (upd H34 l13 (.lst (pl.map V.int ++ [.int (lt : Int)]))) l13 = some (.lst ((pl ++ [(lt : Int)]).map V.int)) := by rw [upd_same, List.map_append]; rfl
    generalize upd H34 l13 (.lst (pl.map V.int ++ [.int (lt : Int)])) = H35 at s35 e35 ⊢
    have hpos : ∀ m ∈ pl ++ [(lt : Int)], 0 ≤ m := fun m hm => (List.mem_append.mp hm).elim (fun z => (hpb m z).1) fun z => by rw [List.mem_singleton.mp z]; omega
    have fin : ∀ H', Same H33 H' → Q (.bl true) H' := fun H' s' => q a8 b8 H' (by omega) (hP33.same s') (x33.trans (Kx.of_same s')) (tabs_same hT33 s')
    refine ⟨l13, pl ++ [(lt : Int)], [], rfl, .inl (.inl (by rw [List.append_nil]; exact e35)), hpos, .inr ⟨rfl, fun k' hk' => ?_⟩⟩
    have hk2 : k' = lt + 1 := by
      have b1 := hk'.1 (lt : Int) (List.mem_append.mpr (.inr (List.mem_singleton.mpr rfl)))
      rcases hk'.2 with z | ⟨y, hy, ey⟩
      · omega
      · rcases List.mem_append.mp hy with w | w
        · have := hpb y w; omega
        · have := List.mem_singleton.mp w; omega
    by_cases hl10 : 10000 ≤ lt
    · refine .inl ⟨by omega, fun dd H36 s36 hd36 hx36 => .inr (.inr (.inr ⟨rfl, _, dd, rfl, hx36, fun tt H37 s37 e37 => ?_⟩))⟩
      refine ⟨_, rfl, _, _, rfl, rfl, _, rfl, ?_⟩
      rw [decide_eq_true (show (10000 : Int) ≤ (lt : Int) by omega)]
      refine iteT (tag_dueE (by decide +kernel) (by decide +kernel) (by decide +kernel) e37 fun H38 s38 => ?_)
      exact fin H38 (s35.trans (s36.trans (s37.trans s38)))
    · refine .inr ⟨by omega, fun x2 H36 m2 s2 nx2 s36 hc2 hw2 => ?_⟩
      refine ⟨_, rfl, _, _, rfl, rfl, _, rfl, ?_⟩
      rw [decide_eq_false (show ¬ (10000 : Int) ≤ (lt : Int) by omega)]
      exact iteF (eq_non (fin H36 (s35.trans s36)))
end
end Ef
set_option Elab.async false
set_option linter.all false
set_option maxRecDepth 100000
set_option maxHeartbeats 8000000
namespace Ef
open PySem PySem.Spec PyProof.Rows L2 ClX
abbrev sLaw : Stmt := top 35
structure TxtL (mg : Str → Option Value) : Prop extends TxtI mg where
  min : mg "min" = none
section
variable {P : Program} {w : World} {K : PySem.W.Frag} {mg : Str → Option Value} {base : Heap}
theorem led_one (b : Bool) (n : Nat) : led [b] n = b := by
  unfold led
  rw [show n % [b].length = 0 from Nat.mod_one n]
  rfl
theorem since_canon {low m s : Nat} (hc : Canon (List.replicate low false) [true] m s) : m = 1 ∧ s = low := by
  refine ⟨Nat.dvd_one.mp hc.dvd, StartOk.uniq hc.start ⟨by rw [List.length_replicate]; exact Nat.le_refl _, fun n h1 h2 => by rw [List.length_replicate] at h2; omega, ?_⟩⟩
  rcases Nat.eq_zero_or_pos low with z | z
  · exact .inl z
  · refine .inr ?_
    rw [led_one, List.getD_eq_getElem?_getD, List.getElem?_replicate, if_pos (by omega)]
    exact fun z => by cases z
theorem no_true (low : Nat) : inV (.bl true) (((List.replicate low false).take low).map V.bl) = false := by
  rw [inV_bls, List.take_replicate, Nat.min_self]
  induction low with
  | zero => rfl
  | succ k ih => rw [List.replicate_succ, List.contains_cons, ih]; rfl
theorem fault_since {C CP CN CF CL : Addr} {σ : L2.St} {H : Hp} {i : Nat} {x : V} {R : VK} (hi : σ[i]? = some (some x)) (hx : DataV x) (hN : NotFrom K H x 0) (hR : ∀ H', Same H H' → R (.bl false) H') :
    TFault CP CN CF CL (fun E H' Q' => tCMeth C (spSince K C CP CL) E (tC (V.ref C)) (tCons (tVar i) tNil) σ H' Q') H fun x H1 => tTup (tCons (tC (V.str "place")) (tCons (tVar i) tNil)) σ H1 fun y H2 => rNeD K x y H2 R :=
  ⟨rfl, _, hi, x, rfl, .inl ⟨hN, fun dd H2 s2 hd2 hx2 => .inl ⟨rfl, _, dd, rfl, hx2, fun tt H3 s3 e3 => tagv_due (by decide +kernel) (by decide +kernel) (by decide +kernel) hx hi e3 fun H4 s4 => hR H4 (s2.trans (s3.trans s4))⟩⟩⟩
def spLaw (K : PySem.W.Frag) (PR PL PT : Addr) : Sp := fun vs H Q _ => ∃ (a : Addr) (ns : List Int), vs = [.ref a] ∧ SqL K H a (ns.map V.int) ∧ ns.length ≤ 63 ∧ LamX.Tabs (TT PR PL PT) H ∧ ∀ H', Q (.bl true) H'
theorem scLaw : FnScope ["script", "pen", "turn", "low", "where", "odd"] ["script"] (defScope sLaw) := ⟨rfl, rfl, rfl, by decide +kernel, rfl, by decide +kernel, by decide +kernel⟩
theorem ok_law {f C CP CN CF CL fP fN fF fL g cL PR PL PT gs go : Addr} {mc : Value} {ps' po : Addr} {oc oc2 kV doc pm ct kV2 doc2 pm2 cdv2 ct2 : Value} {od an od2 an2 : Option Addr} {osl osl2 : Array (Option Value)}
    (lk : K.lookup f = some ⟨oc, od, .func (PySem.W.fnOf "law" "law" (defArgs sLaw) (defBody sLaw) (defScope sLaw) .none kV doc pm an (.ref cL) ct), osl⟩) (hcd : PySem.W.codeIn K (.ref cL) "law" = true)
    (T : TxtL mg) (CW : ClsQ K mg C) (CR : CRead K C mc) (CMs : CMet K C mc "since" ps' gs) (GMs : FnR P w K mg base (CX P w) 5 gs (spSince K C CP CL)) (CMo : CMet K C mc "of" po go) (GMo : FnR P w K mg base (CX P w) 5 go (spOf K C CP CL))
    (FT : FaultAt K mg g oc2 od2 an2 kV2 doc2 pm2 cdv2 ct2 osl2) (EP : ErrF K mg "BadPlace" "n" CP fP) (EN : ErrF K mg "BadNumber" "number" CN fN) (EFi : ErrF K mg "TooFine" "most" CF fF) (EL : ErrF K mg "TooLate" "most" CL fL) (EM : ErrM K CP CN CF CL) (TB : LamX.TabB base mg cL PT) (DD : Dis PR PL PT)
    (Dpen : Df P w K mg base 1 "_law_pen" ["script"] (spPen K)) (Ddraw : Df P w K mg base 1 "_law_draw" ["pen", "many"] spDraw) (Dpick : Df P w K mg base 2 "_law_pick" ["pen", "some"] (spPick K)) (Disw : Df P w K mg base 2 "_law_is_where" ["where", "model"] (spIsw K C))
    (Drr : Df P w K mg base 8 "_law_rest_right" ["pen"] (spRr K PR PL PT)) (Dlr : Df P w K mg base 8 "_law_list_right" ["pen"] (spLr K PR PL PT)) :
    FnOk P w K mg base CX0 9 f (PySem.W.fnOf "law" "law" (defArgs sLaw) (defBody sLaw) (defScope sLaw) .none kV doc pm an (.ref cL) ct) ["script"] (spLaw K PR PL PT) := by
  refine fn_of lk hcd scLaw (fun vs H Q E h => ?_) (fun A outer s H vs Q E hr h => ?_)
  · obtain ⟨a, ns, rfl, _⟩ := h
    rfl
  · obtain ⟨a, ns, rfl, hS, hlen, hTab, q⟩ := h
    refine ⟨_, PSs.nox (pss_cons (ps_set (i := 1) scLaw.nd rfl (.inr rfl) (Dpen.call (hr.mono (by decide)) (pa_cons (pv 0) pa_nil)))
      (pss_cons (ps_for PassesOwn.never rfl (pi_range1 (by rfl) T.range (pa_cons (pe_op op_add pe_int (pe_callB (call_min2 rfl) (by rfl) T.min (by decide +kernel) (pa_cons pe_int (pa_cons (pe_callB call_len_seq (by rfl) T.len PySem.boot_len (pa_cons (pv 0) pa_nil)) pa_nil)))) pa_nil)) (pg_name (i := 2) scLaw.nd rfl (.inl rfl))
      (pss_cons (ps_if (pw_or (pt_not (pt_val (Drr.call (hr.mono (by decide)) (pa_cons (pv 1) pa_nil)))) (pw_or1 (pt_not (pt_val (Dlr.call (hr.mono (by decide)) (pa_cons (pv 1) pa_nil)))))).pt (pss_one (ps_ret pe_bl)) pss_nil)
      (pss_cons (ps_set (i := 3) scLaw.nd rfl (.inl rfl) (Dpick.call (hr.mono (by decide)) (pa_cons (pv 1) (pa_cons (pe_lst (pa_cons pe_int (pa_cons pe_int (pa_cons pe_int (pa_cons pe_int (pa_cons pe_int (pa_cons pe_int pa_nil))))))) pa_nil))))
      (pss_cons (ps_set (i := 4) scLaw.nd rfl (.inl rfl) (pe_cmeth (pe_glob (v := .ref C) (by rfl) CW.mgC rfl) CR CMs GMs (hr.mono (by decide)) passF (pa_cons (pv 3) pa_nil)))
      (pss_cons (ps_if (pw_or (pt_cmpR (op_neD hr.units) (pe_tup (pa_cons (pe_fld (pv 4) rfl) (pa_cons (pe_fld (pv 4) rfl) (pa_cons (pe_fld (pv 4) rfl) pa_nil)))) (pe_tup (pa_cons pe_int (pa_cons (pv 3) (pa_cons (pe_tup (pa_cons pe_bl pa_nil)) pa_nil)))) (nomark _)) (pw_or1 (pt_cmpR op_in_seq pe_bl (pe_fld (pv 4) rfl) (by rfl)))).pt (pss_one (ps_ret pe_bl)) pss_nil)
      (pss_cons (ps_set (i := 5) scLaw.nd rfl (.inr rfl) (Dpick.call (hr.mono (by decide)) (pa_cons (pv 1) (pa_cons (pe_lst (pa_cons (pe_un un_neg pe_int) (pa_cons pe_bl (pa_cons pe_non (pa_cons pe_str (pa_cons (pe_un un_neg (pe_op op_pow pe_int pe_int)) pa_nil)))))) pa_nil))))
      (pss_cons (ps_if (pt_cmpR (op_neD hr.units) (LamX.pe_lamcall (k := 5) (by rfl) FT.mg_ FT.kp FT.lk FT.cd FT.b scFault rfl (.inl rfl) (fault_gives EP EN EFi EL EM) TB rfl (show (PT, ("law.<locals>.<lambda>" : Str)) ∈ TT PR PL PT from List.Mem.tail _ (List.Mem.tail _ (List.Mem.head _))) (huT DD) (hr.mono (by decide)) (LamX.lamS_by (show LamX.lamSB (defScope sLaw) _ = true by decide +kernel)) rfl (fun _ _ _ _ _ => rfl) (fun A' outer' s' H' E' f' c' hr' => (pe_cmeth (pe_glob (v := .ref C) (by rfl) CW.mgC rfl) CR CMs GMs (hr'.mono (by decide)) passX (pa_cons (pv 5) pa_nil)))) (pe_tup (pa_cons pe_str (pa_cons (pv 5) pa_nil))) (nomark _)) (pss_one (ps_ret pe_bl)) pss_nil)
      (pss_one (ps_if (pt_cmpR (op_neD hr.units) (LamX.pe_lamcall (k := 5) (by rfl) FT.mg_ FT.kp FT.lk FT.cd FT.b scFault rfl (.inl rfl) (fault_gives EP EN EFi EL EM) TB rfl (show (PT, ("law.<locals>.<lambda>" : Str)) ∈ TT PR PL PT from List.Mem.tail _ (List.Mem.tail _ (List.Mem.head _))) (huT DD) (hr.mono (by decide)) (LamX.lamS_by (show LamX.lamSB (defScope sLaw) _ = true by decide +kernel)) rfl (fun _ _ _ _ _ => rfl) (fun A' outer' s' H' E' f' c' hr' => (pe_cmeth (pe_glob (v := .ref C) (by rfl) CW.mgC rfl) CR CMs GMs (hr'.mono (by decide)) passX (pa_cons (pe_op op_add pe_int (Ddraw.call (hr'.mono (by decide)) (pa_cons (pv 1) (pa_cons (pe_op op_pow pe_int pe_int) pa_nil)))) pa_nil)))) (pe_tup (pa_cons pe_str (pa_cons pe_int pa_nil))) (nomark _)) (pss_one (ps_ret pe_bl)) pss_nil)))))))))
      (pss_one (ps_ret (pe_and (Disw.call (hr.mono (by decide)) (pa_cons (pe_cmeth (pe_glob (v := .ref C) (by rfl) CW.mgC rfl) CR CMo GMo (hr.mono (by decide)) passF (pa_cons (pe_lst pa_nil) pa_nil)) (pa_cons (pe_tup (pa_cons (pe_lst pa_nil) (pa_cons (pe_lst (pa_cons pe_bl pa_nil)) pa_nil))) pa_nil))) (pe_one (Disw.call (hr.mono (by decide)) (pa_cons (pe_cmeth (pe_glob (v := .ref C) (by rfl) CW.mgC rfl) CR CMs GMs (hr.mono (by decide)) passF (pa_cons pe_int pa_nil)) (pa_cons (pe_tup (pa_cons (pe_lst pa_nil) (pa_cons (pe_lst (pa_cons pe_bl pa_nil)) pa_nil))) pa_nil))))))))), ?_⟩
    refine ⟨_, rfl, a, ns, rfl, hS, hlen, fun p l H0 hp0 s0 hP0 => ?_⟩
    refine ⟨_, rfl, a, _, rfl, .inl (s0.seq hS), _, _, rfl, _, _, rfl, rfl, ?_⟩
    have hz : ∃ z : Int, (if (((ns.map V.int).length : Nat) : Int) < 4 then (((ns.map V.int).length : Nat) : Int) else 4) = z ∧ 0 ≤ z ∧ z ≤ 4 := by
      refine ⟨_, rfl, ?_, ?_⟩ <;> split <;> omega
    obtain ⟨z, ez, z0, z6⟩ := hz
    rw [ez]
    refine ⟨_, rfl, by omega, by omega, ?_⟩
    have hT0 := tabs_same hTab s0
    refine for_range (lo := 0) (n := (3 + z).toNat) (fun i σ H' => ∃ (a' b' : Int) (y2 y3 y4 y5 : Option V), Pen H' p l ns a' b' ∧ a' ≤ 10000 * i ∧ LamX.Tabs (TT PR PL PT) H' ∧ σ = [some (.ref a), some (.ref p), y2, y3, y4, y5])
      ⟨0, 0, none, none, none, none, hP0, by omega, hT0, rfl⟩ ?_ ?_
    · rintro i σ H1 hi ⟨a1, b1, y2, y3, y4, y5, hP1, ha1, hT1, rfl⟩
      have hi9 : i < 12 := by omega
      refine ⟨_, rfl, p, l, ns, a1, b1, rfl, hP1, by omega, hT1, fun a2 b2 H2 ha2 hP2 x2 hT2 => ?_⟩
      refine ⟨_, rfl, iteF ?_⟩
      refine ⟨_, rfl, p, l, ns, a2, b2, rfl, hP2, by omega, hT2, fun a3 b3 H3 ha3 hP3 x3 hT3 => ?_⟩
      refine ⟨_, rfl, iteF ?_⟩
      -- low
      refine ⟨_, rfl, by show 6 ≤ sizeLine; decide, fun l1 hl1 => ?_⟩
      have s4 : Same H3 (upd H3 l1 (.lst [.int 0, .int 1, .int 17, .int 300, .int 9999, .int 10000])) := same_new hl1
      have e4 : (upd H3 l1 (.lst [.int 0, .int 1, .int 17, .int 300, .int 9999, .int 10000])) l1 = some (.lst [.int 0, .int 1, .int 17, .int 300, .int 9999, .int 10000]) := upd_same
      generalize upd H3 l1 (.lst [.int 0, .int 1, .int 17, .int 300, .int 9999, .int 10000]) = H4 at s4 e4 ⊢
      have hP4 := hP3.same s4
      refine ⟨p, l, l1, ns, a3, b3, _, rfl, hP4, by omega, .inl (.inl e4), ne_of e4 hP4.hd (by intro q; cases q), by show 1 ≤ 6; decide, by show 6 ≤ 100000; decide, fun j1 lv a5 b5 H5 hj1 ha5 hP5 hK5 => ?_⟩
      obtain ⟨low, rfl, hlow⟩ : ∃ m : Nat, lv = .int (m : Int) ∧ m ≤ 10000 := by
        have hm := List.mem_of_getElem? hj1
        simp only [List.mem_cons, List.not_mem_nil, or_false] at hm
        rcases hm with rfl | rfl | rfl | rfl | rfl | rfl
        · exact ⟨0, rfl, by decide⟩
        · exact ⟨1, rfl, by decide⟩
        · exact ⟨17, rfl, by decide⟩
        · exact ⟨300, rfl, by decide⟩
        · exact ⟨9999, rfl, by decide⟩
        · exact ⟨10000, rfl, by decide⟩
      have hT5 := tabs_kp (tabs_same hT3 s4) hK5 hP4
      -- where
      refine ⟨rfl, _, rfl, _, rfl, .inr ⟨low, rfl, .inr ⟨hlow, fun x H6 m st nx s6 hc hw => ?_⟩⟩⟩
      obtain ⟨rfl, rfl⟩ := since_canon hc
      obtain ⟨dx, ra, ba, ea, la, g1, g2, g3, g4, g5⟩ := hw
      refine ⟨_, rfl, x, C, dx, _, _, rfl, g1, CW.cl, CW.nP, wf_period, _, rfl, x, C, dx, _, _, rfl, g1, CW.cl, CW.nS, wf_start, _, rfl, x, C, dx, _, _, rfl, g1, CW.cl, CW.nR, wf_rests, by show 3 ≤ sizeLine; decide, fun t1 ht1 => ?_⟩
      have s7 : Same H6 (upd H6 t1 (.tup [.int ((1 : Nat) : Int), .int (st : Int), .ref ra])) := same_new ht1
      have e7 : (upd H6 t1 (.tup [.int ((1 : Nat) : Int), .int (st : Int), .ref ra])) t1 = some (.tup [.int ((1 : Nat) : Int), .int (st : Int), .ref ra]) := upd_same
      generalize upd H6 t1 (.tup [.int ((1 : Nat) : Int), .int (st : Int), .ref ra]) = H7 at s7 e7 ⊢
      refine ⟨_, rfl, by show 1 ≤ sizeLine; decide, fun t2 ht2 => ?_⟩
      have s8 : Same H6 (upd H7 t2 (.tup [.bl true])) := s7.trans (same_new ht2)
      have e8 : (upd H7 t2 (.tup [.bl true])) t2 = some (.tup ([true].map V.bl)) := upd_same
      have e7 := same_new (o := .tup [.bl true]) ht2 _ _ e7
      generalize upd H7 t2 (.tup [.bl true]) = H8 at s8 e7 e8 ⊢
      refine ⟨by show 3 ≤ sizeLine; decide, fun t3 ht3 => ?_⟩
      have s9 : Same H6 (upd H8 t3 (.tup [.int 1, .int (st : Int), .ref t2])) := s8.trans (same_new ht3)
      have e9 : (upd H8 t3 (.tup [.int 1, .int (st : Int), .ref t2])) t3 = some (.tup [.int 1, .int (st : Int), .ref t2]) := upd_same
      have e7 := same_new (o := .tup [.int 1, .int (st : Int), .ref t2]) ht3 _ _ e7
      have e8 := same_new (o := .tup [.int 1, .int (st : Int), .ref t2]) ht3 _ _ e8
      generalize upd H8 t3 (.tup [.int 1, .int (st : Int), .ref t2]) = H9 at s9 e7 e8 e9 ⊢
      refine ⟨_, _, .tup (.inl (.inl e7)) (.cons (.int _) (.cons (.int _) (.cons (.tup (Same.tup s9 g2) (dp_bls _)) .nil))), .tup (.inl (.inl e9)) (.cons (.int _) (.cons (.int _) (.cons (.tup (.inl (.inl e8)) (dp_bls [true])) .nil))), rfl, rfl, _, rfl, ?_⟩
      rw [show PyData.eqv (.tuple [.int ((1 : Nat) : Int), .int (st : Int), .tuple (([true].take 1).map PyData.bool)]) (.tuple [.int 1, .int (st : Int), .tuple ([true].map PyData.bool)]) = true from (by
        show (PyData.eqv (.int ((1 : Nat) : Int)) (.int 1) && (PyData.eqv (.int (st : Int)) (.int (st : Int)) && (PyData.eqvAll ([true].map PyData.bool) ([true].map PyData.bool) && true))) = true
        rw [eqv_int, eqv_bls]; rfl)]
      refine iteF ?_
      have g1 := s9 _ _ g1
      refine ⟨_, rfl, x, C, dx, _, _, rfl, g1, CW.cl, CW.nB, wf_below, ba, _, rfl, .inr (Same.tup s9 g3), rfl, flat_bls _, _, rfl, ?_⟩
      refine ite2 (fun h => ?_) (fun _ => ?_)
      · have h2 : inV (.bl true) (((List.replicate st false).take st).map V.bl) = true := h
        rw [no_true] at h2
        cases h2
      have s59 := s6.trans s9
      have hP9 := hP5.same s59
      have hT9 := tabs_same hT5 s59
      -- odd
      refine ⟨_, rfl, _, rfl, _, _, rfl, rfl, ⟨by decide, by decide, by decide⟩, _, rfl, by show 5 ≤ sizeLine; decide, fun l2 hl2 => ?_⟩
      have s10 : Same H9 (upd H9 l2 (.lst [.int (-1), .bl true, .non, .str "0", .int (-((10 : Int) ^ (30 : Int).toNat))])) := same_new hl2
      have e10 : (upd H9 l2 (.lst [.int (-1), .bl true, .non, .str "0", .int (-((10 : Int) ^ (30 : Int).toNat))])) l2 = some (.lst [.int (-1), .bl true, .non, .str "0", .int (-((10 : Int) ^ (30 : Int).toNat))]) := upd_same
      generalize upd H9 l2 (.lst [.int (-1), .bl true, .non, .str "0", .int (-((10 : Int) ^ (30 : Int).toNat))]) = H10 at s10 e10 ⊢
      have hP10 := hP9.same s10
      refine ⟨p, l, l2, ns, a5, b5, _, rfl, hP10, by omega, .inl (.inl e10), ne_of e10 hP10.hd (by intro q; cases q), by show 1 ≤ 5; decide, by show 5 ≤ 100000; decide, fun j2 ov a11 b11 H11 hj2 ha11 hP11 hK11 => ?_⟩
      have hov : (∀ H', NotFrom K H' ov 0) ∧ DataV ov := by
        have hm := List.mem_of_getElem? hj2
        simp only [List.mem_cons, List.not_mem_nil, or_false] at hm
        rcases hm with rfl | rfl | rfl | rfl | rfl
        · exact ⟨fun _ => .inl ⟨_, rfl, by decide⟩, .int _⟩
        · exact ⟨fun H' => .inr (noi_bl K _ H'), .bl _⟩
        · exact ⟨fun H' => .inr (noi_non K H'), .non⟩
        · exact ⟨fun H' => .inr (noi_str K _ H'), .str (by decide +kernel) (by decide +kernel) (by decide +kernel)⟩
        · exact ⟨fun _ => .inl ⟨_, rfl, by decide⟩, .int _⟩
      have hT11 := tabs_kp (tabs_same hT9 s10) hK11 hP10
      -- the faults
      refine ⟨hT11, fun H12 y12 hT12 => ?_⟩
      refine fault_since rfl hov.2 (hov.1 H12) fun H13 s13 => ?_
      refine ⟨_, rfl, iteF ?_⟩
      have hP13 := (hP11.ext y12).same s13
      refine ⟨tabs_same hT12 s13, fun H14 y14 hT14 => ?_⟩
      have hP14 := hP13.ext y14
      refine ⟨rfl, _, rfl, _, _, rfl, rfl, ⟨by decide, by decide, by decide⟩, p, l, ns, a11, b11, _, rfl, hP14, by omega, by decide, by decide, fun d15 a15 b15 H15 d150 d151 ha15 hP15 hK15 => ?_⟩
      have hT15 := tabs_kp hT14 hK15 hP14
      obtain ⟨gt, hgt⟩ : ∃ k : Nat, 10001 + d15 = (k : Int) := ⟨(10001 + d15).toNat, by omega⟩
      refine ⟨_, _, rfl, rfl, .int (gt : Int), by rw [← hgt], .inr ⟨gt, rfl, .inl ⟨by omega, fun dd H16 s16 hd16 hx16 => .inr (.inr (.inr ⟨rfl, _, dd, rfl, hx16, fun tt H17 s17 e17 => ?_⟩))⟩⟩⟩
      refine tag_due (by decide +kernel) (by decide +kernel) (by decide +kernel) e17 fun H18 s18 => ?_
      refine ⟨_, rfl, iteF ?_⟩
      have s1518 := s16.trans (s17.trans s18)
      refine ⟨a15, b15, _, _, _, _, hP15.same s1518, ?_, tabs_same hT15 s1518, rfl⟩
      have : (10000 : Int) * ((i + 1 : Nat) : Int) = 10000 * (i : Int) + 10000 := by omega
      omega
    · rintro σ H1 ⟨a1, b1, y2, y3, y4, y5, hP1, ha1, hT1, rfl⟩
      refine ⟨rfl, by show 0 ≤ sizeLine; decide, fun l1 hl1 => ?_⟩
      have e1 : (upd H1 l1 (.lst [])) l1 = some (.lst []) := upd_same
      generalize upd H1 l1 (.lst []) = H2 at e1 ⊢
      refine ⟨l1, [], [], rfl, .inl (.inl e1), fun m h => (by cases h), .inr ⟨rfl, fun k hk => ?_⟩⟩
      obtain rfl : k = 0 := hk.uniq SzOk.nil
      refine .inr ⟨by decide, fun x H3 m st nx s3 hc hw => ?_⟩
      refine ⟨by show 0 ≤ sizeLine; decide, fun l2 hl2 => ?_⟩
      have s4 : Same H3 (upd H3 l2 (.lst [])) := same_new hl2
      have e4 : (upd H3 l2 (.lst [])) l2 = some (.lst (([] : List Bool).map V.bl)) := upd_same
      generalize upd H3 l2 (.lst []) = H4 at s4 e4 ⊢
      refine ⟨by show 1 ≤ sizeLine; decide, fun l3 hl3 => ?_⟩
      have s5 : Same H4 (upd H4 l3 (.lst [.bl false])) := same_new hl3
      have e5 : (upd H4 l3 (.lst [.bl false])) l3 = some (.lst ([false].map V.bl)) := upd_same
      generalize upd H4 l3 (.lst [.bl false]) = H5 at s5 e5 ⊢
      refine ⟨by show 2 ≤ sizeLine; decide, fun t6 ht6 => ?_⟩
      have s6 : Same H5 (upd H5 t6 (.tup [.ref l2, .ref l3])) := same_new ht6
      have e6 : (upd H5 t6 (.tup [.ref l2, .ref l3])) t6 = some (.tup [.ref l2, .ref l3]) := upd_same
      generalize upd H5 t6 (.tup [.ref l2, .ref l3]) = H6 at s6 e6 ⊢
      refine ⟨x, t6, m, st, [], [false], [], [false], rfl, hw.same (s4.trans (s5.trans s6)), ⟨l2, l3, e6, s6 _ _ (s5 _ _ e4), s6 _ _ e5⟩, by decide, by decide, by decide, hc, rfl, rfl, fun H7 s7 => ?_⟩
      refine ⟨_, rfl, iteT ?_⟩
      refine ⟨rfl, .int 0, rfl, .inr ⟨0, rfl, .inr ⟨by decide, fun x H8 m st nx s8 hc hw => ?_⟩⟩⟩
      refine ⟨by show 0 ≤ sizeLine; decide, fun l2 hl2 => ?_⟩
      have s4 : Same H8 (upd H8 l2 (.lst [])) := same_new hl2
      have e4 : (upd H8 l2 (.lst [])) l2 = some (.lst (([] : List Bool).map V.bl)) := upd_same
      generalize upd H8 l2 (.lst []) = H4 at s4 e4 ⊢
      refine ⟨by show 1 ≤ sizeLine; decide, fun l3 hl3 => ?_⟩
      have s5 : Same H4 (upd H4 l3 (.lst [.bl true])) := same_new hl3
      have e5 : (upd H4 l3 (.lst [.bl true])) l3 = some (.lst ([true].map V.bl)) := upd_same
      generalize upd H4 l3 (.lst [.bl true]) = H5 at s5 e5 ⊢
      refine ⟨by show 2 ≤ sizeLine; decide, fun t6 ht6 => ?_⟩
      have s6 : Same H5 (upd H5 t6 (.tup [.ref l2, .ref l3])) := same_new ht6
      have e6 : (upd H5 t6 (.tup [.ref l2, .ref l3])) t6 = some (.tup [.ref l2, .ref l3]) := upd_same
      generalize upd H5 t6 (.tup [.ref l2, .ref l3]) = H6 at s6 e6 ⊢
      refine ⟨x, t6, m, st, [], [true], [], [true], rfl, hw.same (s4.trans (s5.trans s6)), ⟨l2, l3, e6, s6 _ _ (s5 _ _ e4), s6 _ _ e5⟩, by decide, by decide, by decide, hc, rfl, rfl, fun H9 s9 => ?_⟩
      exact q H9
end
end Ef
set_option Elab.async false
set_option linter.all false
set_option maxRecDepth 100000
set_option maxHeartbeats 8000000
namespace Ef
open PySem PySem.Spec PyProof.Rows L2 ClX
theorem at_mk {K : PySem.W.Frag} {h : Heap} {mg : Str → Option Value} {x : Str} {st : Stmt} {f : Addr} {oc kV doc pm cdv ct : Value} {od an : Option Addr} {osl : Array (Option Value)} (X : K.In h) (G : h.Ns mainGlobals mg) (a : PySem.W.nsIn K mainGlobals x = some (some (.ref f)))
    (l : K.lookup f = some ⟨oc, od, .func (PySem.W.fnOf x x (defArgs st) (defBody st) (defScope st) .none kV doc pm an cdv ct), osl⟩) (c : PySem.W.codeIn K cdv x = true) (k : PySem.W.keepIn K (.ref f) = true) : At K mg x st := ⟨f, _, PySem.W.mg_of X G a, fun_mk l c k⟩
theorem exm_by {K : PySem.W.Frag} {S : Addr} {c : Value} {b : Bool} (h1 : PySem.W.subIn K (.ref S) (.type "BaseException") = some true) (h2 : PySem.W.isClsIn K S = true) (h3 : PySem.W.typeIn K (.ref S) = some (.type "type")) (h4 : PySem.W.subIn K c (.ref S) = some b) :
    PySem.W.exmOne K c (.ref S) = some b := by
  unfold PySem.W.exmOne PySem.W.kitCls
  have h2' : (PySem.W.clsIn K S).isSome = true := h2
  rw [h1, if_pos (by rfl)]
  show (if ((PySem.W.clsIn K S).isSome && PySem.W.typeIn K (.ref S) == some (.type "type")) = true then PySem.W.subIn K c (.ref S) else none) = some b
  rw [h2', h3, if_pos (by rfl)]
  exact h4
theorem kit_by {K : PySem.W.Frag} {S : Addr} {c : Value} {b : Bool} (h2 : PySem.W.isClsIn K S = true) (h3 : PySem.W.typeIn K (.ref S) = some (.type "type")) (h4 : PySem.W.subIn K c (.ref S) = some b) (hc : (c == .ref S) = false := by rfl) :
    PySem.W.kitOne K c (.ref S) = some b := by
  unfold PySem.W.kitOne PySem.W.kitCls
  have h2' : (PySem.W.clsIn K S).isSome = true := h2
  rw [if_neg (by rw [hc]; exact Bool.false_ne_true)]
  show (if ((PySem.W.clsIn K S).isSome && PySem.W.typeIn K (.ref S) == some (.type "type")) = true then PySem.W.subIn K c (.ref S) else none) = some b
  rw [h2', h3, if_pos (by rfl)]
  exact h4
theorem all_mk {w : World} {K : PySem.W.Frag} {h : Heap} {mg : Str → Option Value} {l : PySem.W.OpenLaw} {fa C CP CN CF CL cL PT cR PR cB PL f0 f1 f2 f3 f4 f5 f6 f7 f8 f9 f10 f11 f12 f13 f14 f15 p16 f16 p17 f17 p18 f18 f19 f20 f21 f22 f23  : Addr} (X : K.In h) (G : h.Ns mainGlobals mg) (hfa : mg "law" = some (.ref fa))
    {od0 an0 od1 an1 od2 an2 od3 an3 od4 an4 od5 an5 od6 an6 od7 an7 od8 an8 od9 an9 od10 an10 od11 an11 od12 an12 od13 an13 od14 an14 od15 an15 od16 an16 od17 an17 od18 an18 od19 an19 od20 an20 od21 an21 od22 an22 od23 an23 : Option Addr} {sl0 sl1 sl2 sl3 sl4 sl5 sl6 sl7 sl8 sl9 sl10 sl11 sl12 sl13 sl14 sl15 sl16 sl17 sl18 sl19 sl20 sl21 sl22 sl23 : Array (Option Value)} {oc0 kV0 dc0 pm0 cd0 ct0 oc1 kV1 dc1 pm1 cd1 ct1 oc2 kV2 dc2 pm2 cd2 ct2 oc3 kV3 dc3 pm3 cd3 ct3 oc4 kV4 dc4 pm4 cd4 ct4 oc5 kV5 dc5 pm5 cd5 ct5 oc6 kV6 dc6 pm6 cd6 ct6 oc7 kV7 dc7 pm7 cd7 ct7 oc8 kV8 dc8 pm8 cd8 ct8 oc9 kV9 dc9 pm9 cd9 ct9 oc10 kV10 dc10 pm10 cd10 ct10 oc11 kV11 dc11 pm11 cd11 ct11 oc12 kV12 dc12 pm12 cd12 ct12 oc13 kV13 dc13 pm13 cd13 ct13 oc14 kV14 dc14 pm14 ct14 oc15 kV15 dc15 pm15 ct15 oc16 kV16 dc16 pm16 cd16 ct16 oc17 kV17 dc17 pm17 cd17 ct17 oc18 kV18 dc18 pm18 cd18 ct18 oc19 kV19 dc19 pm19 ct19 oc20 kV20 dc20 pm20 cd20 ct20 oc21 kV21 dc21 pm21 cd21 ct21 oc22 kV22 dc22 pm22 cd22 ct22 oc23 kV23 dc23 pm23 cd23 ct23 : Value} {rest16 rest17 rest18 : List Value} {tk0 tk1 : Tok} {nmCP qCP : Str} {NCP : Addr} {bsCP bmCP : List Value} {snCP : List Str} {subCP : List Value} {abCP : Bool} {colCP : Option Bool} {ddCP : Option Addr} {e0CP e1CP e2CP e3CP e5CP : Option Value} {nmCN qCN : Str} {NCN : Addr} {bsCN bmCN : List Value} {snCN : List Str} {subCN : List Value} {abCN : Bool} {colCN : Option Bool} {ddCN : Option Addr} {e0CN e1CN e2CN e3CN e5CN : Option Value} {nmCF qCF : Str} {NCF : Addr} {bsCF bmCF : List Value} {snCF : List Str} {subCF : List Value} {abCF : Bool} {colCF : Option Bool} {ddCF : Option Addr} {e0CF e1CF e2CF e3CF e5CF : Option Value} {nmCL qCL : Str} {NCL : Addr} {bsCL bmCL : List Value} {snCL : List Str} {subCL : List Value} {abCL : Bool} {colCL : Option Bool} {ddCL : Option Addr} {e0CL e1CL e2CL e3CL e5CL : Option Value}
    (aC : PySem.W.nsIn K mainGlobals "Where" = some (some (.ref C)))
    (a0 : PySem.W.nsIn K mainGlobals "is_int" = some (some (.ref f0)))
    (l0 : K.lookup f0 = some ⟨oc0, od0, .func (PySem.W.fnOf "is_int" "is_int" (defArgs sIsInt) (defBody sIsInt) (defScope sIsInt) .none kV0 dc0 pm0 an0 cd0 ct0), sl0⟩)
    (c0 : PySem.W.codeIn K cd0 "is_int" = true)
    (k0 : PySem.W.keepIn K (.ref f0) = true)
    (a1 : PySem.W.nsIn K mainGlobals "is_int_from" = some (some (.ref f1)))
    (l1 : K.lookup f1 = some ⟨oc1, od1, .func (PySem.W.fnOf "is_int_from" "is_int_from" (defArgs sFrom) (defBody sFrom) (defScope sFrom) .none kV1 dc1 pm1 an1 cd1 ct1), sl1⟩)
    (c1 : PySem.W.codeIn K cd1 "is_int_from" = true)
    (k1 : PySem.W.keepIn K (.ref f1) = true)
    (a2 : PySem.W.nsIn K mainGlobals "_check_truths" = some (some (.ref f2)))
    (l2 : K.lookup f2 = some ⟨oc2, od2, .func (PySem.W.fnOf "_check_truths" "_check_truths" (defArgs sCheck) (defBody sCheck) (defScope sCheck) .none kV2 dc2 pm2 an2 cd2 ct2), sl2⟩)
    (c2 : PySem.W.codeIn K cd2 "_check_truths" = true)
    (k2 : PySem.W.keepIn K (.ref f2) = true)
    (a3 : PySem.W.nsIn K mainGlobals "least_period" = some (some (.ref f3)))
    (l3 : K.lookup f3 = some ⟨oc3, od3, .func (PySem.W.fnOf "least_period" "least_period" (defArgs sLper) (defBody sLper) (defScope sLper) .none kV3 dc3 pm3 an3 cd3 ct3), sl3⟩)
    (c3 : PySem.W.codeIn K cd3 "least_period" = true)
    (k3 : PySem.W.keepIn K (.ref f3) = true)
    (a4 : PySem.W.nsIn K mainGlobals "_comes_round" = some (some (.ref f4)))
    (l4 : K.lookup f4 = some ⟨oc4, od4, .func (PySem.W.fnOf "_comes_round" "_comes_round" (defArgs sRound) (defBody sRound) (defScope sRound) .none kV4 dc4 pm4 an4 cd4 ct4), sl4⟩)
    (c4 : PySem.W.codeIn K cd4 "_comes_round" = true)
    (k4 : PySem.W.keepIn K (.ref f4) = true)
    (a5 : PySem.W.nsIn K mainGlobals "primes_of" = some (some (.ref f5)))
    (l5 : K.lookup f5 = some ⟨oc5, od5, .func (PySem.W.fnOf "primes_of" "primes_of" (defArgs sPrimes) (defBody sPrimes) (defScope sPrimes) .none kV5 dc5 pm5 an5 cd5 ct5), sl5⟩)
    (c5 : PySem.W.codeIn K cd5 "primes_of" = true)
    (k5 : PySem.W.keepIn K (.ref f5) = true)
    (a6 : PySem.W.nsIn K mainGlobals "_least_start" = some (some (.ref f6)))
    (l6 : K.lookup f6 = some ⟨oc6, od6, .func (PySem.W.fnOf "_least_start" "_least_start" (defArgs sLstart) (defBody sLstart) (defScope sLstart) .none kV6 dc6 pm6 an6 cd6 ct6), sl6⟩)
    (c6 : PySem.W.codeIn K cd6 "_least_start" = true)
    (k6 : PySem.W.keepIn K (.ref f6) = true)
    (a7 : PySem.W.nsIn K mainGlobals "_law_pen" = some (some (.ref f7)))
    (l7 : K.lookup f7 = some ⟨oc7, od7, .func (PySem.W.fnOf "_law_pen" "_law_pen" (defArgs sPen) (defBody sPen) (defScope sPen) .none kV7 dc7 pm7 an7 cd7 ct7), sl7⟩)
    (c7 : PySem.W.codeIn K cd7 "_law_pen" = true)
    (k7 : PySem.W.keepIn K (.ref f7) = true)
    (a8 : PySem.W.nsIn K mainGlobals "_law_draw" = some (some (.ref f8)))
    (l8 : K.lookup f8 = some ⟨oc8, od8, .func (PySem.W.fnOf "_law_draw" "_law_draw" (defArgs sDraw) (defBody sDraw) (defScope sDraw) .none kV8 dc8 pm8 an8 cd8 ct8), sl8⟩)
    (c8 : PySem.W.codeIn K cd8 "_law_draw" = true)
    (k8 : PySem.W.keepIn K (.ref f8) = true)
    (a9 : PySem.W.nsIn K mainGlobals "_law_pick" = some (some (.ref f9)))
    (l9 : K.lookup f9 = some ⟨oc9, od9, .func (PySem.W.fnOf "_law_pick" "_law_pick" (defArgs sPick) (defBody sPick) (defScope sPick) .none kV9 dc9 pm9 an9 cd9 ct9), sl9⟩)
    (c9 : PySem.W.codeIn K cd9 "_law_pick" = true)
    (k9 : PySem.W.keepIn K (.ref f9) = true)
    (a10 : PySem.W.nsIn K mainGlobals "_law_least_model" = some (some (.ref f10)))
    (l10 : K.lookup f10 = some ⟨oc10, od10, .func (PySem.W.fnOf "_law_least_model" "_law_least_model" (defArgs sLeast) (defBody sLeast) (defScope sLeast) .none kV10 dc10 pm10 an10 cd10 ct10), sl10⟩)
    (c10 : PySem.W.codeIn K cd10 "_law_least_model" = true)
    (k10 : PySem.W.keepIn K (.ref f10) = true)
    (a11 : PySem.W.nsIn K mainGlobals "_law_is_where" = some (some (.ref f11)))
    (l11 : K.lookup f11 = some ⟨oc11, od11, .func (PySem.W.fnOf "_law_is_where" "_law_is_where" (defArgs sIsw) (defBody sIsw) (defScope sIsw) .none kV11 dc11 pm11 an11 cd11 ct11), sl11⟩)
    (c11 : PySem.W.codeIn K cd11 "_law_is_where" = true)
    (k11 : PySem.W.keepIn K (.ref f11) = true)
    (a12 : PySem.W.nsIn K mainGlobals "_law_fault" = some (some (.ref f12)))
    (l12 : K.lookup f12 = some ⟨oc12, od12, .func (PySem.W.fnOf "_law_fault" "_law_fault" (defArgs sFault) (defBody sFault) (defScope sFault) .none kV12 dc12 pm12 an12 cd12 ct12), sl12⟩)
    (c12 : PySem.W.codeIn K cd12 "_law_fault" = true)
    (k12 : PySem.W.keepIn K (.ref f12) = true)
    (a13 : PySem.W.findIn K (.ref C) "__init__" = some (some (.ref f13)))
    (i13 : PySem.W.isFn K (.ref f13) = true)
    (l13 : K.lookup f13 = some ⟨oc13, od13, .func (PySem.W.fnOf "__init__" "Where.__init__" (defArgs sInit) (defBody sInit) (defScope sInit) .none kV13 dc13 pm13 an13 cd13 ct13), sl13⟩)
    (c13 : PySem.W.codeIn K cd13 "Where.__init__" = true)
    (k13 : PySem.W.keepIn K (.ref f13) = true)
    (a14 : PySem.W.nsIn K mainGlobals "_law_rest_right" = some (some (.ref f14)))
    (l14 : K.lookup f14 = some ⟨oc14, od14, .func (PySem.W.fnOf "_law_rest_right" "_law_rest_right" (defArgs sRr) (defBody sRr) (defScope sRr) .none kV14 dc14 pm14 an14 (.ref cR) ct14), sl14⟩)
    (c14 : PySem.W.codeIn K (.ref cR) "_law_rest_right" = true)
    (k14 : PySem.W.keepIn K (.ref f14) = true)
    (tPR : PySem.W.tabIn K "_law_rest_right" = some (cR, PR))
    (hPR : PySem.W.codeHdIn K cR PR = true)
    (nPR : K.lookup PR = none)
    (a15 : PySem.W.nsIn K mainGlobals "_law_list_right" = some (some (.ref f15)))
    (l15 : K.lookup f15 = some ⟨oc15, od15, .func (PySem.W.fnOf "_law_list_right" "_law_list_right" (defArgs sLr) (defBody sLr) (defScope sLr) .none kV15 dc15 pm15 an15 (.ref cB) ct15), sl15⟩)
    (c15 : PySem.W.codeIn K (.ref cB) "_law_list_right" = true)
    (k15 : PySem.W.keepIn K (.ref f15) = true)
    (tPL : PySem.W.tabIn K "_law_list_right" = some (cB, PL))
    (hPL : PySem.W.codeHdIn K cB PL = true)
    (nPL : K.lookup PL = none)
    (a16 : PySem.W.findCls K (.ref C) (.type "type") "of" = some (.get (.builtin "classmethod.__get__") (.ref p16) .none (.ref C)))
    (r16 : PySem.W.recIn K p16 "classmethod" = some (.ref f16 :: rest16))
    (i16 : PySem.W.fnIn K f16 = true)
    (l16 : K.lookup f16 = some ⟨oc16, od16, .func (PySem.W.fnOf "of" "Where.of" (defArgs sOf) (defBody sOf) (defScope sOf) .none kV16 dc16 pm16 an16 cd16 ct16), sl16⟩)
    (c16 : PySem.W.codeIn K cd16 "Where.of" = true)
    (k16 : PySem.W.keepIn K (.ref f16) = true)
    (a17 : PySem.W.findCls K (.ref C) (.type "type") "since" = some (.get (.builtin "classmethod.__get__") (.ref p17) .none (.ref C)))
    (r17 : PySem.W.recIn K p17 "classmethod" = some (.ref f17 :: rest17))
    (i17 : PySem.W.fnIn K f17 = true)
    (l17 : K.lookup f17 = some ⟨oc17, od17, .func (PySem.W.fnOf "since" "Where.since" (defArgs sSince) (defBody sSince) (defScope sSince) .none kV17 dc17 pm17 an17 cd17 ct17), sl17⟩)
    (c17 : PySem.W.codeIn K cd17 "Where.since" = true)
    (k17 : PySem.W.keepIn K (.ref f17) = true)
    (a18 : PySem.W.findCls K (.ref C) (.type "type") "rest" = some (.get (.builtin "classmethod.__get__") (.ref p18) .none (.ref C)))
    (r18 : PySem.W.recIn K p18 "classmethod" = some (.ref f18 :: rest18))
    (i18 : PySem.W.fnIn K f18 = true)
    (l18 : K.lookup f18 = some ⟨oc18, od18, .func (PySem.W.fnOf "rest" "Where.rest" (defArgs sRest) (defBody sRest) (defScope sRest) .none kV18 dc18 pm18 an18 cd18 ct18), sl18⟩)
    (c18 : PySem.W.codeIn K cd18 "Where.rest" = true)
    (k18 : PySem.W.keepIn K (.ref f18) = true)
    (a19 : PySem.W.nsIn K mainGlobals "law" = some (some (.ref f19)))
    (l19 : K.lookup f19 = some ⟨oc19, od19, .func (PySem.W.fnOf "law" "law" (defArgs sLaw) (defBody sLaw) (defScope sLaw) .none kV19 dc19 pm19 an19 (.ref cL) ct19), sl19⟩)
    (c19 : PySem.W.codeIn K (.ref cL) "law" = true)
    (tP : PySem.W.tabIn K "law" = some (cL, PT))
    (hP : PySem.W.codeHdIn K cL PT = true)
    (nPT : K.lookup PT = none)
    (sli : PySem.W.subIn K (.type "list") (.ref C) = some false)
    (sti : PySem.W.subIn K (.type "tuple") (.ref C) = some false)
    (jC : PySem.W.isClsIn K C = true)
    (tC : PySem.W.typeIn K (.ref C) = some (.type "type"))
    (mCP : PySem.W.nsIn K mainGlobals "BadPlace" = some (some (.ref CP)))
    (oCP : K.lookup CP = some (excClassObj nmCP qCP CP NCP bsCP bmCP true snCP subCP abCP colCP ddCP e0CP e1CP e2CP e3CP e5CP "ValueError.__new__"))
    (vCP : PySem.HandSPX.refsVE bmCP = true)
    (sCP : PySem.W.findIn K (.ref CP) "__setattr__" = some (some (.builtin "object.__setattr__")))
    (xCP : PySem.W.subIn K (.ref CP) (.type "BaseException") = some true)
    (tCP : PySem.W.typeIn K (.ref CP) = some (.type "type"))
    (kCP : PySem.W.keepIn K (.ref CP) = true)
    (iCP : PySem.W.findIn K (.ref CP) "__init__" = some (some (.ref f20)))
    (uCP : PySem.W.typeIn K (.ref f20) = some (.type "function"))
    (nCP : PySem.W.findIn K (.ref CP) "n" = some none)
    (gaCP : PySem.W.findIn K (.ref CP) "__getattribute__" = some (some (.builtin "BaseException.__getattribute__")))
    (ggCP : PySem.W.findIn K (.ref CP) "__getattr__" = some none)
    (hdCP : PySem.W.hasDictIn K CP = true)
    (l20 : K.lookup f20 = some ⟨oc20, od20, .func (PySem.W.fnOf "__init__" "BadPlace.__init__" (defArgs sErrP) (defBody sErrP) (defScope sErrP) .none kV20 dc20 pm20 an20 cd20 ct20), sl20⟩)
    (c20 : PySem.W.codeIn K cd20 "BadPlace.__init__" = true)
    (k20 : PySem.W.keepIn K (.ref f20) = true)
    (mCN : PySem.W.nsIn K mainGlobals "BadNumber" = some (some (.ref CN)))
    (oCN : K.lookup CN = some (excClassObj nmCN qCN CN NCN bsCN bmCN true snCN subCN abCN colCN ddCN e0CN e1CN e2CN e3CN e5CN "ValueError.__new__"))
    (vCN : PySem.HandSPX.refsVE bmCN = true)
    (sCN : PySem.W.findIn K (.ref CN) "__setattr__" = some (some (.builtin "object.__setattr__")))
    (xCN : PySem.W.subIn K (.ref CN) (.type "BaseException") = some true)
    (tCN : PySem.W.typeIn K (.ref CN) = some (.type "type"))
    (kCN : PySem.W.keepIn K (.ref CN) = true)
    (iCN : PySem.W.findIn K (.ref CN) "__init__" = some (some (.ref f21)))
    (uCN : PySem.W.typeIn K (.ref f21) = some (.type "function"))
    (nCN : PySem.W.findIn K (.ref CN) "number" = some none)
    (gaCN : PySem.W.findIn K (.ref CN) "__getattribute__" = some (some (.builtin "BaseException.__getattribute__")))
    (ggCN : PySem.W.findIn K (.ref CN) "__getattr__" = some none)
    (hdCN : PySem.W.hasDictIn K CN = true)
    (l21 : K.lookup f21 = some ⟨oc21, od21, .func (PySem.W.fnOf "__init__" "BadNumber.__init__" (defArgs sErrN) (defBody sErrN) (defScope sErrN) .none kV21 dc21 pm21 an21 cd21 ct21), sl21⟩)
    (c21 : PySem.W.codeIn K cd21 "BadNumber.__init__" = true)
    (k21 : PySem.W.keepIn K (.ref f21) = true)
    (mCF : PySem.W.nsIn K mainGlobals "TooFine" = some (some (.ref CF)))
    (oCF : K.lookup CF = some (excClassObj nmCF qCF CF NCF bsCF bmCF true snCF subCF abCF colCF ddCF e0CF e1CF e2CF e3CF e5CF "ValueError.__new__"))
    (vCF : PySem.HandSPX.refsVE bmCF = true)
    (sCF : PySem.W.findIn K (.ref CF) "__setattr__" = some (some (.builtin "object.__setattr__")))
    (xCF : PySem.W.subIn K (.ref CF) (.type "BaseException") = some true)
    (tCF : PySem.W.typeIn K (.ref CF) = some (.type "type"))
    (kCF : PySem.W.keepIn K (.ref CF) = true)
    (iCF : PySem.W.findIn K (.ref CF) "__init__" = some (some (.ref f22)))
    (uCF : PySem.W.typeIn K (.ref f22) = some (.type "function"))
    (nCF : PySem.W.findIn K (.ref CF) "most" = some none)
    (gaCF : PySem.W.findIn K (.ref CF) "__getattribute__" = some (some (.builtin "BaseException.__getattribute__")))
    (ggCF : PySem.W.findIn K (.ref CF) "__getattr__" = some none)
    (hdCF : PySem.W.hasDictIn K CF = true)
    (l22 : K.lookup f22 = some ⟨oc22, od22, .func (PySem.W.fnOf "__init__" "TooFine.__init__" (defArgs sErrF) (defBody sErrF) (defScope sErrF) .none kV22 dc22 pm22 an22 cd22 ct22), sl22⟩)
    (c22 : PySem.W.codeIn K cd22 "TooFine.__init__" = true)
    (k22 : PySem.W.keepIn K (.ref f22) = true)
    (mCL : PySem.W.nsIn K mainGlobals "TooLate" = some (some (.ref CL)))
    (oCL : K.lookup CL = some (excClassObj nmCL qCL CL NCL bsCL bmCL true snCL subCL abCL colCL ddCL e0CL e1CL e2CL e3CL e5CL "ValueError.__new__"))
    (vCL : PySem.HandSPX.refsVE bmCL = true)
    (sCL : PySem.W.findIn K (.ref CL) "__setattr__" = some (some (.builtin "object.__setattr__")))
    (xCL : PySem.W.subIn K (.ref CL) (.type "BaseException") = some true)
    (tCL : PySem.W.typeIn K (.ref CL) = some (.type "type"))
    (kCL : PySem.W.keepIn K (.ref CL) = true)
    (iCL : PySem.W.findIn K (.ref CL) "__init__" = some (some (.ref f23)))
    (uCL : PySem.W.typeIn K (.ref f23) = some (.type "function"))
    (nCL : PySem.W.findIn K (.ref CL) "most" = some none)
    (gaCL : PySem.W.findIn K (.ref CL) "__getattribute__" = some (some (.builtin "BaseException.__getattribute__")))
    (ggCL : PySem.W.findIn K (.ref CL) "__getattr__" = some none)
    (hdCL : PySem.W.hasDictIn K CL = true)
    (l23 : K.lookup f23 = some ⟨oc23, od23, .func (PySem.W.fnOf "__init__" "TooLate.__init__" (defArgs sErrL) (defBody sErrL) (defScope sErrL) .none kV23 dc23 pm23 an23 cd23 ct23), sl23⟩)
    (c23 : PySem.W.codeIn K cd23 "TooLate.__init__" = true)
    (k23 : PySem.W.keepIn K (.ref f23) = true)
    (jCP : PySem.W.isClsIn K CP = true)
    (jCN : PySem.W.isClsIn K CN = true)
    (jCF : PySem.W.isClsIn K CF = true)
    (jCL : PySem.W.isClsIn K CL = true)
    (xCPCP : PySem.W.subIn K (.ref CP) (.ref CP) = some true)
    (xCNCP : PySem.W.subIn K (.ref CN) (.ref CP) = some false)
    (xCFCP : PySem.W.subIn K (.ref CF) (.ref CP) = some false)
    (xCLCP : PySem.W.subIn K (.ref CL) (.ref CP) = some false)
    (xCNCN : PySem.W.subIn K (.ref CN) (.ref CN) = some true)
    (xCFCN : PySem.W.subIn K (.ref CF) (.ref CN) = some false)
    (xCLCN : PySem.W.subIn K (.ref CL) (.ref CN) = some false)
    (xCFCF : PySem.W.subIn K (.ref CF) (.ref CF) = some true)
    (xCLCF : PySem.W.subIn K (.ref CL) (.ref CF) = some false)
    (xCLCL : PySem.W.subIn K (.ref CL) (.ref CL) = some true)
    (dRL : ¬ PR = PL)
    (dRT : ¬ PR = PT)
    (dLT : ¬ PL = PT)
    (rd : PySem.W.readsIn K C (.type "type") = true)
    (gaC : PySem.W.specialIn K (.ref C) "__getattribute__" = some (some (.builtin "type.__getattribute__")))
    (e0 : PySem.W.nsIn K mainGlobals "MOST_PERIOD" = some (some (.int 720 tk0)))
    (e1 : PySem.W.nsIn K mainGlobals "MOST_START" = some (some (.int 10000 tk1)))
    (pg : PySem.W.plainGet K C Str.empty = true)
    (hd : PySem.W.hasDictIn K C = true)
    (po : PySem.W.plainOver K C = true)
    (sa : PySem.W.findIn K (.ref C) "__setattr__" = some (some (.builtin "object.__setattr__")))
    (mk : PySem.W.makesIn K C = true)
    (kc : PySem.W.keepIn K (.ref C) = true)
    (cc : PySem.W.findIn K (.ref C) "__class__" = some (some (.builtin "object.__class__")))
    (cg : PySem.W.specialIn K (.builtin "object.__class__") "__get__" = some (some (.builtin "getset_descriptor.__get__")))
    (ctk : PySem.W.takesIn K (.builtin "object.__class__") = some true)
    (co : PySem.W.mroIn K C (.type "object") = some true)
    (nB : PySem.W.findIn K (.ref C) "below" = some none)
    (nR : PySem.W.findIn K (.ref C) "rests" = some none)
    (nS : PySem.W.findIn K (.ref C) "start" = some none)
    (nP : PySem.W.findIn K (.ref C) "period" = some none)
    (nE : PySem.W.findIn K (.ref C) "_early" = some none)
    (nL : PySem.W.findIn K (.ref C) "_late" = some none)
    (z0 : PySem.W.nsIn K mainGlobals "int" = some none)
    (z1 : PySem.W.nsIn K mainGlobals "len" = some none)
    (z2 : PySem.W.nsIn K mainGlobals "list" = some none)
    (z3 : PySem.W.nsIn K mainGlobals "isinstance" = some none)
    (z4 : PySem.W.nsIn K mainGlobals "bool" = some none)
    (z5 : PySem.W.nsIn K mainGlobals "enumerate" = some none)
    (z6 : PySem.W.nsIn K mainGlobals "reversed" = some none)
    (z7 : PySem.W.nsIn K mainGlobals "range" = some none)
    (z8 : PySem.W.nsIn K mainGlobals "tuple" = some none)
    (z9 : PySem.W.nsIn K mainGlobals "min" = some none)
    (z10 : PySem.W.nsIn K mainGlobals "max" = some none)
    (Y : ∀ p : Addr, p = PT ∨ p = PR ∨ p = PL → h.get? p = some (PySem.W.tabObj #[]))
    : LamX.LawAtS l w K CX0 9 63 "script" mg fa h := by
  have e := hfa.symm.trans (PySem.W.mg_of X G a19)
  cases e
  have T : TxtL mg := { int := PySem.W.mg_none_of X G z0, len := PySem.W.mg_none_of X G z1, list := PySem.W.mg_none_of X G z2, isinstance := PySem.W.mg_none_of X G z3, bool := PySem.W.mg_none_of X G z4, enumerate := PySem.W.mg_none_of X G z5, reversed := PySem.W.mg_none_of X G z6, range := PySem.W.mg_none_of X G z7, tuple := PySem.W.mg_none_of X G z8, MOST_PERIOD := ⟨tk0, PySem.W.mg_of X G e0⟩, MOST_START := ⟨tk1, PySem.W.mg_of X G e1⟩, min := PySem.W.mg_none_of X G z9 }
  have CP_ : ClsW K mg C := ⟨⟨pg, hd, po, sa⟩, PySem.W.mg_of X G aC, nP, nS, nR, nB, nE, nL⟩
  have CW : ClsQ K mg C := { toClsW := CP_, cc := cc, cg := cg, ct := ctk, co := co, sl := ⟨sli, sti⟩ }
  have M : Mk K C f13 := ⟨mk, a13, i13, kc⟩
  have FCP := fun_mk (st := sErrP) l20 c20 k20
  have bCP := FCP.binds (ps := ["self", "n"]) fun _ _ _ _ _ _ us hl => match us, hl with | [_, _], _ => rfl
  have ECP : ErrF K mg "BadPlace" "n" CP f20 := ⟨⟨⟨_, _, _, _, _, _, _, _, _, _, _, _, _, _, _, oCP, vCP⟩, sCP, xCP, tCP, kCP⟩, PySem.W.mg_of X G mCP, iCP, uCP, nCP, ⟨gaCP, ggCP, xCP, hdCP⟩⟩
  have FCN := fun_mk (st := sErrN) l21 c21 k21
  have bCN := FCN.binds (ps := ["self", "number"]) fun _ _ _ _ _ _ us hl => match us, hl with | [_, _], _ => rfl
  have ECN : ErrF K mg "BadNumber" "number" CN f21 := ⟨⟨⟨_, _, _, _, _, _, _, _, _, _, _, _, _, _, _, oCN, vCN⟩, sCN, xCN, tCN, kCN⟩, PySem.W.mg_of X G mCN, iCN, uCN, nCN, ⟨gaCN, ggCN, xCN, hdCN⟩⟩
  have FCF := fun_mk (st := sErrF) l22 c22 k22
  have bCF := FCF.binds (ps := ["self", "most"]) fun _ _ _ _ _ _ us hl => match us, hl with | [_, _], _ => rfl
  have ECF : ErrF K mg "TooFine" "most" CF f22 := ⟨⟨⟨_, _, _, _, _, _, _, _, _, _, _, _, _, _, _, oCF, vCF⟩, sCF, xCF, tCF, kCF⟩, PySem.W.mg_of X G mCF, iCF, uCF, nCF, ⟨gaCF, ggCF, xCF, hdCF⟩⟩
  have FCL := fun_mk (st := sErrL) l23 c23 k23
  have bCL := FCL.binds (ps := ["self", "most"]) fun _ _ _ _ _ _ us hl => match us, hl with | [_, _], _ => rfl
  have ECL : ErrF K mg "TooLate" "most" CL f23 := ⟨⟨⟨_, _, _, _, _, _, _, _, _, _, _, _, _, _, _, oCL, vCL⟩, sCL, xCL, tCL, kCL⟩, PySem.W.mg_of X G mCL, iCL, uCL, nCL, ⟨gaCL, ggCL, xCL, hdCL⟩⟩
  have FFa := fun_mk (st := sFault) l12 c12 k12
  have bFa := FFa.binds (ps := ["ask"]) fun _ _ _ _ _ _ us hl => match us, hl with | [_], _ => rfl
  have FIi := fun_mk (st := sInit) l13 c13 k13
  have bI := FIi.binds (ps := ["self", "below", "rests"]) fun _ _ _ _ _ _ us hl => match us, hl with | [_, _, _], _ => rfl
  have FBR := fun_mk (st := sRr) l14 c14 k14
  have bBR := FBR.binds (ps := ["pen"]) fun _ _ _ _ _ _ us hl => match us, hl with | [_], _ => rfl
  have FBL := fun_mk (st := sLr) l15 c15 k15
  have bBL := FBL.binds (ps := ["pen"]) fun _ _ _ _ _ _ us hl => match us, hl with | [_], _ => rfl
  have Fmo := fun_mk (st := sOf) l16 c16 k16
  have bmo := Fmo.binds (ps := ["cls", "members"]) fun _ _ _ _ _ _ us hl => match us, hl with | [_, _], _ => rfl
  have Fms := fun_mk (st := sSince) l17 c17 k17
  have bms := Fms.binds (ps := ["cls", "low"]) fun _ _ _ _ _ _ us hl => match us, hl with | [_, _], _ => rfl
  have Fmr := fun_mk (st := sRest) l18 c18 k18
  have bmr := Fmr.binds (ps := ["cls", "m", "r"]) fun _ _ _ _ _ _ us hl => match us, hl with | [_, _, _], _ => rfl
  refine ⟨PySem.W.fnOf "law" "law" (defArgs sLaw) (defBody sLaw) (defScope sLaw) .none kV19 dc19 pm19 an19 (.ref cL) ct19, [(cL, PT), (cR, PR), (cB, PL)], spLaw K PR PL PT, fun p hp => ?_, fun p hp => ?_, fun p hp => ?_, fun s u => .of_eq rfl, fun H a ns hl _ ht hS => ⟨a, ns, rfl, hS, hl, fun p hp => ?_, fun _ => rfl⟩, fun base hKb _ hTB => ?_⟩
  · rcases List.mem_cons.mp hp with z | hp
    · rw [z]; exact Y _ (.inl rfl)
    · rcases List.mem_cons.mp hp with z | z
      · rw [z]; exact Y _ (.inr (.inl rfl))
      · rw [List.mem_singleton.mp z]; exact Y _ (.inr (.inr rfl))
  · rcases List.mem_cons.mp hp with z | hp
    · rw [z]; exact nPT
    · rcases List.mem_cons.mp hp with z | z
      · rw [z]; exact nPR
      · rw [List.mem_singleton.mp z]; exact nPL
  · rcases List.mem_cons.mp hp with z | hp
    · rw [z]; exact PySem.W.codeHd_of_K X hP
    · rcases List.mem_cons.mp hp with z | z
      · rw [z]; exact PySem.W.codeHd_of_K X hPR
      · rw [List.mem_singleton.mp z]; exact PySem.W.codeHd_of_K X hPL
  · rcases tt_cases hp with rfl | rfl | rfl
    · exact LamX.TabS.nil (ht (cR, PR) (List.Mem.tail _ (List.Mem.head _)))
    · exact LamX.TabS.nil (ht (cB, PL) (List.Mem.tail _ (List.Mem.tail _ (List.Mem.head _))))
    · exact LamX.TabS.nil (ht (cL, PT) (List.Mem.head _))
  have dIsInt := df_isint (P := l.prog) (w := w) (base := base) (at_mk X G a0 l0 c0 k0) T.toTxtW
  have dFrom := df_from (P := l.prog) (w := w) (base := base) (at_mk X G a1 l1 c1 k1) dIsInt
  have dCheck := df_check (P := l.prog) (w := w) (base := base) (at_mk X G a2 l2 c2 k2) T.toTxtW
  have dRound := df_round (P := l.prog) (w := w) (base := base) (at_mk X G a4 l4 c4 k4) T.toTxtW
  have dPrimes := df_primes (P := l.prog) (w := w) (base := base) (at_mk X G a5 l5 c5 k5) 
  have dLper := df_lper (P := l.prog) (w := w) (base := base) (at_mk X G a3 l3 c3 k3) T.toTxtW dPrimes dRound
  have dLstart := df_lstart (P := l.prog) (w := w) (base := base) (at_mk X G a6 l6 c6 k6) T.toTxtW
  have dPen := df_pen (P := l.prog) (w := w) (base := base) (at_mk X G a7 l7 c7 k7) T.toTxtP
  have dDraw := df_draw (P := l.prog) (w := w) (base := base) (at_mk X G a8 l8 c8 k8) T.toTxtP
  have dPick := df_pick (P := l.prog) (w := w) (base := base) (at_mk X G a9 l9 c9 k9) T.toTxtP dDraw
  have dLeast := df_least (P := l.prog) (w := w) (base := base) (at_mk X G a10 l10 c10 k10) T.toTxtW
  have dIsw := df_isw (P := l.prog) (w := w) (base := base) (at_mk X G a11 l11 c11 k11) T.toTxtW CW dLeast
  have gP := ok_errP (P := l.prog) (w := w) (base := base) FCP ECP
  have gN := ok_errN (P := l.prog) (w := w) (base := base) FCN ECN
  have gF := ok_errF (P := l.prog) (w := w) (base := base) FCF ECF
  have gL := ok_errL (P := l.prog) (w := w) (base := base) FCL ECL
  have FI := ok_init (P := l.prog) (w := w) (base := base) FIi T.toTxtI CP_ dCheck dLper dLstart
  have Go : FnR l.prog w K mg base (CX l.prog w) 5 f16 (spOf K C CP CL) := (FnOk.raw (ok_of Fmo T.toTxtI M FI bI ECP gP bCP ECL gL bCL dFrom) bmo .nil).imp fun vs H Q E h => by rw [List.append_nil]; exact h
  have Mo : CMet K C (.type "type") "of" p16 f16 := ⟨a16, ⟨rest16, r16⟩, i16⟩
  have Gs : FnR l.prog w K mg base (CX l.prog w) 5 f17 (spSince K C CP CL) := (FnOk.raw (ok_since Fms T.toTxtI M FI bI ECP gP bCP ECL gL bCL dFrom) bms .nil).imp fun vs H Q E h => by rw [List.append_nil]; exact h
  have Ms : CMet K C (.type "type") "since" p17 f17 := ⟨a17, ⟨rest17, r17⟩, i17⟩
  have Gr : FnR l.prog w K mg base (CX l.prog w) 5 f18 (spRest K C CN CF) := (FnOk.raw (ok_rest Fmr T.toTxtI M FI bI ECN gN bCN ECF gF bCF dFrom) bmr .nil).imp fun vs H Q E h => by rw [List.append_nil]; exact h
  have Mr : CMet K C (.type "type") "rest" p18 f18 := ⟨a18, ⟨rest18, r18⟩, i18⟩
  have CR : CRead K C (.type "type") := ⟨rd, gaC⟩
  have EM : ErrM K CP CN CF CL := ⟨exm_by xCP jCP tCP xCPCP, exm_by xCP jCP tCP xCNCP, exm_by xCP jCP tCP xCFCP, exm_by xCP jCP tCP xCLCP, exm_by xCN jCN tCN xCNCN, exm_by xCN jCN tCN xCFCN, exm_by xCN jCN tCN xCLCN, exm_by xCF jCF tCF xCFCF, exm_by xCF jCF tCF xCLCF, exm_by xCL jCL tCL xCLCL⟩
  have FA : FaultAt K mg f12 _ _ _ _ _ _ _ _ _ := ⟨PySem.W.mg_of X G a12, k12, l12, c12, bFa⟩
  have DD : Dis PR PL PT := ⟨dRL, dRT, dLT⟩
  have gR := ok_rr (P := l.prog) (w := w) (base := base) l14 c14 T.toTxtW CW CR Mr Gr FA ECP ECN ECF ECL EM (hTB (cR, PR) (List.Mem.tail _ (List.Mem.head _))) DD dDraw dPick dIsw
  have gLr := ok_lr (P := l.prog) (w := w) (base := base) l15 c15 T.toTxtW (PySem.W.mg_none_of X G z10) CW CR Mo Go FA ECP ECN ECF ECL EM (hTB (cB, PL) (List.Mem.tail _ (List.Mem.tail _ (List.Mem.head _)))) DD dDraw dPick dIsw
  have dR : Df l.prog w K mg base 8 "_law_rest_right" ["pen"] (spRr K PR PL PT) := ⟨_, _, PySem.W.mg_of X G a14, k14, bBR, gR⟩
  have dL : Df l.prog w K mg base 8 "_law_list_right" ["pen"] (spLr K PR PL PT) := ⟨_, _, PySem.W.mg_of X G a15, k15, bBL, gLr⟩
  exact ok_law l19 c19 T CW CR Ms Gs Mo Go FA ECP ECN ECF ECL EM (hTB (cL, PT) (List.Mem.head _)) DD dPen dDraw dPick dIsw dR dL
end Ef
set_option Elab.async false
set_option linter.all false
open PySem PySem.W PyProof.Rows in
set_option maxRecDepth 100000 in
set_option maxHeartbeats 0 in
theorem PySem.Challenge.cw_everyfloor_k10_whole_makers_of_sets_holds : PySem.Challenge.rw_everyfloor_k10_whole_makers_of_sets.Holds := by
  w_on; o_law; k_head; (case hw => w_witness2)
  k_fill
  refine LamX.walk_ofTs (l := PySem.Challenge.rw_everyfloor_k10_whole_makers_of_sets) (n := 63) (k := 9) (x := "script") (CX := fun _ => L2.CX0) rfl (by decide) rfl ⟨rfl, by decide, by decide⟩ (fun w h Y => Y.1) ?F (fun _ _ _ _ _ z => z)
  case F =>
    intro w mg fa h Y KX G hmg
    refine' Ef.all_mk (l := PySem.Challenge.rw_everyfloor_k10_whole_makers_of_sets) KX G hmg ?aC ?a0 ?l0 ?c0 ?k0 ?a1 ?l1 ?c1 ?k1 ?a2 ?l2 ?c2 ?k2 ?a3 ?l3 ?c3 ?k3 ?a4 ?l4 ?c4 ?k4 ?a5 ?l5 ?c5 ?k5 ?a6 ?l6 ?c6 ?k6 ?a7 ?l7 ?c7 ?k7 ?a8 ?l8 ?c8 ?k8 ?a9 ?l9 ?c9 ?k9 ?a10 ?l10 ?c10 ?k10 ?a11 ?l11 ?c11 ?k11 ?a12 ?l12 ?c12 ?k12 ?a13 ?i13 ?l13 ?c13 ?k13 ?a14 ?l14 ?c14 ?k14 ?tPR ?hPR ?nPR ?a15 ?l15 ?c15 ?k15 ?tPL ?hPL ?nPL ?a16 ?r16 ?i16 ?l16 ?c16 ?k16 ?a17 ?r17 ?i17 ?l17 ?c17 ?k17 ?a18 ?r18 ?i18 ?l18 ?c18 ?k18 ?a19 ?l19 ?c19 ?tP ?hP ?nPT ?sli ?sti ?jC ?tC ?mCP ?oCP ?vCP ?sCP ?xCP ?tCP ?kCP ?iCP ?uCP ?nCP ?gaCP ?ggCP ?hdCP ?l20 ?c20 ?k20 ?mCN ?oCN ?vCN ?sCN ?xCN ?tCN ?kCN ?iCN ?uCN ?nCN ?gaCN ?ggCN ?hdCN ?l21 ?c21 ?k21 ?mCF ?oCF ?vCF ?sCF ?xCF ?tCF ?kCF ?iCF ?uCF ?nCF ?gaCF ?ggCF ?hdCF ?l22 ?c22 ?k22 ?mCL ?oCL ?vCL ?sCL ?xCL ?tCL ?kCL ?iCL ?uCL ?nCL ?gaCL ?ggCL ?hdCL ?l23 ?c23 ?k23 ?jCP ?jCN ?jCF ?jCL ?xCPCP ?xCNCP ?xCFCP ?xCLCP ?xCNCN ?xCFCN ?xCLCN ?xCFCF ?xCLCF ?xCLCL ?dRL ?dRT ?dLT ?rd ?gaC ?e0 ?e1 ?pg ?hd ?po ?sa ?mk ?kc ?cc ?cg ?ctk ?co ?nB ?nR ?nS ?nP ?nE ?nL ?z0 ?z1 ?z2 ?z3 ?z4 ?z5 ?z6 ?z7 ?z8 ?z9 ?z10 ?hYY
    (case aC => k_is)
    (case a0 => k_is)
    (case l0 => k_is)
    (case c0 => k_is)
    (case k0 => k_is)
    (case a1 => k_is)
    (case l1 => k_is)
    (case c1 => k_is)
    (case k1 => k_is)
    (case a2 => k_is)
    (case l2 => k_is)
    (case c2 => k_is)
    (case k2 => k_is)
    (case a3 => k_is)
    (case l3 => k_is)
    (case c3 => k_is)
    (case k3 => k_is)
    (case a4 => k_is)
    (case l4 => k_is)
    (case c4 => k_is)
    (case k4 => k_is)
    (case a5 => k_is)
    (case l5 => k_is)
    (case c5 => k_is)
    (case k5 => k_is)
    (case a6 => k_is)
    (case l6 => k_is)
    (case c6 => k_is)
    (case k6 => k_is)
    (case a7 => k_is)
    (case l7 => k_is)
    (case c7 => k_is)
    (case k7 => k_is)
    (case a8 => k_is)
    (case l8 => k_is)
    (case c8 => k_is)
    (case k8 => k_is)
    (case a9 => k_is)
    (case l9 => k_is)
    (case c9 => k_is)
    (case k9 => k_is)
    (case a10 => k_is)
    (case l10 => k_is)
    (case c10 => k_is)
    (case k10 => k_is)
    (case a11 => k_is)
    (case l11 => k_is)
    (case c11 => k_is)
    (case k11 => k_is)
    (case a12 => k_is)
    (case l12 => k_is)
    (case c12 => k_is)
    (case k12 => k_is)
    (case a13 => k_is)
    (case i13 => k_is)
    (case l13 => k_is)
    (case c13 => k_is)
    (case k13 => k_is)
    (case a14 => k_is)
    (case l14 => k_is)
    (case c14 => k_is)
    (case k14 => k_is)
    (case tPR => first | k_is | rfl | decide +kernel)
    (case hPR => first | k_is | rfl | decide +kernel)
    (case nPR => first | k_is | decide +kernel | rfl)
    (case a15 => k_is)
    (case l15 => k_is)
    (case c15 => k_is)
    (case k15 => k_is)
    (case tPL => first | k_is | rfl | decide +kernel)
    (case hPL => first | k_is | rfl | decide +kernel)
    (case nPL => first | k_is | decide +kernel | rfl)
    (case a16 => k_is)
    (case r16 => k_is)
    (case i16 => k_is)
    (case l16 => k_is)
    (case c16 => k_is)
    (case k16 => k_is)
    (case a17 => k_is)
    (case r17 => k_is)
    (case i17 => k_is)
    (case l17 => k_is)
    (case c17 => k_is)
    (case k17 => k_is)
    (case a18 => k_is)
    (case r18 => k_is)
    (case i18 => k_is)
    (case l18 => k_is)
    (case c18 => k_is)
    (case k18 => k_is)
    (case a19 => k_is)
    (case l19 => k_is)
    (case c19 => k_is)
    (case tP => first | k_is | rfl | decide +kernel)
    (case hP => first | k_is | rfl | decide +kernel)
    (case nPT => first | k_is | decide +kernel | rfl)
    (case sli => k_is)
    (case sti => k_is)
    (case jC => k_is)
    (case tC => k_is)
    (case mCP => k_is)
    (case oCP => k_is)
    (case vCP => decide +kernel)
    (case sCP => k_is)
    (case xCP => k_is)
    (case tCP => k_is)
    (case kCP => k_is)
    (case iCP => k_is)
    (case uCP => k_is)
    (case nCP => k_is)
    (case gaCP => k_is)
    (case ggCP => k_is)
    (case hdCP => k_is)
    (case l20 => k_is)
    (case c20 => k_is)
    (case k20 => k_is)
    (case mCN => k_is)
    (case oCN => k_is)
    (case vCN => decide +kernel)
    (case sCN => k_is)
    (case xCN => k_is)
    (case tCN => k_is)
    (case kCN => k_is)
    (case iCN => k_is)
    (case uCN => k_is)
    (case nCN => k_is)
    (case gaCN => k_is)
    (case ggCN => k_is)
    (case hdCN => k_is)
    (case l21 => k_is)
    (case c21 => k_is)
    (case k21 => k_is)
    (case mCF => k_is)
    (case oCF => k_is)
    (case vCF => decide +kernel)
    (case sCF => k_is)
    (case xCF => k_is)
    (case tCF => k_is)
    (case kCF => k_is)
    (case iCF => k_is)
    (case uCF => k_is)
    (case nCF => k_is)
    (case gaCF => k_is)
    (case ggCF => k_is)
    (case hdCF => k_is)
    (case l22 => k_is)
    (case c22 => k_is)
    (case k22 => k_is)
    (case mCL => k_is)
    (case oCL => k_is)
    (case vCL => decide +kernel)
    (case sCL => k_is)
    (case xCL => k_is)
    (case tCL => k_is)
    (case kCL => k_is)
    (case iCL => k_is)
    (case uCL => k_is)
    (case nCL => k_is)
    (case gaCL => k_is)
    (case ggCL => k_is)
    (case hdCL => k_is)
    (case l23 => k_is)
    (case c23 => k_is)
    (case k23 => k_is)
    (case jCP => k_is)
    (case jCN => k_is)
    (case jCF => k_is)
    (case jCL => k_is)
    (case xCPCP => k_is)
    (case xCNCP => k_is)
    (case xCFCP => k_is)
    (case xCLCP => k_is)
    (case xCNCN => k_is)
    (case xCFCN => k_is)
    (case xCLCN => k_is)
    (case xCFCF => k_is)
    (case xCLCF => k_is)
    (case xCLCL => k_is)
    (case dRL => decide)
    (case dRT => decide)
    (case dLT => decide)
    (case rd => k_is)
    (case gaC => k_is)
    (case e0 => k_is)
    (case e1 => k_is)
    (case pg => k_is)
    (case hd => k_is)
    (case po => k_is)
    (case sa => k_is)
    (case mk => k_is)
    (case kc => k_is)
    (case cc => k_is)
    (case cg => k_is)
    (case ctk => k_is)
    (case co => k_is)
    (case nB => k_is)
    (case nR => k_is)
    (case nS => k_is)
    (case nP => k_is)
    (case nE => k_is)
    (case nL => k_is)
    (case z0 => k_is)
    (case z1 => k_is)
    (case z2 => k_is)
    (case z3 => k_is)
    (case z4 => k_is)
    (case z5 => k_is)
    (case z6 => k_is)
    (case z7 => k_is)
    (case z8 => k_is)
    (case z9 => k_is)
    (case z10 => k_is)
    (case hYY => intro p hp; rcases hp with rfl | rfl | rfl <;> exact Y.2 _ (by decide))
#print axioms PySem.Challenge.cw_everyfloor_k10_whole_makers_of_sets_holds
