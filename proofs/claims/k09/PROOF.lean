import PyProof.Rows.All
import Wide.All
import OpenK.AllK
import Wide.FinOn
import HandS.ForMost
import PySem.Challenge.RW_everyfloor_k09_sets_with_their_least_dat
import HandS.IsInst
import KE.GoesEnum
import HandS.Style
import HandS.Walk
import HandS.TupAny
import HandS.RevRange
import HandS.Conv
import HandS.ForExc
import HandS.TryMany
import HandS.ExcInit
import HandS.ExcField
import HandS.Defaults
import HandS.Lambda
import HandS.More
import HandS.ClsMeth
import HandS.OwnEq
import HandS.EndTab
set_option Elab.async false
set_option linter.all false
set_option maxRecDepth 100000
set_option maxHeartbeats 4000000
namespace Ef
open PySem PySem.Spec PyProof.Rows L2
def top (i : Nat) : Stmt := PySem.Challenge.pw_everyfloor_k09_sets_with_their_least_dat.main.body.getD i (.Pass ⟨0, 0, 0, 0⟩)
abbrev sPen : Stmt := top 27
abbrev sDraw : Stmt := top 28
abbrev sPick : Stmt := top 29
/-! ### the pen -/
def penD (l : Addr) (a b : Int) : List (Key × V) := [(.inr "cells", .ref l), (.inr "at", .int a), (.inr "left", .int b)]
theorem pen_cells (l : Addr) (a b : Int) : valV (penD l a b) (Sum.inr "cells") = some (.ref l) := by with_unfolding_all rfl
theorem pen_at (l : Addr) (a b : Int) : valV (penD l a b) (Sum.inr "at") = some (.int a) := by with_unfolding_all rfl
theorem pen_left (l : Addr) (a b : Int) : valV (penD l a b) (Sum.inr "left") = some (.int b) := by with_unfolding_all rfl
theorem put_at (l : Addr) (a b c : Int) : putK (penD l a b) (Sum.inr "at") (.int c) = penD l c b := by with_unfolding_all rfl
theorem put_left (l : Addr) (a b c : Int) : putK (penD l a b) (Sum.inr "left") (.int c) = penD l a c := by with_unfolding_all rfl
/-- at p stands the pen: its list of ints at l, its place a, what is left b -/
structure Pen (H : Hp) (p l : Addr) (ns : List Int) (a b : Int) : Prop where
  hd : H p = some (.dK (penD l a b))
  hl : H l = some (.lst (ns.map V.int))
  len : ns.length ≤ 63
  a0 : 0 ≤ a
  b0 : 0 ≤ b
/-- all that is tracked but p is as it was -/
def Kp (p : Addr) (H H' : Hp) : Prop := ∀ x o, x ≠ p → H x = some o → H' x = some o
theorem Kp.refl (p : Addr) (H : Hp) : Kp p H H := fun _ _ _ h => h
theorem Kp.trans {p : Addr} {H H1 H2 : Hp} (a : Kp p H H1) (b : Kp p H1 H2) : Kp p H H2 := fun x o n h => b x o n (a x o n h)
theorem Kp.put {p : Addr} {H : Hp} (o : HO) : Kp p H (upd H p o) := fun x u n h => by rw [upd_ne n]; exact h
theorem Kp.new {p q : Addr} {H : Hp} (o : HO) (hq : H q = none) : Kp p H (upd H q o) := fun x u n h => by rw [upd_ne (ne_of_none h hq)]; exact h
/-! ### data -/
theorem dp_ints {K : PySem.W.Frag} {H : Hp} : ∀ ns : List Int, DpAll K H (ns.map V.int) (ns.map PyData.int)
  | [] => .nil
  | n :: ns => .cons (.int n) (dp_ints ns)
theorem dp_bls {K : PySem.W.Frag} {H : Hp} : ∀ bs : List Bool, DpAll K H (bs.map V.bl) (bs.map PyData.bool)
  | [] => .nil
  | n :: ns => .cons (.bl n) (dp_bls ns)
theorem can_ints : ∀ ns : List Int, PyData.canLayAll0 (ns.map PyData.int) = true ∧ PyData.depthAll (ns.map PyData.int) = 0
  | [] => ⟨rfl, rfl⟩
  | n :: ns => by
    obtain ⟨h1, h2⟩ := can_ints ns
    constructor
    · show (PyData.canLay0 (.int n) && PyData.canLayAll0 (ns.map PyData.int)) = true
      rw [h1]; rfl
    · show max (PyData.depth (.int n)) (PyData.depthAll (ns.map PyData.int)) = 0
      rw [h2]; rfl
theorem can_bls : ∀ ns : List Bool, PyData.canLayAll0 (ns.map PyData.bool) = true ∧ PyData.depthAll (ns.map PyData.bool) = 0
  | [] => ⟨rfl, rfl⟩
  | n :: ns => by
    obtain ⟨h1, h2⟩ := can_bls ns
    constructor
    · show (PyData.canLay0 (.bool n) && PyData.canLayAll0 (ns.map PyData.bool)) = true
      rw [h1]; rfl
    · show max (PyData.depth (.bool n)) (PyData.depthAll (ns.map PyData.bool)) = 0
      rw [h2]; rfl
theorem sh_list {ds : List PyData} (h1 : PyData.canLayAll0 ds = true) (h2 : PyData.depthAll ds = 0) : SeqAt.shaped (.list ds) = true ∧ SeqAt.shaped (.tuple ds) = true := by
  constructor
  · show (PyData.canLayAll0 ds && decide (PyData.depthAll ds + 1 ≤ 64)) = true
    rw [h1, h2]; rfl
  · show (PyData.canLayAll0 ds && decide (PyData.depthAll ds + 1 ≤ 64)) = true
    rw [h1, h2]; rfl
theorem eqv_nil (ns : List Int) : PyData.eqv (.list (ns.map PyData.int)) (.list []) = ns.isEmpty := by
  cases ns with
  | nil => rfl
  | cons n ns => rfl
theorem eqv_bls : ∀ as bs : List Bool, PyData.eqvAll (as.map PyData.bool) (bs.map PyData.bool) = decide (as = bs)
  | [], [] => rfl
  | [], _ :: _ => rfl
  | _ :: _, [] => rfl
  | a :: as, b :: bs => by
    show (PyData.eqv (.bool a) (.bool b) && PyData.eqvAll (as.map PyData.bool) (bs.map PyData.bool)) = _
    rw [eqv_bls as bs]
    show ((a == b) && decide (as = bs)) = decide (a :: as = b :: bs)
    by_cases h1 : a = b <;> by_cases h2 : as = bs <;> simp [h1, h2]
end Ef
set_option Elab.async false
set_option linter.all false
set_option maxRecDepth 100000
set_option maxHeartbeats 4000000
namespace Ef
open PySem PySem.Spec PyProof.Rows L2
structure TxtP (mg : Str → Option Value) : Prop where
  int : mg "int" = none
  len : mg "len" = none
  list : mg "list" = none
/-- what a draw promises -/
def spDraw : Sp := fun vs H Q _ => ∃ (p l : Addr) (ns : List Int) (a b m : Int), vs = [.ref p, .int m] ∧ Pen H p l ns a b ∧ a ≤ 1073741824 ∧ 1 ≤ m ∧ m < 1073741824 ∧
  ∀ (d a' b' : Int) (H' : Hp), 0 ≤ d → d < m → a' ≤ a + 1 → Pen H' p l ns a' b' → Kp p H H' → Q (.int d) H'
theorem scDraw : FnScope ["pen", "many", "digit", "at", "cell", "mixed"] ["pen", "many"] (defScope sDraw) := ⟨rfl, rfl, rfl, by decide +kernel, rfl, by decide +kernel, by decide +kernel⟩
section
variable {P : Program} {w : World} {K : PySem.W.Frag} {mg : Str → Option Value} {base : Heap}
theorem Pen.ne {H : Hp} {p l : Addr} {ns : List Int} {a b : Int} (h : Pen H p l ns a b) : l ≠ p := ne_of h.hl h.hd (by intro q; cases q)
theorem Pen.put {H : Hp} {p l : Addr} {ns : List Int} {a b : Int} (h : Pen H p l ns a b) {a' b' : Int} (ha : 0 ≤ a') (hb : 0 ≤ b') : Pen (upd H p (.dK (penD l a' b'))) p l ns a' b' :=
  ⟨upd_same, by rw [upd_ne h.ne]; exact h.hl, h.len, ha, hb⟩
theorem Pen.kp {H H' : Hp} {p l : Addr} {ns : List Int} {a b : Int} (h : Pen H p l ns a b) (k : Kp p H H') (hp : H' p = H p) : Pen H' p l ns a b := ⟨hp.trans h.hd, k _ _ h.ne h.hl, h.len, h.a0, h.b0⟩
theorem emB (x k : Int) (h : 0 < k) (h2 : k < 2 ^ 64) : -(2 ^ 64) < x % k ∧ x % k < 2 ^ 64 := by
  have h1 := Int.emod_nonneg x (show k ≠ 0 by omega)
  have h3 := Int.emod_lt_of_pos x h
  omega
theorem Pen.gl {H : Hp} {p l : Addr} {ns : List Int} {a b : Int} (h : Pen H p l ns a b) : DGet H p (.str "left") (some (.int b)) := by
  have z := DGet.k (k := Sum.inr "left") h.hd
  rw [pen_left] at z
  exact z
theorem Pen.ga {H : Hp} {p l : Addr} {ns : List Int} {a b : Int} (h : Pen H p l ns a b) : DGet H p (.str "at") (some (.int a)) := by
  have z := DGet.k (k := Sum.inr "at") h.hd
  rw [pen_at] at z
  exact z
theorem Pen.gc {H : Hp} {p l : Addr} {ns : List Int} {a b : Int} (h : Pen H p l ns a b) : DGet H p (.str "cells") (some (.ref l)) := by
  have z := DGet.k (k := Sum.inr "cells") h.hd
  rw [pen_cells] at z
  exact z
theorem Pen.pl {H : Hp} {p l : Addr} {ns : List Int} {a b c : Int} (h : Pen H p l ns a b) : DPut H p (.str "left") (.int c) (upd H p (.dK (penD l a c))) := by
  have z := DPut.k (k := Sum.inr "left") (v := .int c) h.hd (by show 3 < sizeLine; decide)
  rw [put_left] at z
  exact z
theorem Pen.pa {H : Hp} {p l : Addr} {ns : List Int} {a b c : Int} (h : Pen H p l ns a b) : DPut H p (.str "at") (.int c) (upd H p (.dK (penD l c b))) := by
  have z := DPut.k (k := Sum.inr "at") (v := .int c) h.hd (by show 3 < sizeLine; decide)
  rw [put_at] at z
  exact z
theorem ok_draw {f : Addr} {fd : FuncData} (F : Fun K "_law_draw" "_law_draw" sDraw f fd) (T : TxtP mg) : FnOk P w K mg base CX0 1 f fd ["pen", "many"] spDraw := by
  refine F.ok scDraw (fun vs H Q E h => ?_) (fun cdv A outer s H vs Q E hr h => ?_)
  · obtain ⟨p, l, ns, a, b, m, rfl, _⟩ := h
    rfl
  · obtain ⟨p, l, ns, a, b, m, rfl, hP, ha, hm1, hm2, q⟩ := h
    have hu := hu_of hr
    refine ⟨_, (pss_cons (ps_if (pt_cmpR op_ge (pe_dget hu (pv 0) pe_str (fun _ _ => rfl)) (pv 1) (nomark _)) (pss_cons (ps_set (i := 2) scDraw.nd rfl (.inl rfl) (pe_op op_mod (pe_callTy call_int1 (by rfl) T.int (by decide +kernel) (pa_cons (pe_dget hu (pv 0) pe_str (fun _ _ => rfl)) pa_nil)) (pv 1)))
      (pss_cons (ps_dput hu (pv 0) pe_str (pe_op op_fdiv (pe_dget hu (pv 0) pe_str (fun _ _ => rfl)) (pv 1)) rfl)
      (pss_one (ps_ret (pv 2))))) pss_nil)
      (pss_cons (ps_set (i := 3) scDraw.nd rfl (.inl rfl) (pe_dget hu (pv 0) pe_str (fun _ _ => rfl)))
      (pss_cons (ps_dput hu (pv 0) pe_str (pe_op op_add (pv 3) pe_int) rfl)
      (pss_cons (ps_set (i := 4) scDraw.nd rfl (.inl rfl) (pe_op op_add (pe_op op_mul pe_int (pv 3)) pe_int))
      (pss_cons (ps_if (pt_cmpR (op_neD hr.units) (pe_dget hu (pv 0) pe_str (fun _ _ => rfl)) (pe_lst pa_nil) (nomark _)) (pss_one (ps_set (i := 4) scDraw.nd rfl (.inl rfl) (pe_ix ix_list (pe_dget hu (pv 0) pe_str (fun _ _ => rfl)) (pe_op op_mod (pe_callTy call_int1 (by rfl) T.int (by decide +kernel) (pa_cons (pv 3) pa_nil)) (pe_callB call_len_seq (by rfl) T.len PySem.boot_len (pa_cons (pe_dget hu (pv 0) pe_str (fun _ _ => rfl)) pa_nil))) (fun _ _ => rfl)))) pss_nil)
      (pss_cons (ps_if (pw_and (pt_cmpR op_lt (pv 3) (pe_callB call_len_seq (by rfl) T.len PySem.boot_len (pa_cons (pe_dget hu (pv 0) pe_str (fun _ _ => rfl)) pa_nil)) (nomark _)) (pw_and1 (pt_cmpR op_ge (pv 4) (pe_op op_pow pe_int pe_int) (nomark _)))).pt (pss_cons (ps_dput hu (pv 0) pe_str (pe_op op_fdiv (pe_op op_sub (pv 4) (pe_op op_pow pe_int pe_int)) (pv 1)) rfl)
      (pss_one (ps_ret (pe_op op_mod (pe_callTy call_int1 (by rfl) T.int (by decide +kernel) (pa_cons (pe_op op_sub (pv 4) (pe_op op_pow pe_int pe_int)) pa_nil)) (pv 1))))) pss_nil)
      (pss_cons (ps_set (i := 5) scDraw.nd rfl (.inl rfl) (pe_op op_add (pe_op op_add (pe_op op_add (pe_op op_mul (pe_op op_mod (pe_callTy call_int1 (by rfl) T.int (by decide +kernel) (pa_cons (pv 4) pa_nil)) pe_int) pe_int) (pe_op op_mul (pe_op op_mul pe_int (pv 3)) (pv 3))) (pe_op op_mul pe_int (pv 3))) pe_int))
      (pss_cons (ps_set (i := 5) scDraw.nd rfl (.inl rfl) (pe_op op_mod (pe_callTy call_int1 (by rfl) T.int (by decide +kernel) (pa_cons (pv 5) pa_nil)) pe_int))
      (pss_cons (ps_set (i := 5) scDraw.nd rfl (.inl rfl) (pe_op op_mod (pe_callTy call_int1 (by rfl) T.int (by decide +kernel) (pa_cons (pe_op op_mul (pv 5) (pe_op op_add (pv 5) pe_int)) pa_nil)) pe_int))
      (pss_one (ps_ret (pe_op op_mod (pe_callTy call_int1 (by rfl) T.int (by decide +kernel) (pa_cons (pe_op op_fdiv (pe_op op_mod (pe_callTy call_int1 (by rfl) T.int (by decide +kernel) (pa_cons (pe_op op_mul (pv 5) (pv 5)) pa_nil)) pe_int) pe_int) pa_nil)) (pv 1))))))))))))), ?_⟩
    -- if pen['left'] >= many
    refine ⟨_, rfl, p, _, rfl, hP.gl, _, rfl, _, _, rfl, rfl, _, rfl, ?_⟩
    refine ite2 (fun hb => ?_) (fun hb => ?_)
    · -- digit; pen['left']; return
      refine ⟨_, rfl, p, _, rfl, hP.gl, .inl ⟨_, rfl, ?_⟩⟩
      refine ⟨_, rfl, _, _, rfl, rfl, by omega, ?_⟩
      refine ⟨_, rfl, p, _, rfl, hP.gl, _, rfl, _, _, rfl, rfl, ⟨by omega, hm2⟩, _, rfl, p, _, rfl, hP.pl, ?_⟩
      refine ⟨_, rfl, ?_⟩
      exact q _ _ _ _ (Int.emod_nonneg _ (by omega)) (Int.emod_lt_of_pos _ (by omega)) (by omega) (hP.put hP.a0 (Int.ediv_nonneg hP.b0 (by omega))) (Kp.put _)
    · -- at = pen['at']; pen['at'] = at + 1
      refine ⟨_, rfl, p, _, rfl, hP.ga, ?_⟩
      refine ⟨_, rfl, _, _, rfl, rfl, _, rfl, p, _, rfl, hP.pa, ?_⟩
      have hP1 := hP.put (a' := a + 1) (b' := b) (by have := hP.a0; omega) hP.b0
      have a0 := hP.a0
      have b0 := hP.b0
      have k1 : Kp p H (upd H p (.dK (penD l (a + 1) b))) := Kp.put _
      have aE : ∀ {x : Int}, x = a → -(2 ^ 64) < x ∧ x < 2 ^ 64 := fun e => by subst e; constructor <;> omega
      -- cell = 37 * at + 11
      refine ⟨_, rfl, _, _, rfl, rfl, .inl ⟨by decide, by decide⟩, _, _, rfl, rfl, ?_⟩
      -- if pen['cells'] != []
      refine ⟨_, rfl, p, _, rfl, hP1.gc, Nat.zero_le _, fun t ht => ?_⟩
      have hP2 : Pen (upd (upd H p (.dK (penD l (a + 1) b))) t (.lst [])) p l ns (a + 1) b := hP1.kp (Kp.new _ ht) (upd_ne (ne_of_none hP1.hd ht))
      have k2 := k1.trans (Kp.new (.lst []) ht)
      have hT : SqL K (upd (upd H p (.dK (penD l (a + 1) b))) t (.lst [])) t [] := .inl (.inl upd_same)
      refine ⟨_, _, .lst (.inl (.inl hP2.hl)) (dp_ints ns), .lst hT .nil, (sh_list (can_ints ns).1 (can_ints ns).2).1, (sh_list rfl rfl).1, _, rfl, ?_⟩
      generalize upd (upd H p (.dK (penD l (a + 1) b))) t (.lst []) = H2 at hP2 k2 hT ⊢
      rw [eqv_nil]
      have hm0 : (0 : Int) < m := by omega
      refine ite2 ?g1 ?g2
      case' g1 =>
        intro he
        have hn : 0 < ns.length := by
          cases ns with
          | nil => exact absurd he (by decide)
          | cons n ns => exact Nat.succ_pos _
        have hlt : (a % (ns.length : Int)).toNat < ns.length := by
          have h1 := Int.emod_nonneg a (show (ns.length : Int) ≠ 0 by omega)
          have h2 := Int.emod_lt_of_pos a (show (0 : Int) < (ns.length : Int) by omega)
          omega
        refine ⟨_, rfl, p, _, rfl, hP2.gc, _, rfl, .inl ⟨_, rfl, _, rfl, p, _, rfl, hP2.gc, _, _, rfl, .inl (.inl (.inl hP2.hl)), _, _, rfl, rfl, by rw [List.length_map]; omega, l, _, _, .int ns[(a % (ns.length : Int)).toNat], rfl, rfl, .inl (.inl hP2.hl), ?_, ?_⟩⟩
        · rw [List.length_map]
          exact at_of (Int.toNat_of_nonneg (Int.emod_nonneg a (show (ns.length : Int) ≠ 0 by omega))).symm (by rw [List.getElem?_map, List.getElem?_eq_getElem hlt]; rfl)
        generalize ns[(a % (ns.length : Int)).toNat] = c
      case' g2 =>
        intro he
        generalize 37 * a + 11 = c
      all_goals
        refine ⟨_, rfl, _, rfl, p, _, rfl, hP2.gc, _, _, rfl, .inl (.inl (.inl hP2.hl)), _, _, rfl, rfl, _, rfl, ?_⟩
        refine ite2 ?_ ?_
      all_goals intro h1
      all_goals try
        (refine ⟨_, rfl, _, _, rfl, rfl, ⟨by decide, by decide, by decide⟩, _, _, rfl, rfl, _, rfl, ?_⟩
         refine ite2 ?_ ?_ <;> intro h2)
      all_goals try
        (refine ⟨_, rfl, _, _, rfl, rfl, ⟨by decide, by decide, by decide⟩, _, _, rfl, rfl, _, rfl, _, _, rfl, rfl, ⟨hm0, hm2⟩, _, rfl, p, _, rfl, hP2.pl, ?_⟩
         refine ⟨_, rfl, _, _, rfl, rfl, ⟨by decide, by decide, by decide⟩, _, _, rfl, rfl, .inl ⟨_, rfl, _, rfl, _, _, rfl, rfl, hm0, ?_⟩⟩
         exact q _ _ _ _ (Int.emod_nonneg _ (Int.ne_of_gt hm0)) (Int.emod_lt_of_pos _ hm0) (Int.le_refl _) (hP2.put hP2.a0 (Int.ediv_nonneg (Int.sub_nonneg_of_le (of_decide_eq_true h2)) (Int.le_of_lt hm0))) (k2.trans (Kp.put _)))
      all_goals try refine iteF ?_
      all_goals
        refine ⟨_, rfl, .inl ⟨_, rfl, _, _, rfl, rfl, (by show (0 : Int) < _; decide), _, _, rfl, rfl, .inr ⟨by decide, by decide⟩, _, rfl, _, _, rfl, rfl, .inl ⟨by decide, by decide⟩, _, rfl, _, _, rfl, rfl, .inr (aE rfl), _, _, rfl, rfl, _, rfl, _, _, rfl, rfl, .inl ⟨by decide, by decide⟩, _, _, rfl, rfl, _, _, rfl, rfl, ?_⟩⟩
        refine ⟨_, rfl, .inl ⟨_, rfl, _, _, rfl, rfl, (by show (0 : Int) < _; decide), ?_⟩⟩
        refine ⟨_, rfl, _, rfl, _, _, rfl, rfl, _, _, rfl, rfl, .inl (emB _ _ (by decide) (by decide)), .inl ⟨_, rfl, _, _, rfl, rfl, (by show (0 : Int) < _; decide), ?_⟩⟩
        refine ⟨_, rfl, _, rfl, _, _, rfl, rfl, .inl (emB _ _ (by decide) (by decide)), .inl ⟨_, rfl, _, _, rfl, rfl, (by show (0 : Int) < _; decide), _, _, rfl, rfl, ⟨by decide, by decide⟩, .inl ⟨_, rfl, _, rfl, _, _, rfl, rfl, hm0, ?_⟩⟩⟩
        exact q _ _ _ _ (Int.emod_nonneg _ (Int.ne_of_gt hm0)) (Int.emod_lt_of_pos _ hm0) (Int.le_refl _) hP2 k2
end
end Ef
set_option Elab.async false
set_option linter.all false
set_option maxRecDepth 100000
set_option maxHeartbeats 4000000
namespace Ef
open PySem PySem.Spec PyProof.Rows L2
abbrev sTruths : Stmt := top 30
abbrev sModel : Stmt := top 31
abbrev sTruth : Stmt := top 32
abbrev sWhere : Stmt := top 35
abbrev sHas : Stmt := top 0
/-- a def of the text, by its name -/
structure Df (P : Program) (w : World) (K : PySem.W.Frag) (mg : Str → Option Value) (base : Heap) (k : Nat) (x : Str) (ps : List Str) (sp : Sp) : Prop where
  ex : ∃ f fd, mg x = some (.ref f) ∧ PySem.W.keepIn K (.ref f) = true ∧ Binds K fd ps [] ∧ FnOk P w K mg base CX0 k f fd ps sp
theorem Df.call {X : Cx} {k : Nat} {x : Str} {ps : List Str} {sp : Sp} {e : Expr} {es : List Expr} {t : TA} {p pos : Pos} (D : Df X.prog X.w X.K X.mg X.base k x ps sp) (hr : Room k X.A) (ha : PA X (e :: es) t) (hg : Gl X x := by rfl)
    (hdb : (x == ("__debug__" : Str)) = false := by decide) (he : starEach (e :: es) X.env = (false, eval e X.env) :: starEach es X.env := by rfl) (hpl : (backTo pos (starEach es X.env)).any (·.1) = false := by rfl) :
    PE X (.Call (.Name x p) (e :: es) [] pos) (tCall sp [] E0 t) := by
  obtain ⟨f, fd, hm, hk, hb, F⟩ := D.ex
  exact pe_call F hr hg hm hk hb .nil pass0 ha hdb he hpl
/-- where the text's def stands behind the top -/
structure At (K : PySem.W.Frag) (mg : Str → Option Value) (x : Str) (st : Stmt) : Prop where
  ex : ∃ f fd, mg x = some (.ref f) ∧ Fun K x x st f fd
section
variable {P : Program} {w : World} {K : PySem.W.Frag} {mg : Str → Option Value} {base : Heap}
theorem Kp.of_same {p : Addr} {H H' : Hp} (h : Same H H') : Kp p H H' := fun x o _ e => h x o e
theorem Kp.rd {p : Addr} {H H' : Hp} {q : Addr} {u : HO} (k : Kp p H H') (n : q ≠ p) (h : Rd H q u) : Rd H' q u := by
  rcases h with h | ⟨o, h⟩
  · exact .inl (k _ _ n h)
  · exact .inr ⟨o, k _ _ n h⟩
theorem Kp.sql {p : Addr} {H H' : Hp} {q : Addr} {xs : List V} (k : Kp p H H') (n : q ≠ p) (h : SqL K H q xs) : SqL K H' q xs := by
  rcases h with h | h
  · exact .inl (k.rd n h)
  · exact .inr h
theorem Kp.sqt {p : Addr} {H H' : Hp} {q : Addr} {xs : List V} (k : Kp p H H') (n : q ≠ p) (h : SqT K H q xs) : SqT K H' q xs := by
  rcases h with h | h
  · exact .inl (k.rd n h)
  · exact .inr h
theorem Kp.free {p : Addr} {H H' : Hp} (k : Kp p H H') {q : Addr} (n : q ≠ p) (h : H' q = none) : H q = none := by
  cases e : H q with
  | none => rfl
  | some o => rw [k q o n e] at h; cases h
theorem Kp.mut {p q : Addr} {H H' : Hp} {o : HO} (k : Kp p H H') (h : H q = none) : Kp p H (upd H' q o) := fun x u n e => by
  rw [upd_ne (ne_of_none e h)]
  exact k x u n e
theorem small1000' {n : Nat} (h : n ≤ 100000) : n < sizeLine := Nat.lt_of_le_of_lt h (by decide)
theorem df_draw (A : At K mg "_law_draw" sDraw) (T : TxtP mg) : Df P w K mg base 1 "_law_draw" ["pen", "many"] spDraw := by
  obtain ⟨f, fd, hm, F⟩ := A.ex
  exact ⟨f, fd, hm, F.kp, F.binds (fun _ _ _ _ _ _ us hl => match us, hl with | [_, _], _ => rfl), ok_draw F T⟩
/-! ### _law_pen -/
def spPen (K : PySem.W.Frag) : Sp := fun vs H Q _ => ∃ (a : Addr) (ns : List Int), vs = [.ref a] ∧ SqL K H a (ns.map V.int) ∧ ns.length ≤ 63 ∧ ∀ (p l : Addr) (H' : Hp), H p = none → Same H H' → Pen H' p l ns 0 0 → Q (.ref p) H'
theorem scPen : FnScope ["script"] ["script"] (defScope sPen) := ⟨rfl, rfl, rfl, by decide +kernel, rfl, by decide +kernel, by decide +kernel⟩
theorem cut63 (xs : List V) (h : xs.length ≤ 63) : cutV xs none (some 63) = xs := by
  unfold cutV
  rw [HT.sIx_none, show HT.sIx xs.length xs.length (some 63) = min 63 xs.length from HT.sIx_nat xs.length xs.length 63, Nat.min_eq_right h]
  simp
theorem df_pen (A : At K mg "_law_pen" sPen) (T : TxtP mg) : Df P w K mg base 1 "_law_pen" ["script"] (spPen K) := by
  obtain ⟨f, fd, hm, F⟩ := A.ex
  refine ⟨f, fd, hm, F.kp, F.binds (fun _ _ _ _ _ _ us hl => match us, hl with | [_], _ => rfl), F.ok scPen (fun vs H Q E h => ?_) (fun cdv A outer s H vs Q E hr h => ?_)⟩
  · obtain ⟨a, ns, rfl, _⟩ := h
    rfl
  · obtain ⟨a, ns, rfl, hS, hlen, q⟩ := h
    refine ⟨_, (pss_one (ps_ret (pe_disp (pps_cons pe_str (pe_callTy call_list_of (by rfl) T.list (by decide +kernel) (pa_cons (pe_slice sl_list (pv 0) po_none (po_some pe_int)) pa_nil)) (pps_cons pe_str pe_int (pps_cons pe_str pe_int pps_nil))) (by rfl) (by rfl) (fun z => by cases z) (by decide)))), ?_⟩
    intro p hp
    have s1 : Same H (upd H p (.dK [])) := fun b o e => by rw [upd_ne (ne_of_none e hp)]; exact e
    refine ⟨_, rfl, 63, rfl, a, _, rfl, s1.seq hS, fun c hc => ?_⟩
    rw [cut63 _ (by rw [List.length_map]; exact hlen)]
    have s2 : Same H (upd (upd H p (.dK [])) c (.lst (ns.map V.int))) := s1.trans fun b o e => by rw [upd_ne (ne_of_none e hc)]; exact e
    refine ⟨c, _, rfl, .inl (.inl (.inl upd_same)), fun l hl => ?_⟩
    have s3 : Same H (upd (upd (upd H p (.dK [])) c (.lst (ns.map V.int))) l (.lst (ns.map V.int))) := s2.trans fun b o e => by rw [upd_ne (ne_of_none e hl)]; exact e
    have hpc : p ≠ c := fun z => by rw [← z, upd_same] at hc; cases hc
    have hpl : p ≠ l := fun z => by rw [← z, upd_ne hpc, upd_same] at hl; cases hl
    refine ⟨by rw [upd_ne hpl, upd_ne hpc, upd_same], penD l 0 0, rfl, by show 3 ≤ 15; decide, ?_⟩
    refine q p l _ hp (fun b o e => ?_) ⟨upd_same, by rw [upd_ne hpl.symm, upd_same], hlen, Int.le_refl 0, Int.le_refl 0⟩
    rw [upd_ne (ne_of_none e hp)]
    exact s3 _ _ e
/-! ### _law_pick -/
def spPick (K : PySem.W.Frag) : Sp := fun vs H Q _ => ∃ (p l q : Addr) (ns : List Int) (a b : Int) (xs : List V), vs = [.ref p, .ref q] ∧ Pen H p l ns a b ∧ a ≤ 1073741824 ∧ SqL K H q xs ∧ q ≠ p ∧ 1 ≤ xs.length ∧ xs.length ≤ 100000 ∧
  ∀ (j : Nat) (v : V) (a' b' : Int) (H' : Hp), xs[j]? = some v → a' ≤ a + 1 → Pen H' p l ns a' b' → Kp p H H' → Q v H'
theorem scPick : FnScope ["pen", "some"] ["pen", "some"] (defScope sPick) := ⟨rfl, rfl, rfl, by decide +kernel, rfl, by decide +kernel, by decide +kernel⟩
theorem df_pick (A : At K mg "_law_pick" sPick) (T : TxtP mg) (Ddraw : Df P w K mg base 1 "_law_draw" ["pen", "many"] spDraw) : Df P w K mg base 2 "_law_pick" ["pen", "some"] (spPick K) := by
  obtain ⟨f, fd, hm, F⟩ := A.ex
  refine ⟨f, fd, hm, F.kp, F.binds (fun _ _ _ _ _ _ us hl => match us, hl with | [_, _], _ => rfl), F.ok scPick (fun vs H Q E h => ?_) (fun cdv A outer s H vs Q E hr h => ?_)⟩
  · obtain ⟨p, l, q, ns, a, b, xs, rfl, _⟩ := h
    rfl
  · obtain ⟨p, l, q, ns, a, b, xs, rfl, hP, ha, hS, hqp, h1, h2, k⟩ := h
    refine ⟨_, (pss_one (ps_ret (pe_ix ix_list (pv 1) (Ddraw.call (hr.mono (by decide)) (pa_cons (pv 0) (pa_cons (pe_callB call_len_seq (by rfl) T.len PySem.boot_len (pa_cons (pv 1) pa_nil)) pa_nil))) (fun _ _ => rfl)))), ?_⟩
    refine ⟨_, rfl, _, rfl, _, rfl, _, _, rfl, .inl hS, p, l, ns, a, b, _, rfl, hP, ha, by omega, by omega, fun d a' b' H' d0 d1 ha' hP' hK => ?_⟩
    have hd : d.toNat < xs.length := by omega
    exact ⟨q, _, _, _, rfl, rfl, hK.sql hqp hS, at_of (Int.toNat_of_nonneg d0).symm (List.getElem?_eq_getElem hd), k _ _ _ _ _ (List.getElem?_eq_getElem hd) ha' hP' hK⟩
/-! ### _law_truths -/
def spTruths : Sp := fun vs H Q _ => ∃ (p l : Addr) (ns : List Int) (a b m : Int), vs = [.ref p, .int m] ∧ Pen H p l ns a b ∧ a ≤ 1000000000 ∧ 0 ≤ m ∧ m ≤ 10000 ∧
  ∀ (r : Addr) (bs : List Bool) (a' b' : Int) (H' : Hp), H r = none → H' r = some (.lst (bs.map V.bl)) → (bs.length : Int) = m → a' ≤ a + m + 3 → Pen H' p l ns a' b' → Kp p H H' → Q (.ref r) H'
theorem scTruths : FnScope ["pen", "many", "way", "truth", "found", "k"] ["pen", "many"] (defScope sTruths) := ⟨rfl, rfl, rfl, by decide +kernel, rfl, by decide +kernel, by decide +kernel⟩
theorem df_truths (A : At K mg "_law_truths" sTruths) (T : TxtP mg) (hrg : mg "range" = none) (Ddraw : Df P w K mg base 1 "_law_draw" ["pen", "many"] spDraw) : Df P w K mg base 2 "_law_truths" ["pen", "many"] spTruths := by
  obtain ⟨f, fd, hm, F⟩ := A.ex
  refine ⟨f, fd, hm, F.kp, F.binds (fun _ _ _ _ _ _ us hl => match us, hl with | [_, _], _ => rfl), F.ok scTruths (fun vs H Q E h => ?_) (fun cdv A outer s H vs Q E hr h => ?_)⟩
  · obtain ⟨p, l, ns, a, b, m, rfl, _⟩ := h
    rfl
  · obtain ⟨p, l, ns, a, b, m, rfl, hP, ha, hm0, hm1, q⟩ := h
    refine ⟨_, (pss_cons (ps_asg (pe_tup (pa_cons (Ddraw.call (hr.mono (by decide)) (pa_cons (pv 0) (pa_cons pe_int pa_nil))) (pa_cons (pe_cmpR op_eq (Ddraw.call (hr.mono (by decide)) (pa_cons (pv 0) (pa_cons pe_int pa_nil))) pe_int (nomark _)) pa_nil))) (pg_tup (by rfl) (pgs_cons (pg_name (i := 2) scTruths.nd rfl (.inr rfl)) (pgs_cons (pg_name (i := 3) scTruths.nd rfl (.inr rfl)) pgs_nil))))
      (pss_cons (ps_setLc (i := 4) (own := [("k", 5)]) (g := gName 5) (by rfl) scTruths.nd rfl rfl (sw_true rfl rfl rfl (by decide +kernel)) (pi_range1 (by rfl) hrg (pa_cons (pv 1) pa_nil)) (blkOk_by (own := [("k", 5)]) (N := ["pen", "many", "way", "truth", "found", "k"]) (sc := defScope sTruths) (by decide +kernel)) (fun _ _ _ _ _ => pg_name (i := 5) scTruths.nd rfl (Or.inl rfl)) (fun _ _ _ _ _ => pts_nil) (fun _ _ _ _ _ => (pe_ifExp (pt_cmpR op_lt (pv 2) pe_int (nomark _)) (pe_cmpR op_eq (Ddraw.call (hr.mono (by decide)) (pa_cons (pv 0) (pa_cons pe_int pa_nil))) pe_int (nomark _)) (pv 3))))
      (pss_cons (ps_if (pw_and (pt_cmpR op_eq (pv 2) pe_int (nomark _)) (pw_and1 (pt_cmpR op_gt (pv 1) pe_int (nomark _)))).pt (pss_one (ps_asg (pe_not (pv 3)) (pg_sub (pv 4) (Ddraw.call (hr.mono (by decide)) (pa_cons (pv 0) (pa_cons (pv 1) pa_nil))) set_list))) pss_nil)
      (pss_one (ps_ret (pv 4)))))), ?_⟩
    -- way, truth
    refine ⟨_, rfl, p, l, ns, a, b, _, rfl, hP, by omega, by decide, by decide, fun d1 a1 b1 H1 d10 d11 ha1 hP1 hK1 => ?_⟩
    refine ⟨_, rfl, p, l, ns, a1, b1, _, rfl, hP1, by omega, by decide, by decide, fun d2 a2 b2 H2 d20 d21 ha2 hP2 hK2 => ?_⟩
    have hK12 := hK1.trans hK2
    refine ⟨rfl, by show 2 ≤ sizeLine; decide, fun t ht => ?_⟩
    have hP3 : Pen (upd H2 t (.tup [.int d1, .bl (decide (V.int d2 = V.int 0))])) p l ns a2 b2 := hP2.kp (Kp.new _ ht) (upd_ne (ne_of_none hP2.hd ht))
    have hK3 := hK12.trans (Kp.new (.tup [.int d1, .bl (decide (V.int d2 = V.int 0))]) ht)
    refine ⟨t, _, rfl, .inl (.inl upd_same), rfl, _, _, rfl, _, _, rfl, rfl, ?_⟩
    generalize upd H2 t (.tup [.int d1, .bl (decide (V.int d2 = V.int 0))]) = H3 at hP3 hK3 ⊢
    generalize decide (V.int d2 = V.int 0) = tr
    -- found = [..]
    refine ⟨_, rfl, _, rfl, by omega, by omega, fun D hD => ?_⟩
    have hDH : H D = none := by
      refine hK3.free (fun z => ?_) hD
      rw [z, hP3.hd] at hD
      cases hD
    refine lc_range (lo := 0) (n := m.toNat) (fun i H' => ∃ (acc : List Bool) (a' b' : Int), H' D = some (.lst (acc.map V.bl)) ∧ acc.length = i ∧ Pen H' p l ns a' b' ∧ a' ≤ a + 2 + i ∧ Kp p H H')
      ⟨[], a2, b2, upd_same, rfl, hP3.kp (Kp.new _ hD) (upd_ne (ne_of_none hP3.hd hD)), by omega, hK3.trans (Kp.new _ hD)⟩ ?_ ?_
    · rintro i H4 hi ⟨acc, a', b', hA, hl, hP4, ha4, hK4⟩
      have fin : ∀ (y : Bool) (a'' b'' : Int) (H5 : Hp), Pen H5 p l ns a'' b'' → a'' ≤ a' + 1 → Kp p H4 H5 → ∃ acc', H5 D = some (.lst acc') ∧ acc'.length < sizeLine ∧
          (∃ (acc : List Bool) (a' b' : Int), (upd H5 D (.lst (acc' ++ [.bl y]))) D = some (.lst (acc.map V.bl)) ∧ acc.length = i + 1 ∧ Pen (upd H5 D (.lst (acc' ++ [.bl y]))) p l ns a' b' ∧ a' ≤ a + 2 + ((i + 1 : Nat) : Int) ∧ Kp p H (upd H5 D (.lst (acc' ++ [.bl y])))) := by
        intro y a'' b'' H5 hP5 ha5 hK5
        have hDp : D ≠ p := fun z => by rw [z, hP.hd] at hDH; cases hDH
        have hA5 := hK5 _ _ hDp hA
        refine ⟨_, hA5, by rw [List.length_map]; exact small1000' (by omega), acc ++ [y], a'', b'', by rw [upd_same, List.map_append]; rfl, by rw [List.length_append, hl]; rfl, ?_, by omega, (hK4.trans hK5).mut hDH⟩
        exact ⟨by rw [upd_ne (Ne.symm hDp)]; exact hP5.hd, by rw [upd_ne (fun z => by rw [← z, hP.hl] at hDH; cases hDH)]; exact hP5.hl, hP5.len, hP5.a0, hP5.b0⟩
      refine ⟨rfl, ?_⟩
      refine ⟨_, rfl, _, _, rfl, rfl, _, rfl, ?_⟩
      refine ite2 (fun _ => ?_) (fun _ => ?_)
      · refine ⟨_, rfl, p, l, ns, a', b', _, rfl, hP4, by omega, by decide, by decide, fun d5 a5 b5 H5 d50 d51 ha5 hP5 hK5 => ?_⟩
        exact ⟨rfl, fin _ _ _ _ hP5 ha5 hK5⟩
      · exact ⟨_, rfl, fin _ _ _ _ hP4 (by omega) (Kp.refl _ _)⟩
    · rintro H4 ⟨acc, a', b', hA, hl, hP4, ha4, hK4⟩
      have hDp : D ≠ p := fun z => by rw [z, hP.hd] at hDH; cases hDH
      refine ⟨_, rfl, rfl, _, rfl, ?_⟩
      have done : ∀ (acc' : List Bool) (a'' b'' : Int) (H5 : Hp), H5 D = some (.lst (acc'.map V.bl)) → acc'.length = m.toNat → Pen H5 p l ns a'' b'' → a'' ≤ a' + 1 → Kp p H H5 → ∃ v, [some (.ref p), some (.int m), some (.int d1), some (.bl tr), some (.ref D), none][4]? = some (some v) ∧ Q v H5 :=
        fun acc' a'' b'' H5 hA5 hl5 hP5 ha5 hK5 => ⟨_, rfl, q D acc' a'' b'' H5 hDH hA5 (by omega) (by omega) hP5 hK5⟩
      refine ite2 ?_ ?_ <;> intro h1
      · refine ⟨_, rfl, _, _, rfl, rfl, _, rfl, ?_⟩
        refine ite2 ?_ ?_ <;> intro h2
        · have h2' := of_decide_eq_true h2
          refine ⟨_, rfl, _, rfl, _, rfl, _, rfl, _, rfl, p, l, ns, a', b', _, rfl, hP4, by omega, by omega, by omega, fun d5 a5 b5 H5 d50 d51 ha5 hP5 hK5 => ?_⟩
          have hA5 := hK5 _ _ hDp hA
          refine ⟨D, _, _, d5.toNat, rfl, rfl, hA5, ?_, ?_⟩
          · unfold ixN
            rw [if_pos d50, if_pos (by rw [List.length_map]; omega)]
          · refine done (acc.set d5.toNat (!tr)) a5 b5 _ (by rw [upd_same, List.map_set]) (by rw [List.length_set]; omega) ⟨by rw [upd_ne (Ne.symm hDp)]; exact hP5.hd, by rw [upd_ne (fun z => by rw [← z, hP.hl] at hDH; cases hDH)]; exact hP5.hl, hP5.len, hP5.a0, hP5.b0⟩ (by omega) ((hK4.trans hK5).mut hDH)
        · exact done acc a' b' H4 hA (by omega) hP4 (by omega) hK4
      · refine iteF ?_
        exact done acc a' b' H4 hA (by omega) hP4 (by omega) hK4
end
end Ef
set_option Elab.async false
set_option linter.all false
set_option maxRecDepth 100000
set_option maxHeartbeats 4000000
namespace Ef
open PySem PySem.Spec PyProof.Rows L2
/-- a drawn set: the tuple of its two lists of truths -/
def Md (H : Hp) (r : Addr) (bs rs : List Bool) : Prop := ∃ rb rr, H r = some (.tup [.ref rb, .ref rr]) ∧ H rb = some (.lst (bs.map V.bl)) ∧ H rr = some (.lst (rs.map V.bl))
theorem Md.kp {H H' : Hp} {p r : Addr} {bs rs : List Bool} {d : List (Key × V)} (h : Md H r bs rs) (k : Kp p H H') (hp : H p = some (.dK d)) : Md H' r bs rs := by
  obtain ⟨rb, rr, h1, h2, h3⟩ := h
  exact ⟨rb, rr, k _ _ (ne_of h1 hp (by intro q; cases q)) h1, k _ _ (ne_of h2 hp (by intro q; cases q)) h2, k _ _ (ne_of h3 hp (by intro q; cases q)) h3⟩
theorem Md.same {H H' : Hp} {r : Addr} {bs rs : List Bool} (h : Md H r bs rs) (k : Same H H') : Md H' r bs rs := by
  obtain ⟨rb, rr, h1, h2, h3⟩ := h
  exact ⟨rb, rr, k _ _ h1, k _ _ h2, k _ _ h3⟩
/-- is n in the set -/
def mtruth (bs rs : List Bool) (n : Int) : Bool := if n < bs.length then bs.getD n.toNat false else rs.getD (n % rs.length).toNat false
theorem inV_bls (b : Bool) : ∀ bs : List Bool, inV (.bl b) (bs.map V.bl) = bs.contains b
  | [] => rfl
  | c :: bs => by
    show (eqV (.bl c) (.bl b) || inV (.bl b) (bs.map V.bl)) = _
    rw [inV_bls b bs, List.contains_cons]
    congr 1
    cases b <;> cases c <;> rfl
theorem flat_bls : ∀ bs : List Bool, (bs.map V.bl).all flatV = true
  | [] => rfl
  | c :: bs => by
    show (flatV (.bl c) && (bs.map V.bl).all flatV) = true
    rw [flat_bls bs]; rfl
theorem get_bls {bs : List Bool} {j : Nat} (h : j < bs.length) : (bs.map V.bl)[j]? = some (.bl (bs.getD j false)) := by
  rw [List.getElem?_map, List.getElem?_eq_getElem h, List.getD_eq_getElem?_getD, List.getElem?_eq_getElem h]
  rfl
section
variable {P : Program} {w : World} {K : PySem.W.Frag} {mg : Str → Option Value} {base : Heap}
/-! ### _law_model -/
def spModel (K : PySem.W.Frag) : Sp := fun vs H Q _ => ∃ (p l q : Addr) (ns : List Int) (a b most : Int) (ms : List Int), vs = [.ref p, .int most, .ref q] ∧ Pen H p l ns a b ∧ a ≤ 900000000 ∧ 0 ≤ most ∧ most ≤ 1000 ∧ SqL K H q (ms.map V.int) ∧ q ≠ p ∧
  1 ≤ ms.length ∧ ms.length ≤ 1000 ∧ (∀ m ∈ ms, 1 ≤ m ∧ m ≤ 1000) ∧
  ∀ (r rb rr : Addr) (bs rs : List Bool) (a' b' : Int) (H' : Hp), H r = none → H rb = none → H rr = none → H' r = some (.tup [.ref rb, .ref rr]) → H' rb = some (.lst (bs.map V.bl)) → H' rr = some (.lst (rs.map V.bl)) → (bs.length : Int) ≤ most → (rs.length : Int) ∈ ms → a' ≤ a + 3000 → Pen H' p l ns a' b' → Kp p H H' → Q (.ref r) H'
theorem scModel : FnScope ["pen", "most", "periods"] ["pen", "most", "periods"] (defScope sModel) := ⟨rfl, rfl, rfl, by decide +kernel, rfl, by decide +kernel, by decide +kernel⟩
theorem df_model (A : At K mg "_law_model" sModel) (Ddraw : Df P w K mg base 1 "_law_draw" ["pen", "many"] spDraw) (Dpick : Df P w K mg base 2 "_law_pick" ["pen", "some"] (spPick K))
    (Dtruths : Df P w K mg base 2 "_law_truths" ["pen", "many"] spTruths) : Df P w K mg base 3 "_law_model" ["pen", "most", "periods"] (spModel K) := by
  obtain ⟨f, fd, hm, F⟩ := A.ex
  refine ⟨f, fd, hm, F.kp, F.binds (fun _ _ _ _ _ _ us hl => match us, hl with | [_, _, _], _ => rfl), F.ok scModel (fun vs H Q E h => ?_) (fun cdv A outer s H vs Q E hr h => ?_)⟩
  · obtain ⟨p, l, q, ns, a, b, most, ms, rfl, _⟩ := h
    rfl
  · obtain ⟨p, l, q, ns, a, b, most, ms, rfl, hP, ha, hm0, hm1, hS, hqp, h1, h2, hms, k⟩ := h
    refine ⟨_, (pss_one (ps_ret (pe_tup (pa_cons (Dtruths.call (hr.mono (by decide)) (pa_cons (pv 0) (pa_cons (Ddraw.call (hr.mono (by decide)) (pa_cons (pv 0) (pa_cons (pe_op op_add (pv 1) pe_int) pa_nil))) pa_nil))) (pa_cons (Dtruths.call (hr.mono (by decide)) (pa_cons (pv 0) (pa_cons (Dpick.call (hr.mono (by decide)) (pa_cons (pv 0) (pa_cons (pv 2) pa_nil))) pa_nil))) pa_nil))))), ?_⟩
    refine ⟨_, rfl, _, rfl, _, rfl, _, _, rfl, rfl, p, l, ns, a, b, _, rfl, hP, by omega, by omega, by omega, fun d1 a1 b1 H1 d10 d11 ha1 hP1 hK1 => ?_⟩
    refine ⟨p, l, ns, a1, b1, _, rfl, hP1, by omega, d10, by omega, fun r1 bs a2 b2 H2 hr1 hA1 hl1 ha2 hP2 hK2 => ?_⟩
    have hK12 := hK1.trans hK2
    refine ⟨_, rfl, _, rfl, _, rfl, p, l, q, ns, a2, b2, _, rfl, hP2, by omega, hK12.sql hqp hS, hqp, by rw [List.length_map]; exact h1, by rw [List.length_map]; omega, fun j v a3 b3 H3 hj ha3 hP3 hK3 => ?_⟩
    rw [List.getElem?_map] at hj
    obtain ⟨m, hm, rfl⟩ := Option.map_eq_some_iff.mp hj
    have hmem := List.mem_of_getElem? hm
    obtain ⟨m0, m1⟩ := hms m hmem
    refine ⟨p, l, ns, a3, b3, _, rfl, hP3, by omega, by omega, by omega, fun r2 rs a4 b4 H4 hr2 hA2 hl2 ha4 hP4 hK4 => ?_⟩
    have n1 : r1 ≠ p := ne_of hA1 hP2.hd (by intro q; cases q)
    have hA1' := hK4 _ _ n1 (hK3 _ _ n1 hA1)
    refine ⟨by show 2 ≤ sizeLine; decide, fun t ht => ?_⟩
    have hK14 := hK12.trans (hK3.trans hK4)
    have n2 : r2 ≠ p := ne_of hA2 hP4.hd (by intro q; cases q)
    have nt : t ≠ p := fun z => by rw [z, hP4.hd] at ht; cases ht
    have hP5 : Pen (upd H4 t (.tup [.ref r1, .ref r2])) p l ns a4 b4 := hP4.kp (Kp.new _ ht) (upd_ne (ne_of_none hP4.hd ht))
    exact k t r1 r2 bs rs a4 b4 _ (hK14.free nt ht) (hK1.free n1 hr1) ((hK12.trans hK3).free n2 hr2) upd_same (by rw [upd_ne (ne_of_none hA1' ht)]; exact hA1') (by rw [upd_ne (ne_of_none hA2 ht)]; exact hA2) (by omega) (by rw [hl2]; exact hmem) (by omega) hP5 (hK14.trans (Kp.new _ ht))
/-! ### _law_truth -/
def spTruth : Sp := fun vs H Q _ => ∃ (r : Addr) (bs rs : List Bool) (n : Int), vs = [.ref r, .int n] ∧ Md H r bs rs ∧ 0 ≤ n ∧ 1 ≤ rs.length ∧ Q (.bl (mtruth bs rs n)) H
theorem scTruth : FnScope ["model", "n", "below", "rests"] ["model", "n"] (defScope sTruth) := ⟨rfl, rfl, rfl, by decide +kernel, rfl, by decide +kernel, by decide +kernel⟩
theorem df_truth (A : At K mg "_law_truth" sTruth) (T : TxtP mg) : Df P w K mg base 1 "_law_truth" ["model", "n"] spTruth := by
  obtain ⟨f, fd, hm, F⟩ := A.ex
  refine ⟨f, fd, hm, F.kp, F.binds (fun _ _ _ _ _ _ us hl => match us, hl with | [_, _], _ => rfl), F.ok scTruth (fun vs H Q E h => ?_) (fun cdv A outer s H vs Q E hr h => ?_)⟩
  · obtain ⟨r, bs, rs, n, rfl, _⟩ := h
    rfl
  · obtain ⟨r, bs, rs, n, rfl, ⟨rb, rr, h1, h2, h3⟩, n0, hrs, q⟩ := h
    refine ⟨_, (pss_cons (ps_asg (pv 0) (pg_tup (by rfl) (pgs_cons (pg_name (i := 2) scTruth.nd rfl (.inl rfl)) (pgs_cons (pg_name (i := 3) scTruth.nd rfl (.inl rfl)) pgs_nil))))
      (pss_one (ps_ret (pe_ifExp (pt_cmpR op_lt (pv 1) (pe_callB call_len_seq (by rfl) T.len PySem.boot_len (pa_cons (pv 2) pa_nil)) (nomark _)) (pe_ix ix_list (pv 2) (pv 1) (fun _ _ => rfl)) (pe_ix ix_list (pv 3) (pe_op op_mod (pe_callTy call_int1 (by rfl) T.int (by decide +kernel) (pa_cons (pv 1) pa_nil)) (pe_callB call_len_seq (by rfl) T.len PySem.boot_len (pa_cons (pv 3) pa_nil))) (fun _ _ => rfl)))))), ?_⟩
    refine ⟨_, rfl, r, _, rfl, .inl (.inl h1), rfl, _, _, rfl, _, _, rfl, rfl, ?_⟩
    refine ⟨_, rfl, _, rfl, rb, _, rfl, .inl (.inl (.inl h2)), _, _, rfl, rfl, _, rfl, ?_⟩
    unfold mtruth at q
    refine ite2 ?_ ?_ <;> intro hn
    · have hn' : n < bs.length := by have := of_decide_eq_true hn; rw [List.length_map] at this; exact this
      rw [if_pos hn'] at q
      exact ⟨_, rfl, _, rfl, rb, _, _, _, rfl, rfl, .inl (.inl h2), at_of (Int.toNat_of_nonneg n0).symm (get_bls (by omega)), q⟩
    · have hn' : ¬ n < bs.length := fun z => hn (decide_eq_true (by rw [List.length_map]; exact z))
      rw [if_neg hn'] at q
      have e0 := Int.emod_nonneg n (show (rs.length : Int) ≠ 0 by omega)
      have e1 := Int.emod_lt_of_pos n (show (0 : Int) < (rs.length : Int) by omega)
      refine ⟨_, rfl, _, rfl, .inl ⟨_, rfl, _, rfl, rr, _, rfl, .inl (.inl (.inl h3)), _, _, rfl, rfl, by rw [List.length_map]; omega, rr, _, _, _, rfl, rfl, .inl (.inl h3), ?_, q⟩⟩
      rw [List.length_map]
      exact at_of (Int.toNat_of_nonneg e0).symm (get_bls (by omega))
end
end Ef
set_option Elab.async false
set_option linter.all false
set_option maxRecDepth 100000
set_option maxHeartbeats 2000000
/-! for i, x in enumerate(t), t a tuple -/
namespace Ef
open PySem PySem.Spec PyProof.Rows L2
def IteT (K : PySem.W.Frag) (a : Addr) : It :=
  ⟨fun i H => ∃ (xs : List V) (x : V), SqT K H a xs ∧ xs[i]? = some x, fun i H v H' => ∃ T x, v = .ref T ∧ H T = none ∧ H' = upd H T (.tup [.int (i : Nat), x]) ∧ ∀ xs, SqT K H a xs → xs[i]? = some x, fun i H => ∃ xs : List V, SqT K H a xs ∧ xs.length ≤ i⟩
/-- at vals end -/
theorem draws_end {prog : Program} {w : World} {A : Around} (hh : A.handled = none) (it t : Addr) (items : Array Value) (n : Nat) (hn : items.size ≤ n) :
    Draws prog w A it [it, t] n (fun _ _ => True) (fun i h => i = n ∧ h.IsTupleIter it t n ∧ h.IsTuple t items) where
  live := fun _ _ sta => let ⟨o, ho, _⟩ := sta.2.1; ⟨o, ho⟩
  frame := fun _ _ _ sta hk => ⟨sta.1, sta.2.1.at fun o e => hk it (by simp) o e, sta.2.2.at fun o e => hk t (by simp) o e⟩
  item := fun i s Q E hi sta hQ => absurd sta.1 (Nat.ne_of_lt hi)
  done := fun s Q E sta hE => wpAny_nextOf_tuple_end hh sta.2.1 sta.2.2 (by simp; omega) hE
theorem turn_enumT {P : Program} {w : World} {K : PySem.W.Frag} {elts : List Expr} {kk : Nat} {tpos : Pos} (a e it : Addr) :
    Turn P w K (.Tuple elts kk tpos) (IteT K a) [e, it] e (fun i h => (∃ was, IsEnum h e it (0 + ((i : Nat) : Int)) was) ∧ h.IsTupleIter it a i ∧ e ≠ it ∧ a ≠ it ∧ a ≠ e) where
  mem := by simp
  obj := fun i h sta b hb => by
    obtain ⟨⟨was, hEn⟩, ⟨o, ho, hc, hd⟩, _⟩ := sta
    have eOr : b = e ∨ b = it := by simpa using hb
    rcases eOr with z | z
    · rw [z]; exact ⟨_, hEn, fun v q => nomatch q⟩
    · rw [z]; exact ⟨o, ho, fun v q => by rw [hd] at q; cases q⟩
  keep := fun i h h' sta k => let ⟨⟨was, hEn⟩, hi, eNi⟩ := sta; ⟨⟨was, k e (by simp) _ hEn⟩, hi.at fun o q => k it (by simp) o q, eNi⟩
  item := by
    intro X hP hw hK hc i pins s σ H E I hFp sta hGo
    subst hP hw hK
    obtain ⟨⟨was, hEn⟩, hIt, eNi, aNi, aNe⟩ := sta
    obtain ⟨xs, x, hSq, hx⟩ := hGo
    obtain ⟨vals, rVs, p, zLen⟩ := I.tuple hSq
    obtain ⟨u, hu, ru⟩ := rVs.get hx
    have eIn : e < s.heap.objs.size := Heap.lt_size hEn
    have iIn : it < s.heap.objs.size := by obtain ⟨_, q, _⟩ := hIt; exact Heap.lt_size q
    have hlt : i < vals.toArray.size := by
      rcases Nat.lt_or_ge i vals.length with q | q
      · simpa using q
      · rw [List.getElem?_eq_none q] at hu; cases hu
    refine wpAny_pyNext_enum_itemC (Draws.tuple (A := X.A.in1) (I.ok.hd hc) it a aNi vals.toArray) hEn ⟨hIt, p⟩ hlt eNi (by simp [eNi, Ne.symm aNe]) fun y h' tk hy ho hit' hT zNew hk => ?_
    refine ⟨_, rfl, wpAny_letOwnedTupleGo_enum (s := { s with heap := h', toks := tk + 1 }) ho fun h'' he' sBut => ?_⟩
    have hT2 : h''.get? s.heap.objs.size = some { cls := .type "tuple", data := .seq #[.int (0 + ((i : Nat) : Int)) tk, y] } := (sBut.2 _ (Nat.ne_of_gt eIn)).trans hT
    have ey : y = u := by
      have z : vals[i]? = some y := by simpa using hy
      exact Option.some.inj (z.symm.trans hu)
    have e0 : (0 + ((i : Nat) : Int)) = (i : Int) := Int.zero_add _
    rw [e0] at hT2
    have fresh1 : ObjOk X.prog X.w (upd H s.heap.objs.size (.tup [.int (i : Nat), x])) h'' s.heap.objs.size (.tup [.int (i : Nat), x]) :=
      ⟨by show 2 ≤ sizeLine; decide, [.int i tk, y], .cons ⟨_, rfl⟩ (.cons (ey ▸ ru) .nil), ⟨_, hT2, rfl, _, rfl⟩⟩
    have J1 : Inv X pins σ (upd H s.heap.objs.size (.tup [.int (i : Nat), x])) { s with heap := h'', toks := tk + 1 } :=
      I.turnedNew (ch := [e, it]) (fun b ob hb q => (sBut.2 b (fun z => hb (by simp [z]))).trans (hk b ob (fun z => hb (by simp [z])) (fun z => hb (by simp [z])) q)) hFp (Nat.le_refl _) fresh1
    refine ⟨.ref s.heap.objs.size, _, J1, rfl, ⟨_, x, rfl, I.hok.fresh (Nat.le_refl _), rfl, fun ys hy => by rw [I.tuple_inj hy hSq]; exact hx⟩, ⟨⟨y, ?_⟩, hit'.1.at fun o q => (sBut.2 it (Ne.symm eNi)).trans q, eNi, aNi, aNe⟩, fun b hb => ?_⟩
    · have e1 : (0 + ((i + 1 : Nat) : Int)) = 0 + (i : Int) + 1 := by omega
      rw [e1]; exact he'
    · have bIn : b < s.heap.objs.size := by
        have eOr : b = e ∨ b = it := by simpa using hb
        rcases eOr with z | z
        · rw [z]; exact eIn
        · rw [z]; exact iIn
      rw [upd_ne (Nat.ne_of_lt bIn)]
      exact (hFp b hb).1
  done := by
    intro X hP hw hK hc i pins s σ H E I hFp sta hGo
    subst hP hw hK
    obtain ⟨⟨was, hEn⟩, hIt, eNi, aNi, aNe⟩ := sta
    obtain ⟨xs, hSq, hx⟩ := hGo
    obtain ⟨vals, rVs, p, zLen⟩ := I.tuple hSq
    obtain ⟨g0, g1, g2, g3, g4, g5⟩ := hFp it (by simp)
    have hl := rVs.length
    exact wpAny_pyNext_enum_endD (draws_end (A := X.A.in1) (I.ok.hd hc) it a vals.toArray i (by simp; omega)) hEn ⟨rfl, hIt, p⟩ fun h' eb => ⟨rfl, I.turned (t' := s.toks) (fun b o hb q => eb b o hb q) g0 g1 g3 g4 g5⟩
  self := fun A i s Q E sta h => let ⟨⟨_, hEn⟩, _⟩ := sta; wpAny_pyIter_enum hEn h
def iEnumT (K : PySem.W.Frag) (ta : TA) : TI := fun σ H R => ta σ H fun vs H1 => ∃ a xs, vs = [.ref a] ∧ SqT K H1 a xs ∧ R (IteT K a) H1
/-- a list or a tuple -/
def iEnumS (K : PySem.W.Frag) (ta : TA) : TI := fun σ H R => ta σ H fun vs H1 => ∃ a xs, vs = [.ref a] ∧ ((SqL K H1 a xs ∧ R (Ite K a) H1) ∨ (SqT K H1 a xs ∧ R (IteT K a) H1))
/-- enumerate(t): vals two fresh1 cells -/
theorem call_enumerate_tuple {prog : Program} {w : World} {A : Around} {E : Value → Shared → Prop} {s : Shared} {l : Addr} {items : Array Value} {Q : Value → Shared → Prop} (hL : s.heap.IsTuple l items)
    (h : ∀ h', IsEnum h' (s.heap.objs.size + 1) s.heap.objs.size (0 + ((0 : Nat) : Int)) .none → h'.IsTupleIter s.heap.objs.size l 0 → h'.objs.size = s.heap.objs.size + 2 →
      (∀ b o, s.heap.get? b = some o → h'.get? b = some o) → Q (.ref (s.heap.objs.size + 1)) { s with heap := h' }) :
    wpAny (model prog w) A (call (.type "enumerate") [.ref l]) Q E s := by
  have B := begins_tuple l items
  have M : Meets (Builtin.«enumerate.__new__» ⟨[.type "enumerate", .ref l], []⟩) (fun _ R s => s.heap.IsTuple l items ∧
      R (.ok (.ret (.ref (s.heap.push { cls := .type "tuple_iterator", data := .fields #[.ref l, .int 0 0] }).objs.size)))
        { s with heap := (s.heap.push { cls := .type "tuple_iterator", data := .fields #[.ref l, .int 0 0] }).push { cls := .type "enumerate", data := .fields #[.none, .bool false, .ref s.heap.objs.size, rawInt 0, .none, .none] } }) :=
    .of_wp fun prog w A R s h => by
      obtain ⟨heap0, g, d, tk, os⟩ := s
      obtain ⟨h1, h⟩ := h
      have subE := sub_enumerate
      have q1 : ∀ {A' : Around} {E : Value → Shared → Prop} {Q : Value → Shared → Prop}, Q (.ref heap0.objs.size) ⟨heap0.push { cls := .type "tuple_iterator", data := .fields #[.ref l, .int 0 0] }, g, d, tk, os⟩ → wpAny (model prog w) A' (pyIter (.ref l)) Q E ⟨heap0, g, d, tk, os⟩ :=
        fun q => B.iter prog w _ _ ⟨heap0, g, d, tk, os⟩ _ h1 q
      obtain ⟨oT, hoT, hcT, nT, hdT⟩ := id h1
      wp_walk using q1, AutoSeq1.wpAny_loadPart' hoT
      refine wpAny_stack_any fun sta => wpAny_pure ?_
      split
      · rename_i c _ _ _ _ _
        cases (c == Value.type "enumerate")
        · wp_walk using q1, AutoSeq1.wpAny_loadPart' hoT
          exact ⟨_, rfl, h⟩
        · wp_walk using q1, AutoSeq1.wpAny_loadPart' hoT
          exact ⟨_, rfl, h⟩
      · wp_walk using q1, AutoSeq1.wpAny_loadPart' hoT
        exact ⟨_, rfl, h⟩
  refine callType_new F.called_enumerate (by decide) (F.typeCall_enumerate_1 _) (F.newCall_enumerate_1 _) (fun obj => F.args_object_init_2 obj _) F.entry_enumerate_new M ⟨hL, ?_⟩
  have zLen : (s.heap.push { cls := .type "tuple_iterator", data := .fields #[.ref l, .int 0 0] }).objs.size = s.heap.objs.size + 1 := Heap.size_push ..
  show _ ∧ _
  rw [zLen]
  have hEn : IsEnum ((s.heap.push { cls := .type "tuple_iterator", data := .fields #[.ref l, .int 0 0] }).push
      { cls := .type "enumerate", data := .fields #[.none, .bool false, .ref s.heap.objs.size, rawInt 0, .none, .none] }) (s.heap.objs.size + 1) s.heap.objs.size 0 .none := by
    have := Heap.get?_push_size (s.heap.push { cls := .type "tuple_iterator", data := .fields #[.ref l, .int 0 0] })
      (o := { cls := .type "enumerate", data := .fields #[.none, .bool false, .ref s.heap.objs.size, rawInt 0, .none, .none] }) rfl
    rw [zLen] at this; exact this
  refine ⟨⟨_, hEn, rfl⟩, h _ hEn ⟨_, Heap.get?_push_of_some _ (Heap.get?_push_size _ rfl), rfl, rfl⟩ (by rw [Heap.size_push, zLen]) fun b o x => Heap.get?_push_of_some _ (Heap.get?_push_of_some _ x)⟩
theorem pi_enumS {X : Cx} {e : Expr} {ta : TA} {p pos tpos : Pos} {elts : List Expr} {kk : Nat} (hGo : Gl X "enumerate") (hm : X.mg "enumerate" = none) (ha : PA X [e] ta) (hs : starEach [e] X.env = [(false, eval e X.env)] := by rfl) :
    PI X (.Tuple elts kk tpos) (.Call (.Name "enumerate" p) [e] [] pos) (iEnumS X.K ta) := by
  refine ⟨fun pins s σ H R I h => ?_⟩
  refine Call_ (ld_blt I hGo hm boot_enumerate (PyProof.Rows.callWith_type1 (thn (ha.run pos pins s σ H _ I h) fun us s1 ⟨vs, H1, J1, r1, q1⟩ => ?_) hs rfl))
  obtain ⟨a, xs, ex, q⟩ := q1
  subst ex
  cases r1 with
  | cons r rr =>
    cases rr
    cases r
    have far : ∀ b, b ∈ [s1.heap.objs.size + 1, s1.heap.objs.size] → s1.heap.objs.size ≤ b := fun b hb => by
      have eOr : b = s1.heap.objs.size + 1 ∨ b = s1.heap.objs.size := by simpa using hb
      rcases eOr with z | z
      · rw [z]; exact Nat.le_add_right _ _
      · rw [z]; exact Nat.le_refl _
    rcases q with ⟨hSq, q⟩ | ⟨hSq, q⟩
    · obtain ⟨vals, rVs, pSeq, zLen⟩ := J1.list hSq
      refine call_enumerate_list pSeq.isList fun h' hEn hIt zNew hk => wpAny_pyIter_enum hEn ?_
      have J2 : Inv X pins σ H1 { s1 with heap := h' } := J1.kept (t' := s1.toks) hk
      exact ⟨s1.heap.objs.size + 1, [s1.heap.objs.size + 1, s1.heap.objs.size], _, _, H1, rfl, J2, turn_enum a (s1.heap.objs.size + 1) s1.heap.objs.size, ⟨⟨.none, hEn⟩, hIt, Nat.succ_ne_self _⟩, fun b hb => J1.fpOk (far b hb) (J1.hok.fresh (far b hb)), q⟩
    · obtain ⟨vals, rVs, pSeq, zLen⟩ := J1.tuple hSq
      have hal : a < s1.heap.objs.size := by obtain ⟨o, ho, _⟩ := (show s1.heap.IsTuple a vals.toArray from pSeq); exact Heap.lt_size ho
      refine call_enumerate_tuple (show s1.heap.IsTuple a vals.toArray from pSeq) fun h' hEn hIt zNew hk => wpAny_pyIter_enum hEn ?_
      have J2 : Inv X pins σ H1 { s1 with heap := h' } := J1.kept (t' := s1.toks) hk
      exact ⟨s1.heap.objs.size + 1, [s1.heap.objs.size + 1, s1.heap.objs.size], _, _, H1, rfl, J2, turn_enumT a (s1.heap.objs.size + 1) s1.heap.objs.size, ⟨⟨.none, hEn⟩, hIt, Nat.succ_ne_self _, Nat.ne_of_lt hal, Nat.ne_of_lt (Nat.lt_succ_of_lt hal)⟩, fun b hb => J1.fpOk (far b hb) (J1.hok.fresh (far b hb)), q⟩
end Ef
set_option Elab.async false
set_option linter.all false
set_option maxRecDepth 100000
set_option maxHeartbeats 4000000
namespace Ef
open PySem PySem.Spec PyProof.Rows L2
abbrev sIsInt : Stmt := top 15
abbrev sFrom : Stmt := top 16
abbrev sCheck : Stmt := top 21
abbrev sLper : Stmt := top 3
abbrev sRound : Stmt := top 4
abbrev sPrimes : Stmt := top 5
abbrev sLstart : Stmt := top 22
structure TxtW (mg : Str → Option Value) : Prop extends TxtP mg where
  isinstance : mg "isinstance" = none
  bool : mg "bool" = none
  enumerate : mg "enumerate" = none
  reversed : mg "reversed" = none
  range : mg "range" = none
  tuple : mg "tuple" = none
/-- no int: a value of another built-in kind, or a truth -/
def NotInt (K : PySem.W.Frag) (H : Hp) (v : V) : Prop := ∃ (n : String) (b1 b2 : Bool), TyX K H v (.type n) ∧ kitB n "int" = some b1 ∧ kitB n "bool" = some b2 ∧ (b1 && !b2) = false
section
variable {P : Program} {w : World} {K : PySem.W.Frag} {mg : Str → Option Value} {base : Heap}
def spIsInt (K : PySem.W.Frag) : Sp := fun vs H Q _ => ∃ (v : V) (n : String) (b1 b2 : Bool), vs = [v] ∧ TyX K H v (.type n) ∧ kitB n "int" = some b1 ∧ kitB n "bool" = some b2 ∧ Q (.bl (b1 && !b2)) H
theorem scIsInt : FnScope ["value"] ["value"] (defScope sIsInt) := ⟨rfl, rfl, rfl, by decide +kernel, rfl, by decide +kernel, by decide +kernel⟩
theorem df_isint (A : At K mg "is_int" sIsInt) (T : TxtW mg) : Df P w K mg base 1 "is_int" ["value"] (spIsInt K) := by
  obtain ⟨f, fd, hm, F⟩ := A.ex
  refine ⟨f, fd, hm, F.kp, F.binds (fun _ _ _ _ _ _ us hl => match us, hl with | [_], _ => rfl), F.ok scIsInt (fun vs H Q E h => ?_) (fun cdv A outer s H vs Q E hr h => ?_)⟩
  · obtain ⟨v, n, b1, b2, rfl, _⟩ := h
    rfl
  · obtain ⟨v, n, b1, b2, rfl, ht, h1, h2, q⟩ := h
    refine ⟨_, (pss_one (ps_ret (pe_and (pe_callB call_isi (by rfl) T.isinstance (by decide +kernel) (pa_cons (pv 0) (pa_cons (pe_bltn (v := .ty "int") (by rfl) T.int (by decide +kernel) rfl) pa_nil))) (pe_one (pe_not (pe_callB call_isi (by rfl) T.isinstance (by decide +kernel) (pa_cons (pv 0) (pa_cons (pe_bltn (v := .ty "bool") (by rfl) T.bool (by decide +kernel) rfl) pa_nil)))))))), ?_⟩
    refine ⟨v, rfl, _, _, _, _, _, rfl, .ty "int", ht, kit_ty h1, b1, rfl, ?_⟩
    cases b1 with
    | true =>
      refine iteT ⟨v, rfl, _, _, _, _, _, rfl, .ty "bool", ht, kit_ty h2, b2, rfl, ?_⟩
      exact q
    | false => exact iteF q
def spFrom (K : PySem.W.Frag) : Sp := fun vs H Q _ => ∃ (v : V) (low : Int), vs = [v, .int low] ∧ ((∃ i, v = .int i ∧ Q (.bl (decide (low ≤ i))) H) ∨ (NotInt K H v ∧ Q (.bl false) H))
theorem scFrom : FnScope ["value", "low"] ["value", "low"] (defScope sFrom) := ⟨rfl, rfl, rfl, by decide +kernel, rfl, by decide +kernel, by decide +kernel⟩
theorem df_from (A : At K mg "is_int_from" sFrom) (Disint : Df P w K mg base 1 "is_int" ["value"] (spIsInt K)) : Df P w K mg base 2 "is_int_from" ["value", "low"] (spFrom K) := by
  obtain ⟨f, fd, hm, F⟩ := A.ex
  refine ⟨f, fd, hm, F.kp, F.binds (fun _ _ _ _ _ _ us hl => match us, hl with | [_, _], _ => rfl), F.ok scFrom (fun vs H Q E h => ?_) (fun cdv A outer s H vs Q E hr h => ?_)⟩
  · obtain ⟨v, low, rfl, _⟩ := h
    rfl
  · obtain ⟨v, low, rfl, h⟩ := h
    refine ⟨_, (pss_one (ps_ret (pe_and (Disint.call (hr.mono (by decide)) (pa_cons (pv 0) pa_nil)) (pe_one (pe_cmpR op_ge (pv 0) (pv 1) (nomark _)))))), ?_⟩
    rcases h with ⟨i, rfl, q⟩ | ⟨⟨n, b1, b2, ht, h1, h2, hb⟩, q⟩
    · refine ⟨_, rfl, _, "int", true, false, rfl, .base (.int i), by decide +kernel, by decide +kernel, _, rfl, ?_⟩
      exact iteT ⟨_, rfl, _, rfl, _, _, rfl, rfl, q⟩
    · refine ⟨_, rfl, _, n, b1, b2, rfl, ht, h1, h2, _, rfl, ?_⟩
      rw [hb]
      exact iteF q
/-! ### _check_truths -/
/-- a list or a tuple of truths -/
def Bls (K : PySem.W.Frag) (H : Hp) (a : Addr) (bs : List Bool) : Prop := SqL K H a (bs.map V.bl) ∨ SqT K H a (bs.map V.bl)
theorem Same.tup {H H' : Hp} {a : Addr} {xs : List V} (e : Same H H') (h : SqT K H a xs) : SqT K H' a xs := by
  rcases h with (h | ⟨o, h⟩) | h
  · exact .inl (.inl (e _ _ h))
  · exact .inl (.inr ⟨o, e _ _ h⟩)
  · exact .inr h
theorem Bls.same {H H' : Hp} {a : Addr} {bs : List Bool} (h : Bls K H a bs) (e : Same H H') : Bls K H' a bs := h.elim (fun h => .inl (e.seq h)) fun h => .inr (Same.tup e h)
def spCheck (K : PySem.W.Frag) : Sp := fun vs H Q _ => ∃ (a : Addr) (bs : List Bool), vs = [.ref a] ∧ Bls K H a bs ∧ ∀ H', Same H H' → Q .non H'
theorem scCheck : FnScope ["truths", "wrong", "index", "truth"] ["truths"] (defScope sCheck) := ⟨rfl, rfl, rfl, by decide +kernel, rfl, by decide +kernel, by decide +kernel⟩
theorem walk_enumT {a : Addr} {xs : List V} : Walk (IteT K a) xs.length (fun H => SqT K H a xs) (YPair (fun i => some (.int (i : Nat))) (fun i => xs[i]?)) := by
  refine ⟨fun i _ hi q => ⟨xs, xs[i], q, by simp [hi]⟩, fun _ q => ⟨xs, q, Nat.le_refl _⟩, fun i H v H' _ q y => ?_⟩
  obtain ⟨T, x, h1, h2, h3, h4⟩ := y
  exact ⟨T, .int (i : Nat), x, h1, h2, h3, rfl, h4 xs q⟩
theorem same_mut' {H0 H : Hp} {p : Addr} {o : HO} (h : Same H0 H) (hp : H0 p = none) : Same H0 (upd H p o) := fun b x e => by rw [upd_ne (ne_of_none e hp)]; exact h b x e
theorem df_check (A : At K mg "_check_truths" sCheck) (T : TxtW mg) : Df P w K mg base 1 "_check_truths" ["truths"] (spCheck K) := by
  obtain ⟨f, fd, hm, F⟩ := A.ex
  refine ⟨f, fd, hm, F.kp, F.binds (fun _ _ _ _ _ _ us hl => match us, hl with | [_], _ => rfl), F.ok scCheck (fun vs H Q E h => ?_) (fun cdv A outer s H vs Q E hr h => ?_)⟩
  · obtain ⟨a, bs, rfl, _⟩ := h
    rfl
  · obtain ⟨a, bs, rfl, hB, q⟩ := h
    refine ⟨_, (pss_cons (ps_setLc (i := 1) (own := [("index", 2), ("truth", 3)]) (g := gTup K 2 (gCons (gName 2) (gCons (gName 3) gNil))) (by rfl) scCheck.nd rfl rfl (sw_true rfl rfl rfl (by decide +kernel)) (pi_enumS (by rfl) T.enumerate (pa_cons (pv 0) pa_nil)) (blkOk_by (own := [("index", 2), ("truth", 3)]) (N := ["truths", "wrong", "index", "truth"]) (sc := defScope sCheck) (by decide +kernel)) (fun _ _ _ _ _ => pg_tup (by rfl) (pgs_cons (pg_name (i := 2) scCheck.nd rfl (Or.inl rfl)) (pgs_cons (pg_name (i := 3) scCheck.nd rfl (Or.inl rfl)) pgs_nil))) (fun _ _ _ _ _ => (pts_one (pw_and (pt_cmpR op_notBl (pv 3) pe_bl (nomark _)) (pw_and1 (pt_cmpR op_notBl (pv 3) pe_bl (nomark _)))).pt)) (fun _ _ _ _ _ => (pv 2)))
      (pss_one (ps_if (pt_cmpR op_gt (pe_callB call_len_seq (by rfl) T.len PySem.boot_len (pa_cons (pv 1) pa_nil)) pe_int (nomark _)) (pss_one ps_never) pss_nil))), ?_⟩
    refine ⟨_, rfl, a, bs.map V.bl, rfl, ?_⟩
    have ey0 : ∀ {z : V} {i : Nat}, i < (bs.map V.bl).length → (bs.map V.bl)[i]? = some z → ∃ b, z = .bl b := fun hi e => by
      rw [get_bls (by rw [List.length_map] at hi; exact hi)] at e
      exact ⟨_, (Option.some.inj e).symm⟩
    rcases hB with hB | hB
    · refine .inl ⟨hB, fun D hD => lc_it walk_enum (fun i H' => Same H H' ∧ H' D = some (.lst [])) ⟨same_mut' (Same.refl H) hD, upd_same⟩ (fun i H' _ h => h.1.seq hB) ?_ ?_⟩
      · rintro i x H1 H2 hi ⟨s1, hx⟩ ⟨T, y, z, rfl, nT, rfl, ey, ez⟩
        obtain ⟨b, rfl⟩ := ey0 hi ez
        have sT : Same H (upd H1 T (.tup [y, .bl b])) := s1.trans fun c o e => by rw [upd_ne (ne_of_none e nT)]; exact e
        have hT : (upd H1 T (.tup [y, .bl b])) D = some (.lst []) := by rw [upd_ne (ne_of_none hx nT)]; exact hx
        refine ⟨T, _, rfl, .inl (.inl upd_same), rfl, _, _, rfl, _, _, rfl, rfl, rfl, _, rfl, _, _, rfl, rfl, _, rfl, ?_⟩
        cases b with
        | true => exact ⟨sT, hT⟩
        | false => exact iteT ⟨_, rfl, _, _, rfl, rfl, _, rfl, sT, hT⟩
      · rintro H1 ⟨s1, hx⟩
        exact ⟨_, rfl, D, [], rfl, .inl (.inl (.inl hx)), _, _, rfl, rfl, _, rfl, iteF (q _ s1)⟩
    · refine .inr ⟨hB, fun D hD => lc_it walk_enumT (fun i H' => Same H H' ∧ H' D = some (.lst [])) ⟨same_mut' (Same.refl H) hD, upd_same⟩ (fun i H' _ h => Same.tup h.1 hB) ?_ ?_⟩
      · rintro i x H1 H2 hi ⟨s1, hx⟩ ⟨T, y, z, rfl, nT, rfl, ey, ez⟩
        obtain ⟨b, rfl⟩ := ey0 hi ez
        have sT : Same H (upd H1 T (.tup [y, .bl b])) := s1.trans fun c o e => by rw [upd_ne (ne_of_none e nT)]; exact e
        have hT : (upd H1 T (.tup [y, .bl b])) D = some (.lst []) := by rw [upd_ne (ne_of_none hx nT)]; exact hx
        refine ⟨T, _, rfl, .inl (.inl upd_same), rfl, _, _, rfl, _, _, rfl, rfl, rfl, _, rfl, _, _, rfl, rfl, _, rfl, ?_⟩
        cases b with
        | true => exact ⟨sT, hT⟩
        | false => exact iteT ⟨_, rfl, _, _, rfl, rfl, _, rfl, sT, hT⟩
      · rintro H1 ⟨s1, hx⟩
        exact ⟨_, rfl, D, [], rfl, .inl (.inl (.inl hx)), _, _, rfl, rfl, _, rfl, iteF (q _ s1)⟩
end
end Ef
set_option Elab.async false
namespace Ef
/-! ### whole numbers -/
/-- ps: divisors of n from 2 on, one for each divisor of n from 2 on -/
def PrimesOk (n : Nat) (ps : List Nat) : Prop := (∀ p ∈ ps, 2 ≤ p ∧ p ∣ n) ∧ ∀ q, 2 ≤ q → q ∣ n → ∃ p ∈ ps, p ∣ q
/-- what the search for primes keeps -/
structure Seek (n left prime : Nat) (ps : List Nat) : Prop where
  l0 : 1 ≤ left
  p2 : 2 ≤ prime
  dvd : left ∣ n
  good : ∀ p ∈ ps, 2 ≤ p ∧ p ∣ n
  small : ∀ d, 2 ≤ d → d < prime → ¬ d ∣ left
  rest : ∀ q, 2 ≤ q → q ∣ n → (∃ p ∈ ps, p ∣ q) ∨ q ∣ left
theorem Seek.start {n : Nat} (h : 1 ≤ n) : Seek n n 2 [] :=
  ⟨h, Nat.le_refl 2, Nat.dvd_refl n, fun p hp => (by cases hp), fun d h2 h3 => absurd h2 (by omega), fun q _ hq => .inr hq⟩
/-- prime does not divide left -/
theorem Seek.skip {n left prime : Nat} {ps : List Nat} (h : Seek n left prime ps) (hd : ¬ prime ∣ left) : Seek n left (prime + 1) ps :=
  ⟨h.l0, by have := h.p2; omega, h.dvd, h.good, fun d h2 h3 => by
    rcases Nat.lt_or_ge d prime with z | z
    · exact h.small d h2 z
    · have : d = prime := by omega
      rw [this]; exact hd, h.rest⟩
/-- the inner loop: left' is left without some factors prime -/
structure Strip (left prime left' : Nat) : Prop where
  l0 : 1 ≤ left'
  dvd : left' ∣ left
  rest : ∀ q, ¬ prime ∣ q → q ∣ left → q ∣ left'
theorem Strip.start {left prime : Nat} (h : 1 ≤ left) : Strip left prime left := ⟨h, Nat.dvd_refl _, fun _ _ h => h⟩
/-- prime has no divisor but 1 and itself -/
def Pr (p : Nat) : Prop := 2 ≤ p ∧ ∀ d, d ∣ p → d = 1 ∨ d = p
theorem Seek.prime {n left prime : Nat} {ps : List Nat} (h : Seek n left prime ps) (hd : prime ∣ left) : Pr prime := by
  refine ⟨h.p2, fun d hdp => ?_⟩
  have hp := h.p2
  have h0 : d ≠ 0 := fun z => by
    rw [z] at hdp
    have := Nat.eq_zero_of_zero_dvd hdp
    omega
  have hle := Nat.le_of_dvd (by omega) hdp
  rcases Nat.lt_or_ge d prime with z | z
  · rcases Nat.lt_or_ge d 2 with y | y
    · left; omega
    · exact absurd (Nat.dvd_trans hdp hd) (h.small d y z)
  · right; omega
theorem Pr.coprime {p q : Nat} (h : Pr p) (hq : ¬ p ∣ q) : Nat.Coprime q p := by
  have g := h.2 (Nat.gcd q p) (Nat.gcd_dvd_right q p)
  rcases g with g | g
  · exact g
  · exact absurd (by rw [← g]; exact Nat.gcd_dvd_left q p) hq
theorem Strip.step {left prime left' : Nat} (h : Strip left prime left') (hp : Pr prime) (hd : prime ∣ left') : Strip left prime (left' / prime) := by
  obtain ⟨c, hc⟩ := hd
  have hp0 : 0 < prime := by have := hp.1; omega
  have e : left' / prime = c := by rw [hc]; exact Nat.mul_div_cancel_left c hp0
  rw [e]
  have l0 := h.l0
  refine ⟨?_, ?_, fun q hq hql => ?_⟩
  · rcases Nat.eq_zero_or_pos c with z | z
    · rw [z, Nat.mul_zero] at hc; omega
    · exact z
  · exact Nat.dvd_trans ⟨prime, by rw [hc, Nat.mul_comm]⟩ h.dvd
  · have z := h.rest q hq hql
    rw [hc] at z
    exact Nat.Coprime.dvd_of_dvd_mul_left (hp.coprime hq) z
theorem Seek.take {n left prime left' : Nat} {ps : List Nat} (h : Seek n left prime ps) (hd : prime ∣ left) (s : Strip left prime left') (hn : ¬ prime ∣ left') : Seek n left' (prime + 1) (ps ++ [prime]) := by
  refine ⟨s.l0, by have := h.p2; omega, Nat.dvd_trans s.dvd h.dvd, fun p hp => ?_, fun d h2 h3 hdl => ?_, fun q h2 hq => ?_⟩
  · rcases List.mem_append.mp hp with z | z
    · exact h.good p z
    · rw [List.mem_singleton.mp z]; exact ⟨h.p2, Nat.dvd_trans hd h.dvd⟩
  · rcases Nat.lt_or_ge d prime with z | z
    · exact h.small d h2 z (Nat.dvd_trans hdl s.dvd)
    · have : d = prime := by omega
      rw [this] at hdl; exact hn hdl
  · rcases h.rest q h2 hq with ⟨p, hp, hpq⟩ | z
    · exact .inl ⟨p, List.mem_append_left _ hp, hpq⟩
    · by_cases hpq : prime ∣ q
      · exact .inl ⟨prime, List.mem_append_right _ (List.mem_singleton.mpr rfl), hpq⟩
      · exact .inr (s.rest q hpq z)
/-- the end of the search -/
theorem Seek.fin {n left prime : Nat} {ps : List Nat} (h : Seek n left prime ps) (hb : left < prime * prime) : PrimesOk n (if 1 < left then ps ++ [left] else ps) := by
  by_cases hl : 1 < left
  · rw [if_pos hl]
    refine ⟨fun p hp => ?_, fun q h2 hq => ?_⟩
    · rcases List.mem_append.mp hp with z | z
      · exact h.good p z
      · rw [List.mem_singleton.mp z]; exact ⟨hl, h.dvd⟩
    · rcases h.rest q h2 hq with ⟨p, hp, hpq⟩ | z
      · exact ⟨p, List.mem_append_left _ hp, hpq⟩
      · refine ⟨left, List.mem_append_right _ (List.mem_singleton.mpr rfl), ?_⟩
        obtain ⟨c, hc⟩ := z
        have hqp : prime ≤ q := by
          rcases Nat.lt_or_ge q prime with y | y
          · exact absurd ⟨c, hc⟩ (h.small q h2 y)
          · exact y
        rcases Nat.lt_or_ge c 2 with y | y
        · have hc1 : c = 1 := by
            rcases Nat.eq_zero_or_pos c with x | x
            · rw [x, Nat.mul_zero] at hc; omega
            · omega
          rw [hc, hc1, Nat.mul_one]
          exact Nat.dvd_refl q
        · have hcp : prime ≤ c := by
            rcases Nat.lt_or_ge c prime with x | x
            · exact absurd ⟨q, by rw [hc, Nat.mul_comm]⟩ (h.small c y x)
            · exact x
          have := Nat.mul_le_mul hqp hcp
          omega
  · rw [if_neg hl]
    have e : left = 1 := by have := h.l0; omega
    refine ⟨h.good, fun q h2 hq => ?_⟩
    rcases h.rest q h2 hq with z | z
    · exact z
    · rw [e] at z
      have := Nat.le_of_dvd (by omega) z
      omega
/-! ### periods -/
/-- d is a period of the row f -/
def PerF (f : Nat → Bool) (d : Nat) : Prop := ∀ i, f (i + d) = f i
theorem PerF.zero (f : Nat → Bool) : PerF f 0 := fun _ => rfl
theorem PerF.mul {f : Nat → Bool} {d : Nat} (h : PerF f d) : ∀ k, PerF f (d * k)
  | 0 => fun i => rfl
  | k + 1 => fun i => by
    rw [Nat.mul_succ, ← Nat.add_assoc, h, PerF.mul h k]
theorem PerF.of_dvd {f : Nat → Bool} {d e : Nat} (h : PerF f d) (hd : d ∣ e) : PerF f e := by
  obtain ⟨k, rfl⟩ := hd
  exact h.mul k
theorem PerF.mod {f : Nat → Bool} {a b : Nat} (ha : PerF f a) (hb : PerF f b) : PerF f (a % b) := fun i => by
  have e : i + a = i + a % b + b * (a / b) := by
    have := Nat.mod_add_div a b
    omega
  rw [← (hb.mul (a / b)) (i + a % b), ← e, ha]
theorem PerF.gcd {f : Nat → Bool} : ∀ (a b : Nat), PerF f a → PerF f b → PerF f (Nat.gcd a b) := by
  intro a
  induction a using Nat.strongRecOn with
  | ind a ih =>
    intro b ha hb
    rcases Nat.eq_zero_or_pos a with z | z
    · rw [z, Nat.gcd_zero_left]; exact hb
    · rw [Nat.gcd_rec]
      exact ih (b % a) (Nat.mod_lt b z) a (hb.mod ha) ha
/-- the search has found the least period -/
theorem least_of {f : Nat → Bool} {L m : Nat} {ps : List Nat} (hp : PrimesOk L ps) (hL : 1 ≤ L) (hm : m ∣ L) (hf : PerF f m) (hn : ∀ p ∈ ps, p ∣ m → ¬ PerF f (m / p)) : ∀ d, PerF f d → m ∣ d := by
  intro d hd
  have hm0 : 1 ≤ m := by
    rcases Nat.eq_zero_or_pos m with z | z
    · rw [z] at hm
      have := Nat.eq_zero_of_zero_dvd hm
      omega
    · exact z
  have hg := PerF.gcd m d hf hd
  obtain ⟨q, hq⟩ := Nat.gcd_dvd_left m d
  rcases Nat.lt_or_ge q 2 with z | z
  · have : q = 1 := by
      rcases Nat.eq_zero_or_pos q with y | y
      · rw [y, Nat.mul_zero] at hq; omega
      · omega
    rw [this, Nat.mul_one] at hq
    rw [hq]
    exact Nat.gcd_dvd_right m d
  · have hqm : q ∣ m := ⟨Nat.gcd m d, by rw [Nat.mul_comm]; exact hq⟩
    obtain ⟨p, hpm, hpq⟩ := hp.2 q z (Nat.dvd_trans hqm hm)
    obtain ⟨c, hc⟩ := hpq
    have hp2 := (hp.1 p hpm).1
    refine absurd ?_ (hn p hpm (Nat.dvd_trans ⟨c, hc⟩ hqm))
    have e : m / p = Nat.gcd m d * c := by
      have z2 : m = p * (Nat.gcd m d * c) := by
        conv => lhs; rw [hq, hc]
        rw [Nat.mul_left_comm]
      conv => lhs; rw [z2]
      exact Nat.mul_div_cancel_left _ (by omega)
    rw [e]
    exact hg.mul c
theorem PerF.keep {f : Nat → Bool} {m m' p : Nat} (hp : 1 ≤ p) (hd : m' ∣ m) (hpm : p ∣ m') (h : PerF f (m' / p)) : PerF f (m / p) := by
  obtain ⟨k, rfl⟩ := hd
  obtain ⟨c, rfl⟩ := hpm
  rw [Nat.mul_div_cancel_left c (by omega)] at h
  rw [Nat.mul_assoc, Nat.mul_div_cancel_left _ (by omega)]
  exact h.mul k
/-- the row of truths led on for ever -/
def led (rs : List Bool) (i : Nat) : Bool := rs.getD (i % rs.length) false
theorem led_lt {rs : List Bool} {i : Nat} (h : i < rs.length) : rs[i]? = some (led rs i) := by
  unfold led
  rw [Nat.mod_eq_of_lt h, List.getD_eq_getElem?_getD, List.getElem?_eq_getElem h]
  rfl
theorem led_self (rs : List Bool) : PerF (led rs) rs.length := fun i => by
  unfold led
  rw [Nat.add_mod_right]
/-- what _comes_round asks -/
def Round (rs : List Bool) (d : Nat) : Bool := decide (rs.drop d = rs.take (rs.length - d))
theorem Round.get {rs : List Bool} {d : Nat} (h : Round rs d = true) {i : Nat} (hi : i + d < rs.length) : rs[i + d]? = rs[i]? := by
  have e := of_decide_eq_true h
  have e2 := congrArg (fun l : List Bool => l[i]?) e
  simp only [List.getElem?_drop, List.getElem?_take] at e2
  rw [if_pos (by omega), Nat.add_comm d i] at e2
  exact e2
theorem Round.get' {rs : List Bool} {d : Nat} (h : Round rs d = true) (y : Nat) : ∀ k, y + d * k < rs.length → rs[y + d * k]? = rs[y]?
  | 0, _ => rfl
  | k + 1, hk => by
    have e : y + d * (k + 1) = (y + d * k) + d := by rw [Nat.mul_succ]; omega
    rw [e] at hk ⊢
    rw [Round.get h hk]
    exact Round.get' h y k (by omega)
theorem round_per {rs : List Bool} {d : Nat} (hL : 1 ≤ rs.length) (hd : d ∣ rs.length) : Round rs d = true ↔ PerF (led rs) d := by
  have hd1 : 1 ≤ d := by
    rcases Nat.eq_zero_or_pos d with z | z
    · rw [z] at hd
      have := Nat.eq_zero_of_zero_dvd hd
      omega
    · exact z
  have hdl := Nat.le_of_dvd (by omega) hd
  constructor
  · intro h i
    unfold led
    have hx := Nat.mod_lt i (show 0 < rs.length by omega)
    have e0 : (i + d) % rs.length = (i % rs.length + d) % rs.length := by rw [Nat.mod_add_mod]
    rw [e0]
    generalize i % rs.length = x at hx
    rcases Nat.lt_or_ge (x + d) rs.length with z | z
    · rw [Nat.mod_eq_of_lt z, List.getD_eq_getElem?_getD, List.getD_eq_getElem?_getD, Round.get h z]
    · obtain ⟨c, hc⟩ := hd
      have hc1 : 1 ≤ c := by
        rcases Nat.eq_zero_or_pos c with y | y
        · rw [y, Nat.mul_zero] at hc; omega
        · exact y
      have e1 : (x + d) % rs.length = x + d - rs.length := by
        rw [Nat.mod_eq_sub_mod z, Nat.mod_eq_of_lt (by omega)]
      have e2 : x = (x + d - rs.length) + d * (c - 1) := by
        rw [Nat.mul_sub, Nat.mul_one, ← hc]; omega
      rw [e1, List.getD_eq_getElem?_getD, List.getD_eq_getElem?_getD]
      conv => rhs; rw [e2]
      rw [Round.get' h _ (c - 1) (by omega)]
  · intro h
    refine decide_eq_true (List.ext_getElem? fun i => ?_)
    rw [List.getElem?_drop, List.getElem?_take]
    rcases Nat.lt_or_ge i (rs.length - d) with z | z
    · rw [if_pos z, led_lt (show d + i < rs.length by omega), led_lt (show i < rs.length by omega), Nat.add_comm d i, h]
    · rw [if_neg (by omega), List.getElem?_eq_none (by omega)]
/-! ### the start -/
/-- s is the least start: from s on the truths below go by the rests, at s - 1 they do not -/
def StartOk (bs rs : List Bool) (s : Nat) : Prop := s ≤ bs.length ∧ (∀ n, s ≤ n → n < bs.length → bs.getD n false = led rs n) ∧ (s = 0 ∨ bs.getD (s - 1) false ≠ led rs (s - 1))
end Ef
set_option Elab.async false
set_option linter.all false
set_option maxRecDepth 100000
set_option maxHeartbeats 4000000
namespace Ef
open PySem PySem.Spec PyProof.Rows L2
/-- a tuple (t) or a list of truths -/
def BlsT (t : Bool) (K : PySem.W.Frag) (H : Hp) (a : Addr) (bs : List Bool) : Prop := if t = true then SqT K H a (bs.map V.bl) else SqL K H a (bs.map V.bl)
theorem Bls.t {K : PySem.W.Frag} {H : Hp} {a : Addr} {bs : List Bool} (h : Bls K H a bs) : ∃ t, BlsT t K H a bs := by
  rcases h with h | h
  · exact ⟨false, h⟩
  · exact ⟨true, h⟩
theorem BlsT.bls {t : Bool} {K : PySem.W.Frag} {H : Hp} {a : Addr} {bs : List Bool} (h : BlsT t K H a bs) : Bls K H a bs := by
  cases t with
  | false => exact .inl h
  | true => exact .inr h
theorem BlsT.same {t : Bool} {K : PySem.W.Frag} {H H' : Hp} {a : Addr} {bs : List Bool} (h : BlsT t K H a bs) (e : Same H H') : BlsT t K H' a bs := by
  cases t with
  | false => exact Same.seq (H := H) e h
  | true => exact Same.tup (H := H) e h
theorem same_new {H : Hp} {p : Addr} {o : HO} (h : H p = none) : Same H (upd H p o) := fun b x e => by rw [upd_ne (ne_of_none e h)]; exact e
theorem map_bl_inj {as bs : List Bool} (h : as.map V.bl = bs.map V.bl) : as = bs := by
  induction as generalizing bs with
  | nil => cases bs with
    | nil => rfl
    | cons b bs => cases h
  | cons a as ih => cases bs with
    | nil => cases h
    | cons b bs =>
      injection h with h1 h2
      injection h1 with h1
      rw [h1, ih h2]
theorem sl_bls {t : Bool} {K : PySem.W.Frag} {H : Hp} {a : Addr} {bs bs' : List Bool} {lo hi : Option Int} {Q : VK} (h : BlsT t K H a bs) (e : cutV (bs.map V.bl) lo hi = bs'.map V.bl) (q : ∀ p H', Same H H' → BlsT t K H' p bs' → Q (.ref p) H') :
    rSlL K (.ref a) lo hi H Q ∨ rSlA K (.ref a) lo hi H Q := by
  cases t with
  | false =>
    refine .inl ⟨a, _, rfl, h, fun p hp => ?_⟩
    rw [e]
    exact q p _ (same_new hp) (.inl (.inl upd_same))
  | true =>
    refine .inr ⟨a, _, rfl, h, fun hw => ?_, fun hw p hp => ?_⟩
    · refine q a H (Same.refl H) ?_
      have e2 : bs = bs' := by
        refine map_bl_inj (Eq.trans ?_ e)
        unfold cutV
        rw [hw.1, hw.2, List.drop_zero, Nat.sub_zero, List.take_length]
      rw [← e2]
      exact h
    · rw [e]
      exact q p _ (same_new hp) (.inl (.inl upd_same))
theorem eq_blsT {t : Bool} {K : PySem.W.Frag} {H : Hp} {a b : Addr} {as bs : List Bool} {Q : VK} (h1 : BlsT t K H a as) (h2 : BlsT t K H b bs) (q : Q (.bl (decide (as = bs))) H) : rEqD K (.ref a) (.ref b) H Q := by
  cases t with
  | false =>
    refine ⟨_, _, .lst h1 (dp_bls as), .lst h2 (dp_bls bs), (sh_list (can_bls as).1 (can_bls as).2).1, (sh_list (can_bls bs).1 (can_bls bs).2).1, ?_⟩
    show Q (.bl (PyData.eqvAll (as.map PyData.bool) (bs.map PyData.bool))) H
    rw [eqv_bls]
    exact q
  | true =>
    refine ⟨_, _, .tup h1 (dp_bls as), .tup h2 (dp_bls bs), (sh_list (can_bls as).1 (can_bls as).2).2, (sh_list (can_bls bs).1 (can_bls bs).2).2, ?_⟩
    show Q (.bl (PyData.eqvAll (as.map PyData.bool) (bs.map PyData.bool))) H
    rw [eqv_bls]
    exact q
theorem len_bls {K : PySem.W.Frag} {H : Hp} {a : Addr} {bs : List Bool} (h : Bls K H a bs) : SqL K H a (bs.map V.bl) ∨ SqT K H a (bs.map V.bl) := h
theorem ix_bls {K : PySem.W.Frag} {H : Hp} {a : Addr} {bs : List Bool} {i : Int} {Q : VK} (h : Bls K H a bs) (h0 : 0 ≤ i) (h1 : i < bs.length) (q : Q (.bl (bs.getD i.toNat false)) H) : rIx K (.ref a) (.int i) H Q := by
  have ha : atI (bs.map V.bl) i = some (.bl (bs.getD i.toNat false)) := at_of (Int.toNat_of_nonneg h0).symm (get_bls (by omega))
  rcases h with h | h
  · exact .inl ⟨a, _, _, _, rfl, rfl, h, ha, q⟩
  · exact .inr (.inl ⟨a, _, _, _, rfl, rfl, h, ha, q⟩)
theorem cut_lo (bs : List Bool) (k : Nat) (hk : k ≤ bs.length) : cutV (bs.map V.bl) (some (k : Int)) none = (bs.drop k).map V.bl := by
  unfold cutV
  rw [HT.sIx_none, HT.sIx_nat, List.length_map, Nat.min_eq_left hk, ← List.map_drop, ← List.map_take, List.take_of_length_le (by rw [List.length_drop]; omega)]
theorem cut_hi (bs : List Bool) (k : Nat) (hk : k ≤ bs.length) : cutV (bs.map V.bl) none (some (k : Int)) = (bs.take k).map V.bl := by
  unfold cutV
  rw [HT.sIx_none, HT.sIx_nat, List.length_map, Nat.min_eq_left hk, List.drop_zero, Nat.sub_zero, List.map_take]
section
variable {P : Program} {w : World} {K : PySem.W.Frag} {mg : Str → Option Value} {base : Heap}
/-! ### _comes_round -/
def spRound (K : PySem.W.Frag) : Sp := fun vs H Q _ => ∃ (a : Addr) (bs : List Bool) (k : Nat), vs = [.ref a, .int k] ∧ Bls K H a bs ∧ k ≤ bs.length ∧ ∀ H', Same H H' → Q (.bl (Round bs k)) H'
theorem scRound : FnScope ["row", "step"] ["row", "step"] (defScope sRound) := ⟨rfl, rfl, rfl, by decide +kernel, rfl, by decide +kernel, by decide +kernel⟩
theorem df_round (A : At K mg "_comes_round" sRound) (T : TxtW mg) : Df P w K mg base 1 "_comes_round" ["row", "step"] (spRound K) := by
  obtain ⟨f, fd, hm, F⟩ := A.ex
  refine ⟨f, fd, hm, F.kp, F.binds (fun _ _ _ _ _ _ us hl => match us, hl with | [_, _], _ => rfl), F.ok scRound (fun vs H Q E h => ?_) (fun cdv A outer s H vs Q E hr h => ?_)⟩
  · obtain ⟨a, bs, k, rfl, _⟩ := h
    rfl
  · obtain ⟨a, bs, k, rfl, hB, hk, q⟩ := h
    obtain ⟨t, hT⟩ := hB.t
    refine ⟨_, (pss_one (ps_ret (pe_cmpR (op_eqD hr.units) (pe_slice (sl_list.or sl_tupA) (pv 0) (po_some (pv 1)) po_none) (pe_slice (sl_list.or sl_tupA) (pv 0) po_none (po_some (pe_op op_sub (pe_callB call_len_seq (by rfl) T.len PySem.boot_len (pa_cons (pv 0) pa_nil)) (pv 1)))) (nomark _)))), ?_⟩
    refine ⟨_, rfl, _, rfl, _, rfl, sl_bls hT (cut_lo bs k hk) fun p H1 s1 h1 => ?_⟩
    refine ⟨_, rfl, _, rfl, a, _, rfl, len_bls (hT.same s1).bls, _, rfl, _, _, rfl, rfl, _, rfl, sl_bls (hT.same s1) (bs' := bs.take (bs.length - k)) ?_ fun p2 H2 s2 h2 => ?_⟩
    · have e : ((bs.map V.bl).length : Int) - (k : Int) = ((bs.length - k : Nat) : Int) := by rw [List.length_map]; omega
      show cutV (bs.map V.bl) none (some (((bs.map V.bl).length : Int) - (k : Int))) = _
      rw [e]
      exact cut_hi bs _ (by omega)
    · exact eq_blsT (h1.same s2) h2 (q _ (s1.trans s2))
/-! ### _primes_of -/
def spPrimes : Sp := fun vs H Q _ => ∃ (n : Nat), vs = [.int n] ∧ 1 ≤ n ∧ n ≤ 1000000 ∧ ∀ (r : Addr) (ps : List Nat) (H' : Hp), H r = none → H' r = some (.lst (ps.map fun p : Nat => V.int (p : Int))) → PrimesOk n ps → Same H H' → Q (.ref r) H'
theorem scPrimes : FnScope ["number", "primes", "left", "prime"] ["number"] (defScope sPrimes) := ⟨rfl, rfl, rfl, by decide +kernel, rfl, by decide +kernel, by decide +kernel⟩
theorem df_primes (A : At K mg "primes_of" sPrimes) : Df P w K mg base 1 "primes_of" ["number"] spPrimes := by
  obtain ⟨f, fd, hm, F⟩ := A.ex
  refine ⟨f, fd, hm, F.kp, F.binds (fun _ _ _ _ _ _ us hl => match us, hl with | [_], _ => rfl), F.ok scPrimes (fun vs H Q E h => ?_) (fun cdv A outer s H vs Q E hr h => ?_)⟩
  · obtain ⟨n, rfl, _⟩ := h
    rfl
  · obtain ⟨n, rfl, n1, n2, q⟩ := h
    refine ⟨_, (pss_cons (ps_set (i := 1) scPrimes.nd rfl (.inl rfl) (pe_lst pa_nil))
      (pss_cons (ps_set (i := 2) scPrimes.nd rfl (.inl rfl) (pv 0))
      (pss_cons (ps_set (i := 3) scPrimes.nd rfl (.inl rfl) pe_int)
      (pss_cons (ps_while PassesOwn.never (pt_cmpR op_le (pe_op op_mul (pv 3) (pv 3)) (pv 2) (nomark _))
      (pss_cons (ps_if (pt_cmpR op_eq (pe_op op_mod (pv 2) (pv 3)) pe_int (nomark _)) (pss_one (ps_expr (pe_bm PySem.F.plainAttrs_list PySem.F.slot_list_append PySem.F.type_list_append mt_append (pv 1) (pa_cons (pv 3) pa_nil)))) pss_nil)
      (pss_cons (ps_while PassesOwn.never (pt_cmpR op_eq (pe_op op_mod (pv 2) (pv 3)) pe_int (nomark _))
      (pss_one (ps_set (i := 2) scPrimes.nd rfl (.inl rfl) (pe_op op_fdiv (pv 2) (pv 3)))))
      (pss_one (ps_set (i := 3) scPrimes.nd rfl (.inl rfl) (pe_op op_add (pv 3) pe_int))))))
      (pss_cons (ps_if (pt_cmpR op_gt (pv 2) pe_int (nomark _)) (pss_one (ps_expr (pe_bm PySem.F.plainAttrs_list PySem.F.slot_list_append PySem.F.type_list_append mt_append (pv 1) (pa_cons (pv 2) pa_nil)))) pss_nil)
      (pss_one (ps_ret (pv 1)))))))), ?_⟩
    refine ⟨Nat.zero_le _, fun r hr0 => ?_⟩
    refine ⟨_, rfl, ?_⟩
    refine ⟨fun m σ H' => ∃ (ps : List Nat) (left prime : Nat), σ = [some (.int n), some (.ref r), some (.int left), some (.int prime)] ∧ m = n + 2 - prime ∧ prime ≤ n + 1 ∧ ps.length < prime ∧ Seek n left prime ps ∧ H' r = some (.lst (ps.map fun p : Nat => V.int (p : Int))) ∧ Same H H',
      ⟨_, [], n, 2, rfl, rfl, by omega, by decide, Seek.start n1, upd_same, same_new hr0⟩, fun m σ H' hW => ?_⟩
    obtain ⟨ps, left, prime, rfl, em, hpn, hpl, hS, hL, sm⟩ := hW
    have hln : left ≤ n := Nat.le_of_dvd (by omega) hS.dvd
    refine ⟨_, rfl, _, rfl, _, _, rfl, rfl, .inl ⟨by omega, by omega⟩, _, rfl, _, _, rfl, rfl, _, rfl, ?_⟩
    have hp2 := hS.p2
    have hpos : (0 : Int) < (prime : Int) := by omega
    have hmod : ∀ x : Nat, decide (V.int ((x : Int) % (prime : Int)) = V.int 0) = decide (prime ∣ x) := fun x => by
      by_cases hx : prime ∣ x
      · rw [decide_eq_true hx]
        obtain ⟨c, rfl⟩ := hx
        refine decide_eq_true ?_
        rw [Int.natCast_mul, Int.mul_emod_right]
      · rw [decide_eq_false hx]
        refine decide_eq_false fun z => hx ?_
        injection z with z
        exact Int.natCast_dvd_natCast.mp (Int.dvd_of_emod_eq_zero z)
    have hlt : ∀ ps' : List Nat, ps'.length ≤ n + 2 → (ps'.map fun p : Nat => V.int (p : Int)).length < sizeLine := fun ps' hz => by
      rw [List.length_map]
      exact Nat.lt_of_le_of_lt (show ps'.length ≤ 1000010 by omega) (by decide)
    by_cases hc : prime * prime ≤ left
    · have hcI : (prime : Int) * (prime : Int) ≤ (left : Int) := by
        have := Int.ofNat_le.mpr hc
        rw [Int.natCast_mul] at this
        exact this
      have hpn' : prime ≤ n := by
        have := Nat.mul_le_mul_right prime hp2
        omega
      have hN : ∀ (ps' : List Nat) (left' : Nat) (H' : Hp), Seek n left' (prime + 1) ps' → ps'.length < prime + 1 → H' r = some (.lst (ps'.map fun p : Nat => V.int (p : Int))) → Same H H' →
          ∃ v, [some (V.int n), some (V.ref r), some (V.int left'), some (V.int prime)][3]? = some (some v) ∧ ∃ i j, v = V.int i ∧ V.int 1 = V.int j ∧
            (fun (σ' : L2.St) (H' : Hp) => ∃ (ps : List Nat) (left : Nat), σ' = [some (.int n), some (.ref r), some (.int left), some (.int ((prime : Int) + 1))] ∧ ps.length < prime + 1 ∧ Seek n left (prime + 1) ps ∧ H' r = some (.lst (ps.map fun p : Nat => V.int (p : Int))) ∧ Same H H')
              [some (V.int n), some (V.ref r), some (V.int left'), some (V.int (i + j))] H' :=
        fun ps' left' H' h1 h2 h3 h4 => ⟨_, rfl, _, _, rfl, rfl, ps', left', rfl, h2, h1, h3, h4⟩
      refine (show ite _ _ _ from ?_)
      rw [decide_eq_true hcI, if_pos rfl]
      refine ⟨fun σ' H' => ∃ (ps : List Nat) (left : Nat), σ' = [some (.int n), some (.ref r), some (.int left), some (.int ((prime : Int) + 1))] ∧ ps.length < prime + 1 ∧ Seek n left (prime + 1) ps ∧ H' r = some (.lst (ps.map fun p : Nat => V.int (p : Int))) ∧ Same H H', fun σ' H' hz => ?_, ?_⟩
      · obtain ⟨ps', left', e, h1, h2, h3, h4⟩ := hz
        exact ⟨n + 2 - (prime + 1), by omega, ps', left', prime + 1, e, rfl, by omega, h1, h2, h3, h4⟩
      · refine ⟨_, rfl, _, rfl, _, _, rfl, rfl, hpos, rfl, _, rfl, ?_⟩
        rw [hmod left]
        by_cases hd : prime ∣ left
        · rw [decide_eq_true hd]
          refine iteT ?_
          refine ⟨_, rfl, .inl ⟨rfl, _, .inl (.inl hL)⟩, _, rfl, r, _, _, rfl, rfl, hL, hlt _ (by omega), ?_⟩
          have hL2 : (upd H' r (.lst ((ps.map fun p : Nat => V.int (p : Int)) ++ [V.int prime]))) r = some (.lst ((ps ++ [prime]).map fun p : Nat => V.int (p : Int))) := by rw [upd_same, List.map_append]; rfl
          have sm2 : Same H (upd H' r (.lst ((ps.map fun p : Nat => V.int (p : Int)) ++ [V.int prime]))) := fun b o e => by rw [upd_ne (ne_of_none e hr0)]; exact sm b o e
          generalize upd H' r (.lst ((ps.map fun p : Nat => V.int (p : Int)) ++ [V.int prime])) = H2 at hL2 sm2 ⊢
          refine ⟨fun m σ H3 => ∃ left' : Nat, σ = [some (.int n), some (.ref r), some (.int left'), some (.int prime)] ∧ m = left' ∧ Strip left prime left' ∧ H3 = H2, ⟨left, left, rfl, rfl, Strip.start hS.l0, rfl⟩, fun m σ H3 hW => ?_⟩
          obtain ⟨left', rfl, rfl, hT, rfl⟩ := hW
          refine ⟨_, rfl, _, rfl, _, _, rfl, rfl, hpos, rfl, _, rfl, ?_⟩
          rw [hmod m]
          by_cases hd' : prime ∣ m
          · refine (show ite _ _ _ from ?_)
            rw [decide_eq_true hd', if_pos rfl]
            refine ⟨fun σ' H' => σ' = [some (.int n), some (.ref r), some (.int ((m / prime : Nat) : Int)), some (.int prime)] ∧ H' = H3, fun σ' H' hz => ?_, ?_⟩
            · obtain ⟨rfl, rfl⟩ := hz
              exact ⟨m / prime, Nat.div_lt_self hT.l0 hp2, _, rfl, rfl, hT.step (hS.prime hd) hd', rfl⟩
            · refine ⟨_, rfl, _, rfl, _, _, rfl, rfl, ⟨hpos, by omega⟩, rfl, rfl⟩
          · refine (show ite _ _ _ from ?_)
            rw [decide_eq_false hd', if_neg Bool.false_ne_true]
            exact hN _ m H3 (hS.take hd hT hd') (by rw [List.length_append, List.length_singleton]; omega) hL2 sm2
        · rw [decide_eq_false hd]
          refine iteF ?_
          refine ⟨fun m σ H3 => σ = [some (.int n), some (.ref r), some (.int left), some (.int prime)] ∧ H3 = H', ⟨0, rfl, rfl⟩, fun m σ H3 hW => ?_⟩
          obtain ⟨rfl, rfl⟩ := hW
          refine ⟨_, rfl, _, rfl, _, _, rfl, rfl, hpos, rfl, _, rfl, ?_⟩
          rw [hmod left]
          refine (show ite _ _ _ from ?_)
          rw [decide_eq_false hd, if_neg Bool.false_ne_true]
          exact hN ps left H3 (hS.skip hd) (by omega) hL sm
    · have hcI : ¬ (prime : Int) * (prime : Int) ≤ (left : Int) := fun z => by
        rw [← Int.natCast_mul] at z
        exact hc (Int.ofNat_le.mp z)
      refine (show ite _ _ _ from ?_)
      rw [decide_eq_false hcI, if_neg Bool.false_ne_true]
      have fin := hS.fin (by omega)
      refine ⟨_, rfl, _, _, rfl, rfl, _, rfl, ?_⟩
      by_cases h1 : 1 < left
      · rw [if_pos h1] at fin
        rw [decide_eq_true (show (1 : Int) < (left : Int) by omega), if_pos rfl]
        refine ⟨_, rfl, .inl ⟨rfl, _, .inl (.inl hL)⟩, _, rfl, r, _, _, rfl, rfl, hL, hlt _ (by omega), ?_⟩
        exact ⟨_, rfl, q r _ _ hr0 (by rw [upd_same, List.map_append]; rfl) fin (fun b o e => by rw [upd_ne (ne_of_none e hr0)]; exact sm b o e)⟩
      · rw [if_neg h1] at fin
        rw [decide_eq_false (show ¬ (1 : Int) < (left : Int) by omega), if_neg Bool.false_ne_true]
        exact ⟨_, rfl, q r _ _ hr0 hL fin sm⟩
end
end Ef
set_option Elab.async false
set_option linter.all false
/-! a list told by its first round again and again -/
namespace Ef
theorem rep_get {α : Type} (xs : List α) (hx : 0 < xs.length) : ∀ (k i : Nat), i < xs.length * k → (List.replicate k xs).flatten[i]? = xs[i % xs.length]?
  | 0, i, h => absurd h (by rw [Nat.mul_zero]; exact Nat.not_lt_zero i)
  | k + 1, i, h => by
    rw [List.replicate_succ, List.flatten_cons]
    rcases Nat.lt_or_ge i xs.length with z | z
    · rw [List.getElem?_append_left z, Nat.mod_eq_of_lt z]
    · rw [List.getElem?_append_right z, rep_get xs hx k (i - xs.length) (by rw [Nat.mul_succ] at h; omega), Nat.mod_eq_sub_mod z]
theorem rep_len {α : Type} (xs : List α) (k : Nat) : (List.replicate k xs).flatten.length = xs.length * k := by
  induction k with
  | zero => rfl
  | succ k ih => rw [List.replicate_succ, List.flatten_cons, List.length_append, ih, Nat.mul_succ, Nat.add_comm]
/-- by d again and again, exactly if it comes round by d -/
theorem rep_per {rs : List Bool} {d : Nat} (hL : 1 ≤ rs.length) (h1 : 1 ≤ d) (hd : d ∣ rs.length) : rs = (List.replicate (rs.length / d) (rs.take d)).flatten ↔ PerF (led rs) d := by
  have hle := Nat.le_of_dvd hL hd
  have hlen : (rs.take d).length = d := by rw [List.length_take]; omega
  have hm : d * (rs.length / d) = rs.length := Nat.mul_div_cancel' hd
  have get : ∀ i, i < rs.length → (List.replicate (rs.length / d) (rs.take d)).flatten[i]? = some (led rs (i % d)) := fun i hi => by
    have hid := Nat.mod_lt i (show 0 < d by omega)
    rw [rep_get (rs.take d) (by omega) _ i (by rw [hlen, hm]; exact hi), hlen, List.getElem?_take, if_pos hid]
    exact led_lt (by omega)
  constructor
  · intro h
    have key : ∀ i, i < rs.length → led rs i = led rs (i % d) := fun i hi => by
      have a := led_lt hi
      have b := get i hi
      rw [← h] at b
      rw [a] at b
      injection b
    intro i
    have e1 : led rs (i + d) = led rs ((i + d) % rs.length) := by unfold led; rw [Nat.mod_mod]
    have e2 : led rs i = led rs (i % rs.length) := by unfold led; rw [Nat.mod_mod]
    rw [e1, e2, key _ (Nat.mod_lt _ (by omega)), key _ (Nat.mod_lt _ (by omega)), Nat.mod_mod_of_dvd _ hd, Nat.mod_mod_of_dvd _ hd, Nat.add_mod_right]
  · intro h
    refine List.ext_getElem? fun i => ?_
    rcases Nat.lt_or_ge i rs.length with z | z
    · rw [get i z, led_lt z]
      have e : i = i % d + d * (i / d) := (Nat.mod_add_div i d).symm
      conv => lhs; rw [e, h.mul (i / d)]
    · rw [List.getElem?_eq_none z, List.getElem?_eq_none (by rw [rep_len, hlen, hm]; exact z)]
end Ef
set_option Elab.async false
set_option linter.all false
/-! the least start, found by halving -/
namespace Ef
/-- from n on the truths below are those of the rounds -/
def Agree (bs rs : List Bool) (n : Nat) : Prop := ∀ k, n ≤ k → k < bs.length → bs.getD k false = led rs k
theorem start_ex (bs rs : List Bool) : ∀ n, n ≤ bs.length → Agree bs rs n → ∃ s, s ≤ n ∧ StartOk bs rs s
  | 0, h, a => ⟨0, Nat.le_refl _, h, a, .inl rfl⟩
  | n + 1, h, a => by
    by_cases e : bs.getD n false = led rs n
    · obtain ⟨s, h1, h2⟩ := start_ex bs rs n (by omega) fun k hk hl => by
        rcases Nat.lt_or_ge n k with z | z
        · exact a k z hl
        · rw [show k = n by omega]; exact e
      exact ⟨s, by omega, h2⟩
    · exact ⟨n + 1, Nat.le_refl _, h, a, .inr (by rw [Nat.add_sub_cancel]; exact e)⟩
theorem start_agree {bs rs : List Bool} {s n : Nat} (h : StartOk bs rs s) (hn : n ≤ bs.length) : Agree bs rs n ↔ s ≤ n := by
  constructor
  · intro a
    rcases Nat.lt_or_ge n s with z | z
    · rcases h.2.2 with e | e
      · omega
      · exact absurd (a (s - 1) (by omega) (by have := h.1; omega)) e
    · exact z
  · exact fun z k hk hl => h.2.1 k (by omega) hl
theorem rep_take {rs : List Bool} {n : Nat} (hr : 1 ≤ rs.length) : (List.replicate (n / rs.length + 1) rs).flatten.take n = (List.range n).map (led rs) := by
  refine List.ext_getElem? fun i => ?_
  rw [List.getElem?_take, List.getElem?_map]
  rcases Nat.lt_or_ge i n with z | z
  · have h1 : n < rs.length * (n / rs.length + 1) := by
      have := Nat.div_add_mod n rs.length
      have := Nat.mod_lt n (show 0 < rs.length by omega)
      rw [Nat.mul_succ]
      omega
    rw [if_pos z, rep_get rs (by omega) _ i (by omega), List.getElem?_range z, led_lt (Nat.mod_lt _ (by omega))]
    show some _ = some (led rs i)
    unfold led
    rw [Nat.mod_mod]
  · rw [if_neg (by omega), List.getElem?_eq_none (by rw [List.length_range]; exact z)]
    rfl
theorem drop_agree {bs rs : List Bool} {n : Nat} : bs.drop n = ((List.range bs.length).map (led rs)).drop n ↔ Agree bs rs n := by
  have g : ∀ k, k < bs.length → bs[k]? = some (bs.getD k false) := fun k hk => by
    rw [List.getD_eq_getElem?_getD, List.getElem?_eq_getElem hk]; rfl
  have g2 : ∀ k, k < bs.length → ((List.range bs.length).map (led rs))[k]? = some (led rs k) := fun k hk => by
    rw [List.getElem?_map, List.getElem?_range hk]; rfl
  constructor
  · intro h k hk hl
    have e := congrArg (fun l : List Bool => l[k - n]?) h
    simp only [List.getElem?_drop] at e
    rw [show n + (k - n) = k by omega, g k hl, g2 k hl] at e
    exact Option.some.inj e
  · intro a
    refine List.ext_getElem? fun i => ?_
    rw [List.getElem?_drop, List.getElem?_drop]
    rcases Nat.lt_or_ge (n + i) bs.length with z | z
    · rw [g _ z, g2 _ z, a _ (by omega) z]
    · rw [List.getElem?_eq_none z, List.getElem?_eq_none (by rw [List.length_map, List.length_range]; exact z)]
end Ef
set_option Elab.async false
set_option linter.all false
set_option maxRecDepth 100000
set_option maxHeartbeats 4000000
namespace Ef
open PySem PySem.Spec PyProof.Rows L2
theorem hmod_nat {prime x : Nat} (hpos : 0 < prime) : decide (V.int ((x : Int) % (prime : Int)) = V.int 0) = decide (prime ∣ x) := by
  by_cases hx : prime ∣ x
  · rw [decide_eq_true hx]
    obtain ⟨c, rfl⟩ := hx
    refine decide_eq_true ?_
    rw [Int.natCast_mul, Int.mul_emod_right]
  · rw [decide_eq_false hx]
    refine decide_eq_false fun z => hx ?_
    injection z with z
    exact Int.natCast_dvd_natCast.mp (Int.dvd_of_emod_eq_zero z)
section
variable {P : Program} {w : World} {K : PySem.W.Frag} {mg : Str → Option Value} {base : Heap}
/-! ### _least_period -/
def spLper (K : PySem.W.Frag) : Sp := fun vs H Q _ => ∃ (a : Addr) (bs : List Bool), vs = [.ref a] ∧ Bls K H a bs ∧ 1 ≤ bs.length ∧ bs.length ≤ 1000000 ∧
  ∀ (m : Nat) (H' : Hp), 1 ≤ m → m ∣ bs.length → PerF (led bs) m → (∀ d, PerF (led bs) d → m ∣ d) → Same H H' → Q (.int m) H'
theorem scLper : FnScope ["row", "period", "prime"] ["row"] (defScope sLper) := ⟨rfl, rfl, rfl, by decide +kernel, rfl, by decide +kernel, by decide +kernel⟩
theorem df_lper (A : At K mg "least_period" sLper) (T : TxtW mg) (Dprimes : Df P w K mg base 1 "primes_of" ["number"] spPrimes) (Dround : Df P w K mg base 1 "_comes_round" ["row", "step"] (spRound K)) : Df P w K mg base 2 "least_period" ["row"] (spLper K) := by
  obtain ⟨f, fd, hm, F⟩ := A.ex
  refine ⟨f, fd, hm, F.kp, F.binds (fun _ _ _ _ _ _ us hl => match us, hl with | [_], _ => rfl), F.ok scLper (fun vs H Q E h => ?_) (fun cdv A outer s H vs Q E hr h => ?_)⟩
  · obtain ⟨a, bs, rfl, _⟩ := h
    rfl
  · obtain ⟨a, bs, rfl, hB, hL1, hL2, q⟩ := h
    refine ⟨_, (pss_cons (ps_set (i := 1) scLper.nd rfl (.inl rfl) (pe_callB call_len_seq (by rfl) T.len PySem.boot_len (pa_cons (pv 0) pa_nil)))
      (pss_cons (ps_for PassesOwn.never rfl (pi_list (Dprimes.call (hr.mono (by decide)) (pa_cons (pv 1) pa_nil))) (pg_name (i := 2) scLper.nd rfl (.inl rfl))
      (pss_one (ps_while PassesOwn.never (pw_and (pt_cmpR op_eq (pe_op op_mod (pv 1) (pv 2)) pe_int (nomark _)) (pw_and1 (pt_val (Dround.call (hr.mono (by decide)) (pa_cons (pv 0) (pa_cons (pe_op op_fdiv (pv 1) (pv 2)) pa_nil)))))).pt
      (pss_one (ps_set (i := 1) scLper.nd rfl (.inl rfl) (pe_op op_fdiv (pv 1) (pv 2)))))))
      (pss_one (ps_ret (pv 1))))), ?_⟩
    refine ⟨_, rfl, a, _, rfl, len_bls hB, ?_⟩
    refine ⟨_, rfl, bs.length, by rw [List.length_map]; rfl, hL1, hL2, fun r ps H1 hr0 hA hok sm => ?_⟩
    refine ⟨r, rfl, ⟨_, .inl (.inl hA)⟩, for_list (K := K) (a := r) (xs := ps.map fun p : Nat => V.int (p : Int)) (fun i σ H' => ∃ (m : Nat) (y : Option V), σ = [some (.ref a), some (.int m), y] ∧ H' r = some (.lst (ps.map fun p : Nat => V.int (p : Int))) ∧ Same H H' ∧ 1 ≤ m ∧ m ∣ bs.length ∧ PerF (led bs) m ∧
      ∀ (j p : Nat), j < i → ps[j]? = some p → p ∣ m → ¬ PerF (led bs) (m / p)) ⟨bs.length, none, by rw [List.length_map]; rfl, hA, sm, hL1, Nat.dvd_refl _, led_self bs, fun j p hj => absurd hj (Nat.not_lt_zero j)⟩ (fun i σ H' _ ⟨m, y, _, h, _⟩ => .inl (.inl h)) ?_ ?_⟩
    · rintro i x σ H2 hi ⟨m, y, rfl, hA2, sm2, m1, mL, hper, hn⟩
      rw [List.getElem?_map] at hi
      obtain ⟨p, hp, rfl⟩ := Option.map_eq_some_iff.mp hi
      obtain ⟨p2, pL⟩ := hok.1 p (List.mem_of_getElem? hp)
      have pl : p ≤ bs.length := Nat.le_of_dvd (by omega) pL
      refine ⟨fun k σ H' => ∃ m' : Nat, k = m' ∧ σ = [some (.ref a), some (.int m'), some (.int p)] ∧ H' r = some (.lst (ps.map fun p : Nat => V.int (p : Int))) ∧ Same H H' ∧ 1 ≤ m' ∧ m' ∣ m ∧ PerF (led bs) m', ⟨m, m, rfl, rfl, hA2, sm2, m1, Nat.dvd_refl _, hper⟩, fun k σ H3 hW => ?_⟩
      obtain ⟨m', rfl, rfl, hA3, sm3, m1', md, hper'⟩ := hW
      have fin : ∀ H4, H4 r = some (.lst (ps.map fun p : Nat => V.int (p : Int))) → Same H H4 → (p ∣ k → ¬ PerF (led bs) (k / p)) → ∃ (m : Nat) (y : Option V), [some (V.ref a), some (V.int k), some (V.int p)] = [some (.ref a), some (.int m), y] ∧ H4 r = some (.lst (ps.map fun p : Nat => V.int (p : Int))) ∧ Same H H4 ∧ 1 ≤ m ∧ m ∣ bs.length ∧ PerF (led bs) m ∧
          ∀ (j p : Nat), j < i + 1 → ps[j]? = some p → p ∣ m → ¬ PerF (led bs) (m / p) := fun H4 h4 s4 hpk => by
        refine ⟨k, _, rfl, h4, s4, m1', Nat.dvd_trans md mL, hper', fun j p' hj hp' hpd hper2 => ?_⟩
        rcases Nat.lt_or_ge j i with z | z
        · exact hn j p' z hp' (Nat.dvd_trans hpd md) (hper2.keep (by have := (hok.1 p' (List.mem_of_getElem? hp')).1; omega) md hpd)
        · have e : j = i := by omega
          rw [e, hp] at hp'
          injection hp' with hp'
          subst hp'
          exact hpk hpd hper2
      refine ⟨_, rfl, _, rfl, _, _, rfl, rfl, show (0 : Int) < (p : Int) by omega, rfl, _, rfl, ?_⟩
      rw [hmod_nat (by omega)]
      by_cases hd : p ∣ k
      · rw [decide_eq_true hd]
        have kp : k / p ≤ bs.length := Nat.le_trans (Nat.div_le_self _ _) (Nat.le_of_dvd (by omega) (Nat.dvd_trans md mL))
        have kd : k / p ∣ bs.length := Nat.dvd_trans ⟨p, (Nat.div_mul_cancel hd).symm⟩ (Nat.dvd_trans md mL)
        refine iteT ⟨_, rfl, _, rfl, _, rfl, _, _, rfl, rfl, ⟨show (0 : Int) < (p : Int) by omega, show (p : Int) < 1073741824 by omega⟩, a, bs, k / p, rfl, hB.same sm3, kp, fun H4 s4 => ⟨_, rfl, ?_⟩⟩
        have sm4 := sm3.trans s4
        have hA4 := s4 _ _ hA3
        by_cases hrd : Round bs (k / p) = true
        · rw [hrd]
          have hk1 : 1 ≤ k / p := Nat.div_pos (Nat.le_of_dvd (by omega) hd) (by omega)
          refine iteT ⟨fun σ' H' => σ' = [some (.ref a), some (.int ((k / p : Nat) : Int)), some (.int p)] ∧ H' r = some (.lst (ps.map fun p : Nat => V.int (p : Int))) ∧ Same H H', fun σ' H' hz => ?_, ?_⟩
          · obtain ⟨rfl, h5, s5⟩ := hz
            exact ⟨k / p, Nat.div_lt_self (by omega) (by omega), _, rfl, rfl, h5, s5, hk1, Nat.dvd_trans ⟨p, (Nat.div_mul_cancel hd).symm⟩ md, (round_per hL1 kd).mp hrd⟩
          · exact ⟨_, rfl, _, rfl, _, _, rfl, rfl, ⟨show (0 : Int) < (p : Int) by omega, show (p : Int) < 1073741824 by omega⟩, rfl, hA4, sm4⟩
        · rw [Bool.eq_false_iff.mpr hrd]
          exact iteF (fin _ hA4 sm4 fun _ hz => hrd ((round_per hL1 kd).mpr hz))
      · rw [decide_eq_false hd]
        refine iteF ?_
        exact fin _ hA3 sm3 fun z => absurd z hd
    · rintro σ H2 ⟨m, y, rfl, hA2, sm2, m1, mL, hper, hn⟩
      refine ⟨_, rfl, q m H2 m1 mL hper (least_of hok hL1 mL hper fun p hp => ?_) sm2⟩
      obtain ⟨j, hj, rfl⟩ := List.getElem_of_mem hp
      exact hn j _ (by rw [List.length_map]; exact hj) (List.getElem?_eq_getElem hj)
/-! ### _least_start -/
def spLstart (K : PySem.W.Frag) : Sp := fun vs H Q _ => ∃ (a b : Addr) (bs rs : List Bool), vs = [.ref a, .ref b] ∧ Bls K H a bs ∧ Bls K H b rs ∧ 1 ≤ rs.length ∧ bs.length ≤ 1000000 ∧ rs.length ≤ 1000000 ∧ ∀ (s : Nat) H', Same H H' → StartOk bs rs s → Q (.int s) H'
theorem scLstart : FnScope ["below", "rests", "size", "truths", "later", "low", "high", "middle"] ["below", "rests"] (defScope sLstart) := ⟨rfl, rfl, rfl, by decide +kernel, rfl, by decide +kernel, by decide +kernel⟩
theorem df_lstart (A : At K mg "_least_start" sLstart) (T : TxtW mg) : Df P w K mg base 1 "_least_start" ["below", "rests"] (spLstart K) := by
  obtain ⟨f, fd, hm, F⟩ := A.ex
  refine ⟨f, fd, hm, F.kp, F.binds (fun _ _ _ _ _ _ us hl => match us, hl with | [_, _], _ => rfl), F.ok scLstart (fun vs H Q E h => ?_) (fun cdv A outer s H vs Q E hr h => ?_)⟩
  · obtain ⟨a, b, bs, rs, rfl, _⟩ := h
    rfl
  · obtain ⟨a, b, bs, rs, rfl, hB, hR, hr1, hb1, hr2, q⟩ := h
    refine ⟨_, (pss_cons (ps_set (i := 2) scLstart.nd rfl (.inl rfl) (pe_callB call_len_seq (by rfl) T.len PySem.boot_len (pa_cons (pv 0) pa_nil)))
      (pss_cons (ps_if (pw_or (pt_cmpR op_eq (pv 2) pe_int (nomark _)) (pw_or1 (pt_cmpR op_ne (pe_ix ix_seq (pv 0) (pe_op op_sub (pv 2) pe_int) (fun _ _ => rfl)) (pe_ix ix_seq (pv 1) (pe_op op_mod (pe_op op_sub (pv 2) pe_int) (pe_callB call_len_seq (by rfl) T.len PySem.boot_len (pa_cons (pv 1) pa_nil))) (fun _ _ => rfl)) (nomark _)))).pt (pss_one (ps_ret (pv 2))) pss_nil)
      (pss_cons (ps_set (i := 3) scLstart.nd rfl (.inl rfl) (pe_callTy call_list_of (by rfl) T.list (by decide +kernel) (pa_cons (pv 0) pa_nil)))
      (pss_cons (ps_set (i := 4) scLstart.nd rfl (.inl rfl) (pe_slice sl_list (pe_op op_rep (pe_callTy call_list_of (by rfl) T.list (by decide +kernel) (pa_cons (pv 1) pa_nil)) (pe_op op_add (pe_op op_fdiv (pv 2) (pe_callB call_len_seq (by rfl) T.len PySem.boot_len (pa_cons (pv 1) pa_nil))) pe_int)) po_none (po_some (pv 2))))
      (pss_cons (ps_par (i := 5) (j := 6) (by rfl) scLstart.nd rfl rfl (by decide) rfl rfl (pa_cons pe_int (pa_cons (pv 2) pa_nil)) (by rfl))
      (pss_cons (ps_while PassesOwn.never (pt_cmpR op_lt (pv 5) (pv 6) (nomark _))
      (pss_cons (ps_set (i := 7) scLstart.nd rfl (.inl rfl) (pe_op op_fdiv (pe_op op_add (pv 5) (pv 6)) pe_int))
      (pss_one (ps_if (pt_cmpR (op_eqD hr.units) (pe_slice sl_list (pv 3) (po_some (pv 7)) po_none) (pe_slice sl_list (pv 4) (po_some (pv 7)) po_none) (nomark _)) (pss_one (ps_set (i := 6) scLstart.nd rfl (.inl rfl) (pv 7))) (pss_one (ps_set (i := 5) scLstart.nd rfl (.inl rfl) (pe_op op_add (pv 7) pe_int)))))))
      (pss_one (ps_ret (pv 5))))))))), ?_⟩
    refine ⟨_, rfl, a, _, rfl, len_bls hB, ?_⟩
    rw [List.length_map]
    obtain ⟨s0, hs0, hS⟩ := start_ex bs rs bs.length (Nat.le_refl _) (fun k h1 h2 => absurd h2 (by omega))
    refine ⟨_, rfl, rfl, _, rfl, ?_⟩
    by_cases hz : bs.length = 0
    · rw [decide_eq_true (show V.int (bs.length : Int) = V.int 0 by rw [hz]; rfl)]
      refine iteT ⟨_, rfl, ?_⟩
      have e : s0 = bs.length := by omega
      exact q bs.length H (Same.refl H) (e ▸ hS)
    rw [decide_eq_false (show ¬ V.int (bs.length : Int) = V.int 0 from fun z => by injection z with z; omega)]
    refine iteF ?_
    obtain ⟨n, hn⟩ : ∃ n, bs.length = n + 1 := ⟨bs.length - 1, by omega⟩
    have en : ((bs.length : Nat) : Int) - 1 = (n : Int) := by omega
    have h0 := Int.emod_nonneg (n : Int) (show (rs.length : Int) ≠ 0 by omega)
    have h1 := Int.emod_lt_of_pos (n : Int) (show (0 : Int) < (rs.length : Int) by omega)
    have em : ((n : Int) % (rs.length : Int)).toNat = n % rs.length := by rw [← Int.natCast_emod]; rfl
    refine ⟨_, rfl, _, rfl, _, _, rfl, rfl, ix_bls hB (by omega) (by omega) ?_⟩
    refine ⟨_, rfl, _, rfl, _, _, rfl, rfl, _, rfl, b, _, rfl, len_bls hR, _, _, rfl, rfl, by rw [List.length_map]; omega, ?_⟩
    dsimp only
    rw [List.length_map, en]
    refine ix_bls hR h0 h1 ⟨rfl, _, rfl, ?_⟩
    rw [em, show ((n : Nat) : Int).toNat = n from rfl, show rs.getD (n % rs.length) false = led rs n from rfl]
    by_cases hx : ¬ bs.getD n false = led rs n
    · rw [decide_eq_false (fun z => hx (by injection z))]
      refine iteT ⟨_, rfl, q bs.length H (Same.refl H) ⟨Nat.le_refl _, fun k h1 h2 => absurd h2 (by omega), .inr (by rw [hn, Nat.add_sub_cancel]; exact hx)⟩⟩
    rw [decide_eq_true (congrArg V.bl (Classical.not_not.mp hx))]
    refine iteF ?_
    -- truths
    refine ⟨_, rfl, a, _, rfl, hB, fun l1 hl1 => ?_⟩
    have s1 := same_new (o := .lst (bs.map V.bl)) hl1
    have e1 : (upd H l1 (.lst (bs.map V.bl))) l1 = some (.lst (bs.map V.bl)) := upd_same
    generalize upd H l1 (.lst (bs.map V.bl)) = H1 at s1 e1 ⊢
    -- later
    refine ⟨_, rfl, b, _, rfl, hR.same s1, fun l2 hl2 => ?_⟩
    have s2 := s1.trans (same_new (o := .lst (rs.map V.bl)) hl2)
    have e1 := same_new (o := .lst (rs.map V.bl)) hl2 _ _ e1
    have e2 : (upd H1 l2 (.lst (rs.map V.bl))) l2 = some (.lst (rs.map V.bl)) := upd_same
    generalize upd H1 l2 (.lst (rs.map V.bl)) = H2 at s2 e1 e2 ⊢
    refine ⟨_, rfl, _, rfl, b, _, rfl, hR.same s2, ?_⟩
    rw [List.length_map]
    have ek : ((bs.length : Int) / (rs.length : Int) + 1) = ((bs.length / rs.length + 1 : Nat) : Int) := rfl
    have hrep : rs.length * (bs.length / rs.length + 1) ≤ 2000000 := by
      have := Nat.div_mul_le_self bs.length rs.length
      rw [Nat.mul_comm] at this
      rw [Nat.mul_succ]
      omega
    have hdiv : bs.length / rs.length ≤ bs.length := Nat.div_le_self _ _
    refine ⟨_, _, rfl, rfl, ⟨by omega, by omega⟩, _, _, rfl, rfl, ?_⟩
    dsimp only
    rw [ek]
    have hk0 := Int.natCast_nonneg (bs.length / rs.length + 1)
    have hk1 : ((bs.length / rs.length + 1 : Nat) : Int) ≤ 1000001 := Int.ofNat_le.mpr (show bs.length / rs.length + 1 ≤ 1000001 by omega)
    refine ⟨l2, _, _, rfl, rfl, e2, Int.le_trans (by decide) hk0, Int.lt_of_le_of_lt hk1 (by decide), ?_, fun l3 hl3 => ?_⟩
    · rw [List.length_map, Int.toNat_natCast]
      exact Nat.le_trans hrep (by decide)
    have ef : (List.replicate ((bs.length / rs.length + 1 : Nat) : Int).toNat (rs.map V.bl)).flatten = ((List.replicate (bs.length / rs.length + 1) rs).flatten).map V.bl := by
      rw [List.map_flatten, List.map_replicate]; rfl
    rw [ef]
    have s3 := s2.trans (same_new (o := .lst (((List.replicate (bs.length / rs.length + 1) rs).flatten).map V.bl)) hl3)
    have e1 := same_new (o := .lst (((List.replicate (bs.length / rs.length + 1) rs).flatten).map V.bl)) hl3 _ _ e1
    have e3 : (upd H2 l3 (.lst (((List.replicate (bs.length / rs.length + 1) rs).flatten).map V.bl))) l3 = some (.lst (((List.replicate (bs.length / rs.length + 1) rs).flatten).map V.bl)) := upd_same
    generalize upd H2 l3 (.lst (((List.replicate (bs.length / rs.length + 1) rs).flatten).map V.bl)) = H3 at s3 e1 e3 ⊢
    have hlen : bs.length ≤ (List.replicate (bs.length / rs.length + 1) rs).flatten.length := by
      rw [rep_len, Nat.mul_succ]
      have := Nat.div_add_mod bs.length rs.length
      have := Nat.mod_lt bs.length (show 0 < rs.length by omega)
      omega
    refine ⟨_, rfl, _, rfl, l3, _, rfl, .inl (.inl e3), fun l4 hl4 => ?_⟩
    rw [cut_hi _ _ hlen, rep_take hr1]
    have s4 := s3.trans (same_new (o := .lst (((List.range bs.length).map (led rs)).map V.bl)) hl4)
    have e1 := same_new (o := .lst (((List.range bs.length).map (led rs)).map V.bl)) hl4 _ _ e1
    have e4 : (upd H3 l4 (.lst (((List.range bs.length).map (led rs)).map V.bl))) l4 = some (.lst (((List.range bs.length).map (led rs)).map V.bl)) := upd_same
    generalize upd H3 l4 (.lst (((List.range bs.length).map (led rs)).map V.bl)) = H4 at s4 e1 e4 ⊢
    refine ⟨_, rfl, _, _, rfl, ?_⟩
    refine ⟨fun d σ H' => Same H H' ∧ H' l1 = some (.lst (bs.map V.bl)) ∧ H' l4 = some (.lst (((List.range bs.length).map (led rs)).map V.bl)) ∧ ∃ (lo hi : Nat) (y : Option V), σ = [some (.ref a), some (.ref b), some (.int (bs.length : Int)), some (.ref l1), some (.ref l4), some (.int (lo : Int)), some (.int (hi : Int)), y] ∧ lo ≤ s0 ∧ s0 ≤ hi ∧ hi ≤ bs.length ∧ d = hi - lo,
      ⟨bs.length, s4, e1, e4, 0, bs.length, none, rfl, Nat.zero_le _, hs0, Nat.le_refl _, rfl⟩, fun d σ H' hW => ?_⟩
    obtain ⟨s5, e1, e4, lo, hi, y, rfl, h1, h2, h3, rfl⟩ := hW
    refine ⟨_, rfl, _, rfl, _, _, rfl, rfl, _, rfl, ?_⟩
    by_cases hlt : lo < hi
    · rw [decide_eq_true (show (lo : Int) < (hi : Int) by omega)]
      refine iteT ⟨fun σ' H2 => ∃ d', d' < hi - lo ∧ (Same H H2 ∧ H2 l1 = some (.lst (bs.map V.bl)) ∧ H2 l4 = some (.lst (((List.range bs.length).map (led rs)).map V.bl)) ∧ ∃ (lo' hi' : Nat) (y : Option V), σ' = [some (.ref a), some (.ref b), some (.int (bs.length : Int)), some (.ref l1), some (.ref l4), some (.int (lo' : Int)), some (.int (hi' : Int)), y] ∧ lo' ≤ s0 ∧ s0 ≤ hi' ∧ hi' ≤ bs.length ∧ d' = hi' - lo'), fun σ' H2 h => h, ?_⟩
      refine ⟨_, rfl, _, rfl, _, _, rfl, rfl, _, _, rfl, rfl, ⟨by decide, by decide⟩, ?_⟩
      have emid : (((lo : Int) + (hi : Int)) / 2) = (((lo + hi) / 2 : Nat) : Int) := by omega
      dsimp only
      rw [emid]
      obtain ⟨mid, hmid⟩ : ∃ mid, (lo + hi) / 2 = mid := ⟨_, rfl⟩
      rw [hmid]
      have m1 : lo ≤ mid := by omega
      have m2 : mid < hi := by omega
      refine ⟨_, rfl, _, rfl, _, rfl, l1, _, rfl, .inl (.inl e1), fun l5 hl5 => ?_⟩
      rw [cut_lo bs mid (by omega)]
      have s6 := s5.trans (same_new (o := .lst ((bs.drop mid).map V.bl)) hl5)
      have e1 := same_new (o := .lst ((bs.drop mid).map V.bl)) hl5 _ _ e1
      have e4 := same_new (o := .lst ((bs.drop mid).map V.bl)) hl5 _ _ e4
      have e5 : (upd H' l5 (.lst ((bs.drop mid).map V.bl))) l5 = some (.lst ((bs.drop mid).map V.bl)) := upd_same
      generalize upd H' l5 (.lst ((bs.drop mid).map V.bl)) = H5 at s6 e1 e4 e5 ⊢
      refine ⟨_, rfl, _, rfl, _, rfl, l4, _, rfl, .inl (.inl e4), fun l6 hl6 => ?_⟩
      rw [cut_lo ((List.range bs.length).map (led rs)) mid (by rw [List.length_map, List.length_range]; omega)]
      have s7 := s6.trans (same_new (o := .lst ((((List.range bs.length).map (led rs)).drop mid).map V.bl)) hl6)
      have e1 := same_new (o := .lst ((((List.range bs.length).map (led rs)).drop mid).map V.bl)) hl6 _ _ e1
      have e4 := same_new (o := .lst ((((List.range bs.length).map (led rs)).drop mid).map V.bl)) hl6 _ _ e4
      have e5 := same_new (o := .lst ((((List.range bs.length).map (led rs)).drop mid).map V.bl)) hl6 _ _ e5
      have e6 : (upd H5 l6 (.lst ((((List.range bs.length).map (led rs)).drop mid).map V.bl))) l6 = some (.lst ((((List.range bs.length).map (led rs)).drop mid).map V.bl)) := upd_same
      generalize upd H5 l6 (.lst ((((List.range bs.length).map (led rs)).drop mid).map V.bl)) = H6 at s7 e1 e4 e5 e6 ⊢
      refine ⟨_, _, .lst (.inl (.inl e5)) (dp_bls _), .lst (.inl (.inl e6)) (dp_bls _), (sh_list (can_bls _).1 (can_bls _).2).1, (sh_list (can_bls _).1 (can_bls _).2).1, _, rfl, ?_⟩
      rw [show PyData.eqv (.list ((bs.drop mid).map PyData.bool)) (.list ((((List.range bs.length).map (led rs)).drop mid).map PyData.bool)) = decide (bs.drop mid = ((List.range bs.length).map (led rs)).drop mid) from eqv_bls _ _]
      by_cases hc : s0 ≤ mid
      · rw [decide_eq_true (drop_agree.mpr ((start_agree hS (by omega)).mpr hc))]
        exact iteT ⟨_, rfl, mid - lo, by omega, s7, e1, e4, lo, mid, _, rfl, h1, hc, by omega, rfl⟩
      · rw [decide_eq_false (fun z => hc ((start_agree hS (by omega)).mp (drop_agree.mp z)))]
        exact iteF ⟨_, rfl, _, _, rfl, rfl, hi - (mid + 1), by omega, s7, e1, e4, mid + 1, hi, _, rfl, by omega, h2, h3, rfl⟩
    · rw [decide_eq_false (show ¬ (lo : Int) < (hi : Int) by omega)]
      have e : lo = s0 := by omega
      subst e
      exact iteF ⟨_, rfl, q _ _ s5 hS⟩
end
end Ef
set_option Elab.async false
set_option linter.all false
/-! x is not True, for any x -/
namespace Ef
open PySem PySem.Spec PyProof.Rows L2
/-- no truth value -/
def NoBl : V → Prop
  | .int _ => True
  | .non => True
  | .str _ => True
  | .ref _ => True
  | _ => False
def rNotX : R2 := fun x y H Q => ∃ b : Bool, y = .bl b ∧ ((∃ a : Bool, x = .bl a ∧ Q (.bl (!decide (a = b))) H) ∨ (NoBl x ∧ Q (.bl true) H))
theorem op_notX {X : Cx} : OpR X (compareOp .IsNot) rNotX := by
  intro pins s σ H x y v u Q I rx ry h
  obtain ⟨b, rfl, ⟨a, rfl, q⟩ | ⟨hn, q⟩⟩ := h
  · exact op_notBl pins s σ H _ _ v u Q I rx ry ⟨a, b, rfl, rfl, q⟩
  · cases ry
    have fin : isSame v (.bool b) = pure false → wpAny (model X.prog X.w) X.A (compareOp .IsNot v (.bool b)) (EP X pins σ Q) X.xe s := fun e => by
      show wpAny _ _ (isSame v (.bool b) >>= fun z => pure (Value.bool !z)) _ _ _
      rw [e]
      exact wpAny_bind (wpAny_pure (wpAny_pure ⟨.bl true, H, I, rfl, q⟩))
    cases x with
    | int i =>
      obtain ⟨t, rfl⟩ := rx
      exact fin rfl
    | non => cases rx; exact fin rfl
    | str x =>
      obtain ⟨t, rfl⟩ := rx
      exact fin rfl
    | ref a => cases rx; exact fin rfl
    | _ => exact hn.elim
end Ef
set_option Elab.async false
set_option linter.all false
/-! x is not True, for any x at all -/
namespace Ef
open PySem PySem.Spec PyProof.Rows L2
def rNotA : R2 := fun x y H Q => ∃ b : Bool, y = .bl b ∧ ((∃ a : Bool, x = .bl a ∧ Q (.bl (!decide (a = b))) H) ∨ ((∀ c, x ≠ .bl c) ∧ Q (.bl true) H))
theorem op_notA {X : Cx} : OpR X (compareOp .IsNot) rNotA := by
  intro pins s σ H x y v u Q I rx ry h
  obtain ⟨b, rfl, ⟨a, rfl, q⟩ | ⟨hn, q⟩⟩ := h
  · exact op_notBl pins s σ H _ _ v u Q I rx ry ⟨a, b, rfl, rfl, q⟩
  · cases ry
    have fin : isSame v (.bool b) = pure false → wpAny (model X.prog X.w) X.A (compareOp .IsNot v (.bool b)) (EP X pins σ Q) X.xe s := fun e => by
      show wpAny _ _ (isSame v (.bool b) >>= fun z => pure (Value.bool !z)) _ _ _
      rw [e]
      exact wpAny_bind (wpAny_pure (wpAny_pure ⟨.bl true, H, I, rfl, q⟩))
    cases x with
    | bl c => exact absurd rfl (hn c)
    | int i =>
      obtain ⟨t, rfl⟩ := rx
      exact fin rfl
    | non => cases rx; exact fin rfl
    | str x =>
      obtain ⟨t, rfl⟩ := rx
      exact fin rfl
    | ref a => cases rx; exact fin rfl
    | byt x => obtain ⟨t, rfl⟩ := rx; exact fin rfl
    | flt x => obtain ⟨t, rfl⟩ := rx; exact fin rfl
    | ty x => cases rx; exact fin rfl
theorem NoBl.all {v : V} (h : NoBl v) : ∀ c, v ≠ .bl c := fun c e => by subst e; exact h
end Ef
set_option Elab.async false
set_option linter.all false
/-! the places at which there is no truth -/
namespace Ef
open PySem PySem.Spec PyProof.Rows L2
def isB : V → Bool
  | .bl _ => true
  | _ => false
theorem isB_not {v : V} (h : ∀ c, v ≠ .bl c) : isB v = false := by
  cases v with
  | bl c => exact absurd rfl (h c)
  | _ => rfl
/-- the wrong places below i -/
def wrongs (xs : List V) (i : Nat) : List Nat := (List.range i).filter fun j => match xs[j]? with | some v => !isB v | none => false
theorem wrongs_succ {xs : List V} {i : Nat} {v : V} (h : xs[i]? = some v) : wrongs xs (i + 1) = wrongs xs i ++ (if isB v = true then [] else [i]) := by
  unfold wrongs
  rw [List.range_succ, List.filter_append]
  congr 1
  simp only [List.filter, h]
  cases isB v <;> rfl
theorem wrongs_len (xs : List V) (i : Nat) : (wrongs xs i).length ≤ i := by
  unfold wrongs
  refine Nat.le_trans (List.length_filter_le _ _) ?_
  rw [List.length_range]; exact Nat.le_refl i
theorem wrongs_bls (bs : List Bool) (ys : List V) : ∀ i, i ≤ bs.length → wrongs (bs.map V.bl ++ ys) i = []
  | 0, _ => rfl
  | i + 1, h => by
    have hx : (bs.map V.bl ++ ys)[i]? = some (.bl (bs[i]'(by omega))) := by
      rw [List.getElem?_append_left (by rw [List.length_map]; omega), List.getElem?_map, List.getElem?_eq_getElem (by omega)]; rfl
    rw [wrongs_succ hx, wrongs_bls bs ys i (by omega)]
    rfl
theorem wrongs_all (bs : List Bool) : wrongs (bs.map V.bl) (bs.map V.bl).length = [] := by
  have := wrongs_bls bs [] bs.length (Nat.le_refl _)
  rw [List.append_nil] at this
  rw [List.length_map]
  exact this
theorem wrongs_mono (xs : List V) (i k : Nat) : ∃ zs, wrongs xs (i + k) = wrongs xs i ++ zs := by
  unfold wrongs
  rw [List.range_add, List.filter_append]
  exact ⟨_, rfl⟩
theorem wrongs_head {bs : List Bool} {v : V} {ys : List V} (hv : ∀ c, v ≠ .bl c) : ∃ zs, wrongs (bs.map V.bl ++ v :: ys) (bs.map V.bl ++ v :: ys).length = bs.length :: zs := by
  have hx : (bs.map V.bl ++ v :: ys)[bs.length]? = some v := by
    rw [List.getElem?_append_right (by rw [List.length_map]; exact Nat.le_refl _), List.length_map, Nat.sub_self]; rfl
  obtain ⟨zs, hz⟩ := wrongs_mono (bs.map V.bl ++ v :: ys) (bs.length + 1) ys.length
  rw [wrongs_succ hx, wrongs_bls bs _ _ (Nat.le_refl _), isB_not hv] at hz
  refine ⟨zs, ?_⟩
  rw [List.length_append, List.length_map, List.length_cons, show bs.length + (ys.length + 1) = bs.length + 1 + ys.length by omega, hz]
  rfl
end Ef
set_option Elab.async false
set_option linter.all false
set_option maxRecDepth 100000
set_option maxHeartbeats 2000000
/-! try with several clauses, each with a name -/
namespace Ef
open PySem PySem.Spec PyProof.Rows L2
abbrev AsC := Value × Nat × (Addr → Value → Option Addr → TS)
/-- the ends of a named clause: its name is gone behind it -/
def EndsAs (i : Nat) (D : Ends) : Ends := { nx := fun σ' H' => D.nx (σ'.set i none) H', rt := D.rt, bk := fun σ' H' => D.bk (σ'.set i none) H', ct := fun σ' H' => D.ct (σ'.set i none) H' }
def wAsL (K : PySem.W.Frag) (Wout : WX) (D : Ends) : List AsC → WX
  | [] => Wout
  | (c, i, ts) :: r => fun cls d σ H => ∃ b, PySem.W.exmOne K cls c = some b ∧ (b = true → ∀ a, H a = none → ts a cls d (EndsAs i D) (σ.set i (some (.ref a))) H) ∧ (b = false → wAsL K Wout D r cls d σ H)
inductive HdsAs (X : Cx) : List ExceptHandler → List AsC → Prop
  | nil : HdsAs X [] []
  | cons {x n : Str} {c : Value} {i : Nat} {ts : Addr → Value → Option Addr → TS} {b₀ : Stmt} {suite : List Stmt} {np pos' : Pos} {hds : List ExceptHandler} {l : List AsC}
      (hi : X.N[i]? = some n) (hln : X.env.kindOf n = some NameKind.local) (hc : Names X x c)
      (hsu : ∀ (a : Addr) (oe : Obj) (cls : Value) (d : Option Addr) (pn : List (Addr × Obj)), Zc cls d oe → (∃ vs, oe.data = Data.fields vs) → PSs (X.suite a ((a, oe) :: pn)) (b₀ :: suite) (ts a cls d))
      (r : HdsAs X hds l) : HdsAs X (ExceptHandler.ExceptHandler (some (Expr.Name x np)) (some n) (b₀ :: suite) pos' :: hds) ((c, i, ts) :: l)
/-- what stands when a clause is looked for -/
structure LandAs (X : Cx) (pins : List (Addr × Obj)) (σ : L2.St) (H : Hp) (sI : Shared) (B : Heap) (a : Addr) (cls : Value) (d : Option Addr) (s : Shared) : Prop where
  J : Inv X pins σ H sI
  nb : ∀ (b : Addr) (o : Obj), sI.heap.get? b = some o → ¬b ∈ frs X.stack → B.get? b = some o
  up : sI.heap.UpToSlots s.heap
  fl : PySem.HandSPX.FlyingZ B (X.env :: X.outer) a (Zc cls d) s.heap
  na : H a = none
  os : s.os = sI.os
  ag : PyProof.Rows.AllBare s.gens
theorem handle_as {X : Cx} {pins : List (Addr × Obj)} {σ : L2.St} {H : Hp} {sI : Shared} {B : Heap} {a : Addr} {cls : Value} {d : Option Addr} {D : Ends} {Wout : WX} (hs : X.stack = X.env :: X.outer) (hf : X.env.frame = some X.env.locals) (hN : X.N.Nodup) (tk : Takes X Wout) :
    ∀ {hds : List ExceptHandler} {l : List AsC}, HdsAs X hds l → ∀ {s : Shared}, LandAs X pins σ H sI B a cls d s → wAsL X.K Wout D l cls d σ H →
      wpAny (model X.prog X.w) X.A (handleBy (.ref a) X.env hds) (SP X pins D) X.xe s := by
  intro hds l hh
  induction hh with
  | nil =>
    intro s L h
    have k := id L.fl
    obtain ⟨k1, k2, k3, oe, vs, T, oT, ts', he, hz, hd, h1, hr⟩ := k
    refine wpAny_handleBy_nil ?_
    refine wpAny_bind (wpAny_field he hd h1 ?_)
    rw [if_neg (by simp)]
    refine wpAny_bind ?_
    rw [hf]
    refine PySem.HandSPX.setFlight_upZ L.fl fun h4 hh4 up4 => wpAny_throw (tk _ _ ⟨a, B, sI, pins, σ, H, cls, d, rfl, L.J, L.nb, Heap.UpToSlots.trans L.up up4, Or.inr (Or.inr (by rw [hs]; exact hh4)), L.na, L.os, L.ag, h⟩)
  | @cons x n c i ts b₀ suite np pos' hds l hi hln hc hsu r ih =>
    intro s L h
    have ok := L.J.ok
    have hloc : L2.Loc X.env.scope n := Or.inl hln
    have J3 := Inv.landed L.J L.nb L.fl.1 L.up L.os L.ag
    obtain ⟨oe3, vs3, he3, hz3, hd3⟩ := L.fl.there
    have notFr : ∀ {h' : Heap} {oe : Obj} {vs : Array Value}, h'.FunFrames B (X.env :: X.outer) → h'.get? a = some oe → oe.data = Data.fields vs → a ∉ List.filterMap (fun (x : Env) => x.frame) (X.env :: X.outer) := fun ff e dd hm => by
      obtain ⟨_, o', e', hnf⟩ := Heap.FunFrames.mem ff hm
      rw [e] at e'
      cases e'
      exact hnf _ dd
    have nfr := notFr L.fl.2.2.1 he3 hd3
    have nL : a ≠ X.env.locals := fun z => nfr (List.mem_filterMap.mpr ⟨X.env, List.mem_cons_self, by rw [hf, z]⟩)
    have nF : a ∉ X.fs := fun hm => by
      obtain ⟨e, he, q⟩ := List.mem_filterMap.mp hm
      exact nfr (List.mem_filterMap.mpr ⟨e, List.mem_cons_of_mem _ he, q⟩)
    have S3 := Inv.suite J3 he3 hd3 L.na nL nF
    obtain ⟨b, hb1, hyes, hno⟩ := h
    refine wpAny_handleBy_cons (codeAny_handlers_test ?_) (fun q => nomatch q)
    have LM : PySem.W.Looks (model X.prog X.w) s.heap (excMatches (.ref a) c) b := PySem.W.exm_one J3.kIn (fun A Q E s k q => wpAny_typeOf_ref (k a oe3 he3) (by rw [hz3.1]; exact q)) hb1
    have test : ∀ {Q E}, Q c s → wpAny (model X.prog X.w) (X.suite a ((a, oe3) :: (X.pn ++ pins))).A (eval (.Name x np) X.env) Q E s := fun {Q E} q => by
      obtain ⟨hg, hdbg, hm | ⟨hm, hv, hnn⟩⟩ := hc
      · exact ld_glob S3 hg hm q hdbg
      · exact ld_blt S3 hg hm hv q hnn hdbg
    refine test (LM.here ?_)
    cases b with
    | false => exact ih L (hno rfl)
    | true =>
      refine codeAny_handlers_suite_as (PySem.HandSPX.lands_againZ L.fl fun h4 fl4 up4 => ?_)
      have J4 := Inv.landed (s' := { s with heap := h4 }) L.J L.nb fl4.1 (Heap.UpToSlots.trans L.up up4) L.os L.ag
      obtain ⟨oe4, vs4, he4, hz4, hd4⟩ := fl4.there
      have S4 := Inv.suite J4 he4 hd4 L.na nL nF
      refine store_ok (X := X.suite a ((a, oe4) :: (X.pn ++ pins))) (pins := []) (v := .ref a) S4 hN hi hloc rfl (fun s5 S5 => wpAny_mono ((hsu a oe4 cls d (X.pn ++ pins) hz4 ⟨vs4, hd4⟩).run [] s5 (σ.set i (some (.ref a))) H (EndsAs i D) S5 (hyes rfl a L.na)) (fun f s6 hsp => ?_) fun _ _ z => False.elim z) (Or.inr hln)
      have end_ : ∀ {σ6 : L2.St} {H6 : Hp} {Q : Unit → Shared → Prop}, Inv (X.suite a ((a, oe4) :: (X.pn ++ pins))) [] σ6 H6 s6 → (∀ s7, Inv X pins (σ6.set i none) H6 s7 → Q () s7) → wpAny (model X.prog X.w) X.A (do bindName X.env n Value.none; unbindBehindTheSuite X.env n pos') Q X.xe s6 := fun S6 hq => gone_ok (Inv.unsuite S6 ok) hN hi hln hq
      cases f with
      | next => obtain ⟨σ6, H6, S6, q6⟩ := hsp; exact end_ S6 fun s7 J7 => ⟨_, _, J7, q6⟩
      | brk => obtain ⟨σ6, H6, S6, q6⟩ := hsp; exact end_ S6 fun s7 J7 => ⟨_, _, J7, q6⟩
      | cont => obtain ⟨σ6, H6, S6, q6⟩ := hsp; exact end_ S6 fun s7 J7 => ⟨_, _, J7, q6⟩
      | ret u => obtain ⟨v6, σ6, H6, S6, r6, q6⟩ := hsp; exact end_ S6 fun s7 J7 => ⟨v6, _, _, J7, r6, q6⟩
theorem ps_try_asL {X : Cx} {h₀ : ExceptHandler} {hds : List ExceptHandler} {l : List AsC} {body : List Stmt} {pos : Pos} {tb : WX → TS} {Wout : WX} (hs : X.stack = X.env :: X.outer) (hf : X.env.frame = some X.env.locals) (hN : X.N.Nodup) (tk : Takes X Wout)
    (hb : ∀ (W : WX) (pn : List (Addr × Obj)) (xe : Value → Shared → Prop), Takes (X.tr pn xe) W → PassesOwn (model X.prog X.w) X.A X.env xe → PSs (X.tr pn xe) body (tb W)) (hh : HdsAs X (h₀ :: hds) l) :
    PS X (.Try body (h₀ :: hds) [] [] pos) fun D σ H => tb (wAsL X.K Wout D l) D σ H := by
  refine ⟨fun pins s σ H D I h => ?_⟩
  have ok := I.ok
  have hfr : X.A.frames = some (X.env :: X.outer) := by rw [ok.frames, hs]
  refine wpAny_Try_except (wpAny_mono ((hb (wAsL X.K Wout D l) (X.pn ++ pins) _ (fun u s' xx => ?_) PassesOwn.looking).run [] s σ H D (Inv.toTry I _) h) (fun f s1 hsp => ?_) fun e s1 he => he)
  · obtain ⟨a, B, sI, pins', σ', H', cls, d, rfl, J', nb, up, sky, na, os, ag, hw⟩ := xx
    have J := Inv.ofTry J' ok
    have sky' : Sky B (X.env :: X.outer) a (Zc cls d) X.env.locals s'.heap := by rw [← hs]; exact sky
    exact Sky.land Zc.steady hfr hf sky' fun h3 fl3 up3 => handle_as hs hf hN tk hh ⟨J, nb, Heap.UpToSlots.trans up up3, fl3, na, os, ag⟩ hw
  · cases f with
    | next => obtain ⟨σ', H', J', q⟩ := hsp; exact wpAny_execs_nil ⟨σ', H', Inv.ofTry J' ok, q⟩
    | brk => obtain ⟨σ', H', J', q⟩ := hsp; exact ⟨σ', H', Inv.ofTry J' ok, q⟩
    | cont => obtain ⟨σ', H', J', q⟩ := hsp; exact ⟨σ', H', Inv.ofTry J' ok, q⟩
    | ret u => obtain ⟨v, σ', H', J', r, q⟩ := hsp; exact ⟨v, σ', H', Inv.ofTry J' ok, r, q⟩
end Ef
set_option Elab.async false
set_option linter.all false
set_option maxRecDepth 100000
set_option maxHeartbeats 4000000
namespace Ef
open PySem PySem.Spec PyProof.Rows L2
abbrev sInit : Stmt := inClass (top 20) 0
/-- the least period and the least start -/
structure Canon (bs rs : List Bool) (m s : Nat) : Prop where
  m1 : 1 ≤ m
  dvd : m ∣ rs.length
  per : PerF (led rs) m
  least : ∀ d, PerF (led rs) d → m ∣ d
  start : StartOk bs rs s
/-- the attributes -/
def wf (m s : Int) (ra ba ea la : Addr) : List (Str × V) :=
  putF "_late" (.ref la) (putF "_early" (.ref ea) (putF "below" (.ref ba) (putF "rests" (.ref ra) (putF "start" (.int s) (putF "period" (.int m) [])))))
def earlyL (bs : List Bool) (s : Nat) : List Nat := (List.range s).filter fun n => bs.getD n false
def lateL (rs : List Bool) (m s : Nat) : List Nat := ((List.range m).map fun i => s + i).filter fun n => led rs n
/-- at p a Where of the period m, the start s, the truths bs below and rs -/
def WAt (K : PySem.W.Frag) (C : Addr) (H : Hp) (p : Addr) (m s : Nat) (bs rs : List Bool) : Prop := ∃ dx ra ba ea la : Addr,
  H p = some (.ins C dx (wf m s ra ba ea la)) ∧ SqT K H ra ((rs.take m).map V.bl) ∧ SqT K H ba ((bs.take s).map V.bl) ∧ SqT K H ea ((earlyL bs s).map fun n : Nat => V.int (n : Int)) ∧ SqT K H la ((lateL rs m s).map fun n : Nat => V.int (n : Int))
theorem WAt.same {K : PySem.W.Frag} {C : Addr} {H H' : Hp} {p : Addr} {m s : Nat} {bs rs : List Bool} (h : WAt K C H p m s bs rs) (e : Same H H') : WAt K C H' p m s bs rs := by
  obtain ⟨dx, ra, ba, ea, la, h1, h2, h3, h4, h5⟩ := h
  exact ⟨dx, ra, ba, ea, la, e _ _ h1, Same.tup e h2, Same.tup e h3, Same.tup e h4, Same.tup e h5⟩
theorem nm1 : ¬ (("start" : Str) = "period") := by decide +kernel
theorem nm2 : ¬ (("rests" : Str) = "period") := by decide +kernel
theorem nm3 : ¬ (("rests" : Str) = "start") := by decide +kernel
/-- the class, what the text has of it -/
structure ClsW (K : PySem.W.Frag) (mg : Str → Option Value) (C : Addr) : Prop where
  cl : Cls K C
  mgC : mg "Where" = some (.ref C)
  nP : NoAttr K C "period"
  nS : NoAttr K C "start"
  nR : NoAttr K C "rests"
  nB : NoAttr K C "below"
  nE : NoAttr K C "_early"
  nL : NoAttr K C "_late"
structure TxtI (mg : Str → Option Value) : Prop extends TxtW mg where
  MOST_PERIOD : ∃ t, mg "MOST_PERIOD" = some (.int 720 t)
  MOST_START : ∃ t, mg "MOST_START" = some (.int 10000 t)
abbrev sErrT : Stmt := inClass (top 10) 0
abbrev sErrF : Stmt := inClass (top 12) 0
abbrev sErrL : Stmt := inClass (top 13) 0
section
variable {P : Program} {w : World} {K : PySem.W.Frag} {mg : Str → Option Value} {base : Heap}
/-! ### errors with one field -/
/-- the error class x at C with one field f -/
structure ErrF (K : PySem.W.Frag) (mg : Str → Option Value) (x fl : Str) (C fI : Addr) : Prop where
  oex : OexC K C
  mgC : mg x = some (.ref C)
  iC : PySem.W.findIn K (.ref C) "__init__" = some (some (.ref fI))
  tI : PySem.W.typeIn K (.ref fI) = some (.type "function")
  nN : PySem.W.findIn K (.ref C) fl = some none
  xf : XfC K C
def spErr (K : PySem.W.Frag) (C : Addr) (fl : Str) : Sp := fun vs H Q _ => ∃ (a : Addr) (v : V), vs = [.ref a, v] ∧ H a = some (exo a C none) ∧ ∀ dx, H dx = none → dx ≠ a → Q .non (upd (upd H dx (exd dx [(fl, v)])) a (exo a C (some dx)))
/-- an error made and flying -/
theorem mk_err {C : Addr} {fl : Str} {H : Hp} {v : V} {R : XK} (h : ∀ d H', Same H H' → H d = none → H' d = some (.xd [(fl, v)]) → R (.ref C) (some d) H') :
    [v].length ≤ 1000 ∧ ∀ a, H a = none → spErr K C fl (.ref a :: ([v] ++ [])) (upd H a (exo a C none)) (fun v H2 => v = .non ∧ ∃ (d : Addr) (fs : List (Str × V)), H2 a = some (exo a C (some d)) ∧ H2 d = some (exd d fs) ∧ H d = none ∧ R (.ref C) (some d) (upd (del H2 a) d (.xd fs))) (fun _ _ _ => False) := by
  refine ⟨by show 1 ≤ 1000; decide, fun a ha => ⟨a, v, rfl, upd_same, fun dx h1 h2 => ⟨rfl, dx, _, upd_same, by rw [upd_ne h2, upd_same], ?_, ?_⟩⟩⟩
  · rw [upd_ne h2] at h1; exact h1
  · have hdx : H dx = none := by rw [upd_ne h2] at h1; exact h1
    refine h dx _ (fun b o e => ?_) hdx upd_same
    have nb : b ≠ dx := ne_of_none e hdx
    have na : b ≠ a := ne_of_none e ha
    rw [upd_ne nb]
    unfold del
    rw [if_neg na, upd_ne na, upd_ne nb, upd_ne na]
    exact e
/-- a def that may raise, by its name -/
structure DfX (P : Program) (w : World) (K : PySem.W.Frag) (mg : Str → Option Value) (base : Heap) (k : Nat) (x : Str) (ps : List Str) (sp : Sp) (f : Addr) (fd : FuncData) : Prop where
  at_ : mg x = some (.ref f)
  kp : PySem.W.keepIn K (.ref f) = true
  b : Binds K fd ps []
  F : FnOk P w K mg base (CX P w) k f fd ps sp

def Seqs (K : PySem.W.Frag) (H : Hp) (a : Addr) (xs : List V) : Prop := SqL K H a xs ∨ SqT K H a xs
theorem Seqs.same {H H' : Hp} {a : Addr} {xs : List V} (h : Seqs K H a xs) (e : Same H H') : Seqs K H' a xs := h.elim (fun h => .inl (e.seq h)) fun h => .inr (Same.tup e h)
theorem scErrT : FnScope ["self", "index"] ["self", "index"] (defScope sErrT) := ⟨rfl, rfl, rfl, by decide +kernel, rfl, by decide +kernel, by decide +kernel⟩
theorem scErrF : FnScope ["self", "most"] ["self", "most"] (defScope sErrF) := ⟨rfl, rfl, rfl, by decide +kernel, rfl, by decide +kernel, by decide +kernel⟩
theorem scErrL : FnScope ["self", "most"] ["self", "most"] (defScope sErrL) := ⟨rfl, rfl, rfl, by decide +kernel, rfl, by decide +kernel, by decide +kernel⟩
theorem ok_errT {f C fI : Addr} {fd : FuncData} (F : Fun K "__init__" "BadTruth.__init__" sErrT f fd) (T : ErrF K mg "BadTruth" "index" C fI) : FnOk P w K mg base CX0 1 f fd ["self", "index"] (spErr K C "index") := by
  refine F.ok scErrT (fun vs H Q E h => ?_) (fun cdv A outer s H vs Q E hr h => ?_)
  · obtain ⟨a, v, rfl, _⟩ := h
    rfl
  · obtain ⟨a, v, rfl, ha, q⟩ := h
    refine ⟨_, (pss_one (ps_ost (pv 0) (pv 1))), ?_⟩
    exact ⟨_, rfl, _, rfl, a, C, rfl, T.oex, T.nN, .inl ⟨ha, fun dx h1 h2 => q dx h1 h2⟩⟩
theorem ok_errF {f C fI : Addr} {fd : FuncData} (F : Fun K "__init__" "TooFine.__init__" sErrF f fd) (T : ErrF K mg "TooFine" "most" C fI) : FnOk P w K mg base CX0 1 f fd ["self", "most"] (spErr K C "most") := by
  refine F.ok scErrF (fun vs H Q E h => ?_) (fun cdv A outer s H vs Q E hr h => ?_)
  · obtain ⟨a, v, rfl, _⟩ := h
    rfl
  · obtain ⟨a, v, rfl, ha, q⟩ := h
    refine ⟨_, (pss_one (ps_ost (pv 0) (pv 1))), ?_⟩
    exact ⟨_, rfl, _, rfl, a, C, rfl, T.oex, T.nN, .inl ⟨ha, fun dx h1 h2 => q dx h1 h2⟩⟩
theorem ok_errL {f C fI : Addr} {fd : FuncData} (F : Fun K "__init__" "TooLate.__init__" sErrL f fd) (T : ErrF K mg "TooLate" "most" C fI) : FnOk P w K mg base CX0 1 f fd ["self", "most"] (spErr K C "most") := by
  refine F.ok scErrL (fun vs H Q E h => ?_) (fun cdv A outer s H vs Q E hr h => ?_)
  · obtain ⟨a, v, rfl, _⟩ := h
    rfl
  · obtain ⟨a, v, rfl, ha, q⟩ := h
    refine ⟨_, (pss_one (ps_ost (pv 0) (pv 1))), ?_⟩
    exact ⟨_, rfl, _, rfl, a, C, rfl, T.oex, T.nN, .inl ⟨ha, fun dx h1 h2 => q dx h1 h2⟩⟩
/-- what a look at truths tells -/
def ChkX (CT : Addr) (H : Hp) (xs : List V) (Q : VK) (E : XK) : Prop := (∃ bs : List Bool, xs = bs.map V.bl ∧ ∀ H', Same H H' → Q .non H') ∨ (∃ (bs : List Bool) (v : V) (ys : List V), xs = bs.map V.bl ++ v :: ys ∧ NoBl v ∧ ∀ d H', Same H H' → H d = none → H' d = some (.xd [("index", .int (bs.length : Int))]) → E (.ref CT) (some d) H')
def spCheckX (K : PySem.W.Frag) (CT : Addr) : Sp := fun vs H Q E => ∃ (a : Addr) (xs : List V), vs = [.ref a] ∧ Seqs K H a xs ∧ xs.length ≤ 1000000 ∧ ChkX CT H xs Q E
theorem dx_check {f CT fT : Addr} {fd fdT : FuncData} (hm : mg "_check_truths" = some (.ref f)) (F : Fun K "_check_truths" "_check_truths" sCheck f fd) (T : TxtW mg) (ET : ErrF K mg "BadTruth" "index" CT fT) (FT : FnOk P w K mg base CX0 1 fT fdT ["self", "index"] (spErr K CT "index")) (bT : Binds K fdT ["self", "index"] []) :
    DfX P w K mg base 3 "_check_truths" ["truths"] (spCheckX K CT) f fd := by
  refine ⟨hm, F.kp, F.binds (fun _ _ _ _ _ _ us hl => match us, hl with | [_], _ => rfl), F.okX scCheck (fun vs H Q E h => ?_) (fun cdv A outer s H vs Q E hr h => ?_)⟩
  · obtain ⟨a, xs, rfl, _⟩ := h
    rfl
  · obtain ⟨a, xs, rfl, hB, hlen, q⟩ := h
    refine ⟨_, (pss_cons (ps_setLc (i := 1) (own := [("index", 2), ("truth", 3)]) (g := gTup K 2 (gCons (gName 2) (gCons (gName 3) gNil))) (by rfl) scCheck.nd rfl rfl (sw_true rfl rfl rfl (by decide +kernel)) (pi_enumS (by rfl) T.enumerate (pa_cons (pv 0) pa_nil)) (blkOk_by (own := [("index", 2), ("truth", 3)]) (N := ["truths", "wrong", "index", "truth"]) (sc := defScope sCheck) (by decide +kernel)) (fun _ _ _ _ _ => pg_tup (by rfl) (pgs_cons (pg_name (i := 2) scCheck.nd rfl (Or.inl rfl)) (pgs_cons (pg_name (i := 3) scCheck.nd rfl (Or.inl rfl)) pgs_nil))) (fun _ _ _ _ _ => (pts_one (pw_and (pt_cmpR op_notA (pv 3) pe_bl (nomark _)) (pw_and1 (pt_cmpR op_notA (pv 3) pe_bl (nomark _)))).pt)) (fun _ _ _ _ _ => (pv 2)))
      (pss_one (ps_if (pt_cmpR op_gt (pe_callB call_len_seq (by rfl) T.len PySem.boot_len (pa_cons (pv 1) pa_nil)) pe_int (nomark _)) (pss_one (ps_raise rfl (takes_of rfl rfl rfl rfl) (pmk_oex ET.oex ET.iC ET.tI FT (hr.mono (by decide)) bT .nil pass0 (by rfl) ET.mgC (pa_cons (pe_ix ix_list (pv 1) pe_int (fun _ _ => rfl)) pa_nil)))) pss_nil))), ?_⟩
    refine ⟨_, rfl, a, xs, rfl, ?_⟩
    have hlt : ∀ i, i ≤ xs.length → ((wrongs xs i).map fun n : Nat => V.int (n : Int)).length < sizeLine := fun i hi => by
      rw [List.length_map]
      exact Nat.lt_of_le_of_lt (Nat.le_trans (wrongs_len xs i) (Nat.le_trans hi hlen)) (by decide)
    rcases hB with hB | hB
    case' inl => refine .inl ⟨hB, fun D hD => lc_it walk_enum (fun i H' => Same H H' ∧ H' D = some (.lst ((wrongs xs i).map fun n : Nat => V.int (n : Int)))) ⟨same_mut' (Same.refl H) hD, upd_same⟩ (fun i H' _ h => h.1.seq hB) ?_ ?_⟩
    case' inr => refine .inr ⟨hB, fun D hD => lc_it walk_enumT (fun i H' => Same H H' ∧ H' D = some (.lst ((wrongs xs i).map fun n : Nat => V.int (n : Int)))) ⟨same_mut' (Same.refl H) hD, upd_same⟩ (fun i H' _ h => Same.tup h.1 hB) ?_ ?_⟩
    case' inl.refine_1 | inr.refine_1 =>
      rintro i x H1 H2 hi ⟨s1, hx⟩ ⟨T, y, z, rfl, nT, rfl, ey, ez⟩
      have ei : y = .int (i : Nat) := (Option.some.inj ey).symm
      subst ei
      have ez : xs[i]? = some z := ez
      have sT : Same H (upd H1 T (.tup [.int (i : Nat), z])) := s1.trans fun c o e => by rw [upd_ne (ne_of_none e nT)]; exact e
      have hT : (upd H1 T (.tup [.int (i : Nat), z])) D = some (.lst ((wrongs xs i).map fun n : Nat => V.int (n : Int))) := by rw [upd_ne (ne_of_none hx nT)]; exact hx
      refine ⟨T, _, rfl, .inl (.inl upd_same), rfl, _, _, rfl, _, _, rfl, rfl, rfl, _, rfl, _, rfl, ?_⟩
      generalize upd H1 T (.tup [.int (i : Nat), z]) = H3 at sT hT ⊢
      have fin : isB z = false → ∃ acc, H3 D = some (.lst acc) ∧ acc.length < sizeLine ∧ Same H (upd H3 D (.lst (acc ++ [.int (i : Nat)]))) ∧ (upd H3 D (.lst (acc ++ [.int (i : Nat)]))) D = some (.lst ((wrongs xs (i + 1)).map fun n : Nat => V.int (n : Int))) := fun e =>
        ⟨_, hT, hlt i (Nat.le_of_lt hi), same_mut' sT hD, by rw [upd_same, wrongs_succ ez, e, if_neg Bool.false_ne_true, List.map_append]; rfl⟩
      by_cases hb : ∃ c, z = .bl c
      · obtain ⟨c, rfl⟩ := hb
        have fine : Same H H3 ∧ H3 D = some (.lst ((wrongs xs (i + 1)).map fun n : Nat => V.int (n : Int))) := ⟨sT, by rw [hT, wrongs_succ ez, show isB (.bl c) = true from rfl, if_pos rfl, List.append_nil]⟩
        refine .inl ⟨c, rfl, _, rfl, ?_⟩
        cases c with
        | true => exact fine
        | false => exact iteT ⟨_, rfl, _, rfl, .inl ⟨_, rfl, _, rfl, fine⟩⟩
      · have hb : ∀ c, z ≠ .bl c := fun c e => hb ⟨c, e⟩
        refine .inr ⟨hb, _, rfl, iteT ⟨_, rfl, _, rfl, .inr ⟨hb, _, rfl, ?_⟩⟩⟩
        exact iteT ⟨_, rfl, fin (isB_not hb)⟩
    case' inl.refine_2 | inr.refine_2 =>
      rintro H1 ⟨s1, hx⟩
      refine ⟨_, rfl, D, _, rfl, .inl (.inl (.inl hx)), _, _, rfl, rfl, _, rfl, ?_⟩
      rw [List.length_map]
      rcases q with ⟨bs, rfl, q⟩ | ⟨bs, v, ys, rfl, hN, q⟩
      · rw [wrongs_all]
        exact iteF (q _ s1)
      · obtain ⟨zs, hz⟩ := wrongs_head (bs := bs) (ys := ys) hN.all
        rw [hz] at hx ⊢
        rw [decide_eq_true (show (0 : Int) < ((bs.length :: zs).length : Int) by rw [List.length_cons]; omega)]
        refine iteT ?_
        exact ⟨_, rfl, D, _, _, _, rfl, rfl, .inl (.inl hx), at_of (j := 0) rfl rfl, mk_err (v := .int (bs.length : Int)) (R := E) fun d H' s2 hd hq => q d H' (s1.trans s2) (s1.free hd) hq⟩
theorem same_mut {H0 H : Hp} {p : Addr} {o : HO} (h : Same H0 H) (hp : H0 p = none) : Same H0 (upd H p o) := fun b x e => by rw [upd_ne (ne_of_none e hp)]; exact h b x e
/-- tuple(xs[:k]) -/
theorem rd_tup {K : PySem.W.Frag} {σ : L2.St} {H : Hp} {Q : VK} {i j k : Nat} {a : Addr} {bs : List Bool} (hi : σ[i]? = some (some (.ref a))) (hj : σ[j]? = some (some (.int k))) (hB : Bls K H a bs) (hk : k ≤ bs.length)
    (q : ∀ l H', Same H H' → SqT K H' l ((bs.take k).map V.bl) → Q (.ref l) H') :
    tCB (fun xs H Q => ∃ p ys, xs = [V.ref p] ∧ ((SqL K H p ys ∧ ∀ l, H l = none → Q (.ref l) (upd H l (.tup ys))) ∨ (SqT K H p ys ∧ Q (.ref p) H)))
      (tCons (tSl (fun x lo hi H Q => rSlL K x lo hi H Q ∨ rSlA K x lo hi H Q) (tVar i) tNoPart (tPart (tVar j))) tNil) σ H Q := by
  obtain ⟨t, hT⟩ := hB.t
  refine ⟨_, hi, _, hj, _, rfl, sl_bls hT (cut_hi bs k hk) fun p H5 s5 h5 => ?_⟩
  cases t with
  | false => exact ⟨p, _, rfl, .inl ⟨h5, fun l hl => q l _ (s5.trans (same_new hl)) (.inl (.inl upd_same))⟩⟩
  | true => exact ⟨p, _, rfl, .inr ⟨h5, q p H5 s5 h5⟩⟩
theorem early_succ (bs : List Bool) (i : Nat) : (earlyL bs (i + 1)).map (fun n : Nat => V.int (n : Int)) = (earlyL bs i).map (fun n : Nat => V.int (n : Int)) ++ (if bs.getD i false = true then [V.int (i : Int)] else []) := by
  unfold earlyL
  rw [List.range_succ, List.filter_append, List.map_append]
  congr 1
  by_cases h : bs.getD i false = true
  · rw [if_pos h, show List.filter (fun n => bs.getD n false) [i] = [i] by simp only [List.filter, h]]; rfl
  · rw [if_neg h, show List.filter (fun n => bs.getD n false) [i] = [] by simp only [List.filter, Bool.eq_false_iff.mpr h]]; rfl
theorem late_succ (rs : List Bool) (m s : Nat) : (lateL rs (m + 1) s).map (fun n : Nat => V.int (n : Int)) = (lateL rs m s).map (fun n : Nat => V.int (n : Int)) ++ (if led rs (s + m) = true then [V.int ((s + m : Nat) : Int)] else []) := by
  unfold lateL
  rw [List.range_succ, List.map_append, List.filter_append, List.map_append]
  congr 1
  show List.map _ (List.filter _ [s + m]) = _
  by_cases h : led rs (s + m) = true
  · rw [if_pos h, show List.filter (fun n => led rs n) [s + m] = [s + m] by simp only [List.filter, h]]; rfl
  · rw [if_neg h, show List.filter (fun n => led rs n) [s + m] = [] by simp only [List.filter, Bool.eq_false_iff.mpr h]]; rfl
theorem early_len (bs : List Bool) (s : Nat) : (earlyL bs s).length ≤ s := by
  unfold earlyL
  refine Nat.le_trans (List.length_filter_le _ _) ?_
  rw [List.length_range]; exact Nat.le_refl s
theorem late_len (rs : List Bool) (m s : Nat) : (lateL rs m s).length ≤ m := by
  unfold lateL
  refine Nat.le_trans (List.length_filter_le _ _) ?_
  rw [List.length_map, List.length_range]; exact Nat.le_refl m
theorem led_mod {rs : List Bool} {m : Nat} (h : PerF (led rs) m) (h1 : 1 ≤ m) (hm : m ≤ rs.length) (n : Nat) : rs.getD (n % m) false = led rs n := by
  have e : n = n % m + m * (n / m) := (Nat.mod_add_div n m).symm
  conv => rhs; rw [e, h.mul (n / m)]
  unfold led
  rw [Nat.mod_eq_of_lt (Nat.lt_of_lt_of_le (Nat.mod_lt n h1) hm)]
theorem sqt_upd {K : PySem.W.Frag} {H : Hp} {a p C dx : Addr} {fs : List (Str × V)} {xs : List V} {o : HO} (h : SqT K H a xs) (hp : H p = some (.ins C dx fs)) : SqT K (upd H p o) a xs := by
  rcases h with (h | ⟨z, h⟩) | h
  · exact .inl (.inl (by rw [upd_ne (ne_of h hp (by intro q; cases q))]; exact h))
  · exact .inl (.inr ⟨z, by rw [upd_ne (ne_of h hp (by intro q; cases q))]; exact h⟩)
  · exact .inr h
end
end Ef
set_option Elab.async false
set_option linter.all false
set_option maxRecDepth 100000
set_option maxHeartbeats 4000000
namespace Ef
open PySem PySem.Spec PyProof.Rows L2
section
variable {P : Program} {w : World} {K : PySem.W.Frag} {mg : Str → Option Value} {base : Heap}
/-- what the making of a set tells -/
def MadeX (K : PySem.W.Frag) (C CT CF CL : Addr) (H0 : Hp) (p : Addr) (xs ys : List V) (Q : VK) (E : XK) : Prop :=
  (∃ (bs : List Bool) (v : V) (zs : List V), xs = bs.map V.bl ++ v :: zs ∧ NoBl v ∧ ∀ d H', Same H0 H' → H0 d = none → H' d = some (.xd [("index", .int (bs.length : Int))]) → E (.ref CT) (some d) H') ∨
  (∃ bs : List Bool, xs = bs.map V.bl ∧ ((∃ (rs : List Bool) (v : V) (zs : List V), ys = rs.map V.bl ++ v :: zs ∧ NoBl v ∧ ∀ d H', Same H0 H' → H0 d = none → H' d = some (.xd [("index", .int (rs.length : Int))]) → E (.ref CT) (some d) H') ∨
    (ys = [] ∧ ∀ d H', Same H0 H' → H0 d = none → H' d = some (.xd [("index", .int 0)]) → E (.ref CT) (some d) H') ∨
    (∃ rs : List Bool, ys = rs.map V.bl ∧ 1 ≤ rs.length ∧ rs.length ≤ 50000 ∧ bs.length ≤ 50000 ∧ ∀ m s : Nat, Canon bs rs m s →
      ((720 < m ∧ ∀ d H', Same H0 H' → H0 d = none → H' d = some (.xd [("most", .int 720)]) → E (.ref CF) (some d) H') ∨ (m ≤ 720 ∧ 10000 < s ∧ ∀ d H', Same H0 H' → H0 d = none → H' d = some (.xd [("most", .int 10000)]) → E (.ref CL) (some d) H') ∨
        (m ≤ 720 ∧ s ≤ 10000 ∧ ∀ H', Same H0 H' → WAt K C H' p m s bs rs → Q .non H')))))
def spInit (K : PySem.W.Frag) (C CT CF CL : Addr) : Sp := fun vs H Q E => ∃ (H0 : Hp) (p dx a b : Addr) (xs ys : List V), vs = [.ref p, .ref a, .ref b] ∧ Same H0 H ∧ H0 p = none ∧ H p = some (.ins C dx []) ∧ Seqs K H0 a xs ∧ Seqs K H0 b ys ∧ xs.length ≤ 1000000 ∧ ys.length ≤ 1000000 ∧ MadeX K C CT CF CL H0 p xs ys Q E
theorem scInit : FnScope ["self", "below", "rests", "period", "start", "n", "truth"] ["self", "below", "rests"] (defScope sInit) := ⟨rfl, rfl, rfl, by decide +kernel, rfl, by decide +kernel, by decide +kernel⟩
theorem lkB {m s : Int} {ra ba : Addr} : (putF "below" (V.ref ba) (putF "rests" (.ref ra) (putF "start" (.int s) (putF "period" (.int m) [])))).lookup ("below" : Str) = some (.ref ba) := by with_unfolding_all rfl
theorem ok_init {f C CT CF CL fT fF fL fk : Addr} {fd fdT fdF fdL fdk : FuncData} (F : Fun K "__init__" "Where.__init__" sInit f fd) (T : TxtI mg) (CW : ClsW K mg C)
    (ET : ErrF K mg "BadTruth" "index" CT fT) (FT : FnOk P w K mg base CX0 1 fT fdT ["self", "index"] (spErr K CT "index")) (bT : Binds K fdT ["self", "index"] []) (EF_ : ErrF K mg "TooFine" "most" CF fF) (FF : FnOk P w K mg base CX0 1 fF fdF ["self", "most"] (spErr K CF "most")) (bF : Binds K fdF ["self", "most"] [])
    (EL : ErrF K mg "TooLate" "most" CL fL) (FL : FnOk P w K mg base CX0 1 fL fdL ["self", "most"] (spErr K CL "most")) (bL : Binds K fdL ["self", "most"] []) (CKR : DfX P w K mg base 3 "_check_truths" ["truths"] (spCheckX K CT) fk fdk) (Dlper : Df P w K mg base 2 "least_period" ["row"] (spLper K)) (Dlstart : Df P w K mg base 1 "_least_start" ["below", "rests"] (spLstart K)) :
    FnOk P w K mg base (CX P w) 4 f fd ["self", "below", "rests"] (spInit K C CT CF CL) := by
  refine F.okX scInit (fun vs H Q E h => ?_) (fun cdv A outer s H vs Q E hr h => ?_)
  · obtain ⟨H0, p, dx, a, b, xs, ys, rfl, _⟩ := h
    rfl
  · obtain ⟨H0, p, dx, a, b, xs, ys, rfl, s0, p0, hp, hBx, hRx, hxl, hyl, q⟩ := h
    obtain ⟨tMP, eMP⟩ := T.MOST_PERIOD
    obtain ⟨tMS, eMS⟩ := T.MOST_START
    refine ⟨_, (pss_cons (ps_expr (pe_callS CKR.F (hr.mono (by decide)) (by rfl) CKR.at_ CKR.kp CKR.b (fun σ => passAt (takes_of rfl rfl rfl rfl) σ) (pa_cons (pv 1) pa_nil)))
      (pss_cons (ps_expr (pe_callS CKR.F (hr.mono (by decide)) (by rfl) CKR.at_ CKR.kp CKR.b (fun σ => passAt (takes_of rfl rfl rfl rfl) σ) (pa_cons (pv 2) pa_nil)))
      (pss_cons (ps_if (pt_cmpR op_eq (pe_callB call_len_seq (by rfl) T.len PySem.boot_len (pa_cons (pv 2) pa_nil)) pe_int (nomark _)) (pss_one (ps_raise rfl (takes_of rfl rfl rfl rfl) (pmk_oex ET.oex ET.iC ET.tI FT (hr.mono (by decide)) bT .nil pass0 (by rfl) ET.mgC (pa_cons pe_int pa_nil)))) pss_nil)
      (pss_cons (ps_set (i := 3) scInit.nd rfl (.inr rfl) (Dlper.call (hr.mono (by decide)) (pa_cons (pv 2) pa_nil)))
      (pss_cons (ps_set (i := 4) scInit.nd rfl (.inl rfl) (Dlstart.call (hr.mono (by decide)) (pa_cons (pv 1) (pa_cons (pv 2) pa_nil))))
      (pss_cons (ps_if (pt_cmpR op_gt (pv 3) (pe_glob (v := .int 720) rfl eMP ⟨_, rfl⟩) (nomark _)) (pss_one (ps_raise rfl (takes_of rfl rfl rfl rfl) (pmk_oex EF_.oex EF_.iC EF_.tI FF (hr.mono (by decide)) bF .nil pass0 (by rfl) EF_.mgC (pa_cons (pe_glob (v := .int 720) rfl eMP ⟨_, rfl⟩) pa_nil)))) pss_nil)
      (pss_cons (ps_if (pt_cmpR op_gt (pv 4) (pe_glob (v := .int 10000) rfl eMS ⟨_, rfl⟩) (nomark _)) (pss_one (ps_raise rfl (takes_of rfl rfl rfl rfl) (pmk_oex EL.oex EL.iC EL.tI FL (hr.mono (by decide)) bL .nil pass0 (by rfl) EL.mgC (pa_cons (pe_glob (v := .int 10000) rfl eMS ⟨_, rfl⟩) pa_nil)))) pss_nil)
      (pss_cons (ps_fld (pv 0) (pv 3) rfl)
      (pss_cons (ps_fld (pv 0) (pv 4) rfl)
      (pss_cons (ps_fld (pv 0) (pe_callTy call_tuple_of (by rfl) T.tuple (by decide +kernel) (pa_cons (pe_slice (sl_list.or sl_tupA) (pv 2) po_none (po_some (pv 3))) pa_nil)) rfl)
      (pss_cons (ps_fld (pv 0) (pe_callTy call_tuple_of (by rfl) T.tuple (by decide +kernel) (pa_cons (pe_slice (sl_list.or sl_tupA) (pv 1) po_none (po_some (pv 4))) pa_nil)) rfl)
      (pss_cons (ps_fld (pv 0) (pe_callTy call_tuple_of (by rfl) T.tuple (by decide +kernel) (pa_cons (pe_lc (own := [("n", 5), ("truth", 6)]) (g := gTup K 2 (gCons (gName 5) (gCons (gName 6) gNil))) (by rfl) scInit.nd (pi_enumS (by rfl) T.enumerate (pa_cons (pe_fld (pv 0) rfl) pa_nil)) (blkOk_by (own := [("n", 5), ("truth", 6)]) (N := ["self", "below", "rests", "period", "start", "n", "truth"]) (sc := defScope sInit) (by decide +kernel)) (fun _ _ _ _ _ => pg_tup (by rfl) (pgs_cons (pg_name (i := 5) scInit.nd rfl (Or.inl rfl)) (pgs_cons (pg_name (i := 6) scInit.nd rfl (Or.inl rfl)) pgs_nil))) (fun _ _ _ _ _ => (pts_one (pt_val (pv 6)))) (fun _ _ _ _ _ => (pv 5))) pa_nil)) rfl)
      (pss_one (ps_fld (pv 0) (pe_callTy call_tuple_of (by rfl) T.tuple (by decide +kernel) (pa_cons (pe_lc (own := [("n", 5)]) (g := gName 5) (by rfl) scInit.nd (pi_range2 (by rfl) T.range (pa_cons (pv 4) (pa_cons (pe_op op_add (pv 4) (pv 3)) pa_nil))) (blkOk_by (own := [("n", 5)]) (N := ["self", "below", "rests", "period", "start", "n", "truth"]) (sc := defScope sInit) (by decide +kernel)) (fun _ _ _ _ _ => pg_name (i := 5) scInit.nd rfl (Or.inl rfl)) (fun _ _ _ _ _ => (pts_one (pt_val (pe_ix (show IxR _ (rIx K) from ix_seq) (pv 2) (pe_op op_mod (pv 5) (pv 3)) (fun _ _ => rfl))))) (fun _ _ _ _ _ => (pv 5))) pa_nil)) rfl)))))))))))))), ?_⟩
    refine ⟨_, rfl, a, xs, rfl, hBx.same s0, hxl, ?_⟩
    rcases q with ⟨bs, v, zs, e, hN, q⟩ | ⟨bs, rfl, q⟩
    · exact .inr ⟨bs, v, zs, e, hN, fun d H' s1 hd hx => q d H' (s0.trans s1) (s0.free hd) hx⟩
    refine .inl ⟨bs, rfl, fun H1 s1 => ?_⟩
    have s01 := s0.trans s1
    refine ⟨_, rfl, b, ys, rfl, hRx.same s01, hyl, ?_⟩
    rcases q with ⟨rs, v, zs, e, hN, q⟩ | ⟨rfl, q⟩ | ⟨rs, rfl, hr1, hr2, hb2, q⟩
    · exact .inr ⟨rs, v, zs, e, hN, fun d H' s2 hd hx => q d H' (s01.trans s2) (s01.free hd) hx⟩
    · refine .inl ⟨[], rfl, fun H2 s2 => ?_⟩
      have s02 := s01.trans s2
      refine ⟨_, rfl, b, _, rfl, hRx.same s02, rfl, _, rfl, ?_⟩
      refine iteT ?_
      exact mk_err (v := .int 0) (R := E) fun d H' s3 hd hx => q d H' (s02.trans s3) (s02.free hd) hx
    refine .inl ⟨rs, rfl, fun H2 s2 => ?_⟩
    have s02 := s01.trans s2
    have hB : Bls K H0 a bs := hBx
    have hR : Bls K H0 b rs := hRx
    refine ⟨_, rfl, b, _, rfl, len_bls (hR.same s02), rfl, _, rfl, ?_⟩
    rw [decide_eq_false (show ¬ V.int ((rs.map V.bl).length : Int) = V.int 0 from fun z => by
      injection z with z
      rw [List.length_map] at z
      omega)]
    refine iteF ?_
    refine ⟨_, rfl, b, rs, rfl, hR.same s02, hr1, by omega, fun m H3a m1 md mper mleast s3a => ?_⟩
    have s03a := s02.trans s3a
    refine ⟨_, rfl, _, rfl, a, b, bs, rs, rfl, hB.same s03a, hR.same s03a, hr1, by omega, by omega, fun s H3 s3b hs => ?_⟩
    have s3 := s3a.trans s3b
    have s03 := s02.trans s3
    have hm : m ≤ rs.length := Nat.le_of_dvd (by omega) md
    have hsb := hs.1
    have hp3 : H3 p = some (.ins C dx []) := s3 _ _ (s2 _ _ (s1 _ _ hp))
    rcases q m s ⟨m1, md, mper, mleast, hs⟩ with ⟨hm7, q⟩ | ⟨hm7, hs7, q⟩ | ⟨hm7, hs7, q⟩
    · refine ⟨_, rfl, _, _, rfl, rfl, _, rfl, ?_⟩
      rw [decide_eq_true (show (720 : Int) < (m : Int) by omega)]
      refine iteT ?_
      exact mk_err (v := .int 720) (R := E) fun d H' s4 hd hx => q d H' (s03.trans s4) (s03.free hd) hx
    · refine ⟨_, rfl, _, _, rfl, rfl, _, rfl, ?_⟩
      rw [decide_eq_false (show ¬ (720 : Int) < (m : Int) by omega)]
      refine iteF ?_
      refine ⟨_, rfl, _, _, rfl, rfl, _, rfl, ?_⟩
      rw [decide_eq_true (show (10000 : Int) < (s : Int) by omega)]
      refine iteT ?_
      exact mk_err (v := .int 10000) (R := E) fun d H' s4 hd hx => q d H' (s03.trans s4) (s03.free hd) hx
    refine ⟨_, rfl, _, _, rfl, rfl, _, rfl, ?_⟩
    rw [decide_eq_false (show ¬ (720 : Int) < (m : Int) by omega)]
    refine iteF ?_
    refine ⟨_, rfl, _, _, rfl, rfl, _, rfl, ?_⟩
    rw [decide_eq_false (show ¬ (10000 : Int) < (s : Int) by omega)]
    refine iteF ?_
    -- self.period, self.start
    refine ⟨_, rfl, _, rfl, p, C, dx, _, rfl, hp3, CW.cl, CW.nP, (by show 0 < 1000; decide), ?_⟩
    refine ⟨_, rfl, _, rfl, p, C, dx, _, rfl, upd_same, CW.cl, CW.nS, (by show 1 < 1000; decide), ?_⟩
    rw [upd_upd]
    have s04 : Same H0 (upd H3 p (.ins C dx (putF "start" (.int s) (putF "period" (.int m) [])))) := same_mut s03 p0
    have hp4 : (upd H3 p (.ins C dx (putF "start" (.int s) (putF "period" (.int m) [])))) p = some (.ins C dx (putF "start" (.int s) (putF "period" (.int m) []))) := upd_same
    generalize upd H3 p (.ins C dx (putF "start" (.int s) (putF "period" (.int m) []))) = H4 at s04 hp4 ⊢
    -- self.rests
    dsimp only [tSeq, sFld]
    refine rd_tup (k := m) (by rfl) (by rfl) (hR.same s04) hm fun ra H6 s6 h6 => ?_
    have s06 := s04.trans s6
    have hp6 := s6 _ _ hp4
    refine ⟨_, rfl, p, C, dx, _, rfl, hp6, CW.cl, CW.nR, (by show 2 < 1000; decide), ?_⟩
    have hra := sqt_upd (o := .ins C dx (putF "rests" (.ref ra) (putF "start" (.int s) (putF "period" (.int m) [])))) h6 hp6
    have s07 : Same H0 (upd H6 p (.ins C dx (putF "rests" (.ref ra) (putF "start" (.int s) (putF "period" (.int m) []))))) := same_mut s06 p0
    have hp7 : (upd H6 p (.ins C dx (putF "rests" (.ref ra) (putF "start" (.int s) (putF "period" (.int m) []))))) p = some (.ins C dx (putF "rests" (.ref ra) (putF "start" (.int s) (putF "period" (.int m) [])))) := upd_same
    generalize upd H6 p (.ins C dx (putF "rests" (.ref ra) (putF "start" (.int s) (putF "period" (.int m) [])))) = H7 at s07 hp7 hra ⊢
    -- self.below
    refine rd_tup (k := s) (by rfl) (by rfl) (hB.same s07) hsb fun ba H9 s79 h9 => ?_
    have hp9 := s79 _ _ hp7
    refine ⟨_, rfl, p, C, dx, _, rfl, hp9, CW.cl, CW.nB, (by show 3 < 1000; decide), ?_⟩
    have hra := sqt_upd (o := .ins C dx (putF "below" (.ref ba) (putF "rests" (.ref ra) (putF "start" (.int s) (putF "period" (.int m) []))))) (Same.tup s79 hra) hp9
    have hba := sqt_upd (o := .ins C dx (putF "below" (.ref ba) (putF "rests" (.ref ra) (putF "start" (.int s) (putF "period" (.int m) []))))) h9 hp9
    have s10 : Same H0 (upd H9 p (.ins C dx (putF "below" (.ref ba) (putF "rests" (.ref ra) (putF "start" (.int s) (putF "period" (.int m) [])))))) := same_mut (s07.trans s79) p0
    have hp10 : (upd H9 p (.ins C dx (putF "below" (.ref ba) (putF "rests" (.ref ra) (putF "start" (.int s) (putF "period" (.int m) [])))))) p = some (.ins C dx (putF "below" (.ref ba) (putF "rests" (.ref ra) (putF "start" (.int s) (putF "period" (.int m) []))))) := upd_same
    generalize upd H9 p (.ins C dx (putF "below" (.ref ba) (putF "rests" (.ref ra) (putF "start" (.int s) (putF "period" (.int m) []))))) = H10 at s10 hp10 hra hba ⊢
    -- self._early
    refine ⟨_, rfl, p, C, dx, _, _, rfl, hp10, CW.cl, CW.nB, lkB, ba, _, rfl, .inr ⟨hba, fun D hD => ?_⟩⟩
    refine lc_it walk_enumT (fun i H' => Same H10 H' ∧ H' D = some (.lst ((earlyL bs i).map fun n : Nat => V.int (n : Int)))) ⟨same_new hD, upd_same⟩ (fun i H' _ h => Same.tup h.1 hba) ?_ ?_
    · rintro i x Hx H2 hi ⟨sx, hx⟩ ⟨T, y, z, rfl, nT, rfl, ey, ez⟩
      have ei : y = .int (i : Nat) := (Option.some.inj ey).symm
      subst ei
      rw [List.length_map, List.length_take] at hi
      have his : i < s := by omega
      have ez2 : ((bs.take s).map V.bl)[i]? = some (.bl (bs.getD i false)) := by rw [List.map_take, List.getElem?_take, if_pos his, get_bls (by omega)]
      have ez3 : z = .bl (bs.getD i false) := (Option.some.inj (ez2.symm.trans ez)).symm
      subst ez3
      have sT : Same H10 (upd Hx T (.tup [.int (i : Nat), .bl (bs.getD i false)])) := sx.trans (same_new nT)
      have hT : (upd Hx T (.tup [.int (i : Nat), .bl (bs.getD i false)])) D = some (.lst ((earlyL bs i).map fun n : Nat => V.int (n : Int))) := by rw [upd_ne (ne_of_none hx nT)]; exact hx
      refine ⟨T, _, rfl, .inl (.inl upd_same), rfl, _, _, rfl, _, _, rfl, rfl, rfl, _, rfl, _, rfl, ?_⟩
      refine ite2 (fun hb => ?_) (fun hb => ?_)
      · refine ⟨_, rfl, _, hT, by rw [List.length_map]; exact small1000' (Nat.le_trans (early_len bs i) (by omega)), same_mut sT hD, ?_⟩
        rw [upd_same, early_succ, if_pos hb]
      · refine ⟨sT, ?_⟩
        rw [hT, early_succ, if_neg hb, List.append_nil]
    · rintro H11 ⟨s11, h11⟩
      rw [List.length_map, List.length_take, Nat.min_eq_left hsb] at h11
      refine ⟨D, _, rfl, .inl ⟨.inl (.inl h11), fun ea hea => ?_⟩⟩
      have s12 := s11.trans (same_new (o := .tup ((earlyL bs s).map fun n : Nat => V.int (n : Int))) hea)
      have hea2 : SqT K (upd H11 ea (.tup ((earlyL bs s).map fun n : Nat => V.int (n : Int)))) ea ((earlyL bs s).map fun n : Nat => V.int (n : Int)) := .inl (.inl upd_same)
      generalize upd H11 ea (.tup ((earlyL bs s).map fun n : Nat => V.int (n : Int))) = H12 at s12 hea2 ⊢
      have hp12 := s12 _ _ hp10
      refine ⟨_, rfl, p, C, dx, _, rfl, hp12, CW.cl, CW.nE, (by show 4 < 1000; decide), ?_⟩
      have hra := sqt_upd (o := .ins C dx (putF "_early" (.ref ea) (putF "below" (.ref ba) (putF "rests" (.ref ra) (putF "start" (.int s) (putF "period" (.int m) [])))))) (Same.tup s12 hra) hp12
      have hba := sqt_upd (o := .ins C dx (putF "_early" (.ref ea) (putF "below" (.ref ba) (putF "rests" (.ref ra) (putF "start" (.int s) (putF "period" (.int m) [])))))) (Same.tup s12 hba) hp12
      have hea := sqt_upd (o := .ins C dx (putF "_early" (.ref ea) (putF "below" (.ref ba) (putF "rests" (.ref ra) (putF "start" (.int s) (putF "period" (.int m) [])))))) hea2 hp12
      have s13 : Same H0 (upd H12 p (.ins C dx (putF "_early" (.ref ea) (putF "below" (.ref ba) (putF "rests" (.ref ra) (putF "start" (.int s) (putF "period" (.int m) []))))))) := same_mut (s10.trans s12) p0
      have hp13 : (upd H12 p (.ins C dx (putF "_early" (.ref ea) (putF "below" (.ref ba) (putF "rests" (.ref ra) (putF "start" (.int s) (putF "period" (.int m) []))))))) p = some (.ins C dx (putF "_early" (.ref ea) (putF "below" (.ref ba) (putF "rests" (.ref ra) (putF "start" (.int s) (putF "period" (.int m) [])))))) := upd_same
      generalize upd H12 p (.ins C dx (putF "_early" (.ref ea) (putF "below" (.ref ba) (putF "rests" (.ref ra) (putF "start" (.int s) (putF "period" (.int m) [])))))) = H13 at s13 hp13 hra hba hea ⊢
      -- self._late
      refine ⟨_, rfl, _, rfl, _, rfl, _, _, rfl, rfl, _, _, rfl, ⟨by omega, by omega, by omega, by omega⟩, fun D2 hD2 => ?_⟩
      have en : ((((s : Nat) : Int) + ((m : Nat) : Int)) - ((s : Nat) : Int)).toNat = m := by omega
      rw [en]
      refine lc_range (lo := (s : Int)) (n := m) (fun i H' => Same H13 H' ∧ H' D2 = some (.lst ((lateL rs i s).map fun n : Nat => V.int (n : Int)))) ⟨same_new hD2, upd_same⟩ ?_ ?_
      · rintro i Hx hi ⟨sx, hx⟩
        have e0 : (((s : Nat) : Int) + ((i : Nat) : Int)) = ((s + i : Nat) : Int) := rfl
        have em : (((s : Int) + (i : Int)) % ((m : Nat) : Int)).toNat = (s + i) % m := by rw [← Int.natCast_add, ← Int.natCast_emod]; rfl
        have h0 := Int.emod_nonneg ((s : Int) + (i : Int)) (show (m : Int) ≠ 0 by omega)
        have h1 := Int.emod_lt_of_pos ((s : Int) + (i : Int)) (show (0 : Int) < (m : Int) by omega)
        refine ⟨rfl, _, rfl, _, rfl, _, rfl, _, _, rfl, rfl, show (0 : Int) < (m : Int) by omega, ix_bls (hR.same (s13.trans sx)) h0 (by omega) ⟨_, rfl, ?_⟩⟩
        rw [em, led_mod mper m1 hm]
        refine ite2 (fun hb => ?_) (fun hb => ?_)
        · refine ⟨_, rfl, _, hx, by rw [List.length_map]; exact small1000' (Nat.le_trans (late_len rs i s) (by omega)), same_mut sx hD2, ?_⟩
          rw [upd_same, late_succ, if_pos hb]
          rfl
        · refine ⟨sx, ?_⟩
          rw [hx, late_succ, if_neg hb, List.append_nil]
      · rintro H14 ⟨s14, h14⟩
        refine ⟨D2, _, rfl, .inl ⟨.inl (.inl h14), fun la hla => ?_⟩⟩
        have s15 := s14.trans (same_new (o := .tup ((lateL rs m s).map fun n : Nat => V.int (n : Int))) hla)
        have hla2 : SqT K (upd H14 la (.tup ((lateL rs m s).map fun n : Nat => V.int (n : Int)))) la ((lateL rs m s).map fun n : Nat => V.int (n : Int)) := .inl (.inl upd_same)
        generalize upd H14 la (.tup ((lateL rs m s).map fun n : Nat => V.int (n : Int))) = H15 at s15 hla2 ⊢
        have hp15 := s15 _ _ hp13
        refine ⟨_, rfl, p, C, dx, _, rfl, hp15, CW.cl, CW.nL, (by show 5 < 1000; decide), ?_⟩
        exact q _ (same_mut (s13.trans s15) p0) ⟨dx, ra, ba, ea, la, upd_same, sqt_upd (Same.tup s15 hra) hp15, sqt_upd (Same.tup s15 hba) hp15, sqt_upd (Same.tup s15 hea) hp15, sqt_upd hla2 hp15⟩
end
end Ef
set_option Elab.async false
set_option linter.all false
set_option maxRecDepth 100000
set_option maxHeartbeats 4000000
namespace Ef
open PySem PySem.Spec PyProof.Rows L2
abbrev sFault : Stmt := top 36
structure ErrM (K : PySem.W.Frag) (CT CF CL : Addr) : Prop where
  tt : PySem.W.exmOne K (.ref CT) (.ref CT) = some true
  ft : PySem.W.exmOne K (.ref CF) (.ref CT) = some false
  lt : PySem.W.exmOne K (.ref CL) (.ref CT) = some false
  ff : PySem.W.exmOne K (.ref CF) (.ref CF) = some true
  lf : PySem.W.exmOne K (.ref CL) (.ref CF) = some false
  ll : PySem.W.exmOne K (.ref CL) (.ref CL) = some true
/-- what is told of one error -/
def E1 (C : Addr) (fl tag : Str) (Q : VK) : XK := fun cls d H' => cls = .ref C ∧ ∃ (v : V) (dd : Addr), d = some dd ∧ H' dd = some (.xd [(fl, v)]) ∧ ∀ t H2, Same H' H2 → H2 t = some (.tup [.str tag, v]) → Q (.ref t) H2
def EF (CT CF CL : Addr) (Q : VK) : XK := fun cls d H' => E1 CT "index" "truth" Q cls d H' ∨ E1 CF "most" "fine" Q cls d H' ∨ E1 CL "most" "late" Q cls d H'
def TFault (CT CF CL : Addr) : (XK → Hp → VK → Prop) → Hp → VK → Prop := fun tl H Q => tl (EF CT CF CL Q) H fun _ H' => Q .non H'
theorem scFault : FnScope ["ask", "e"] ["ask"] (defScope sFault) := ⟨rfl, rfl, rfl, by decide +kernel, rfl, by decide +kernel, by decide +kernel⟩
theorem fault_gives {X : Cx} {g CT CF CL fT fF fL : Addr} {cdg : Value} {q : Str} (ET : ErrF X.K X.mg "BadTruth" "index" CT fT) (EFi : ErrF X.K X.mg "TooFine" "most" CF fF) (EL : ErrF X.K X.mg "TooLate" "most" CL fL) (EM : ErrM X.K CT CF CL) :
    LamX.GivesTo X ["ask", "e"] "_law_fault" (defScope sFault) g cdg (defBody sFault) "ask" q (TFault CT CF CL) := by
  intro f c' s H Q tl act hc h
  refine ⟨_, (pss_cons (ps_try_asL (tb := fun W D σ H1 => ∃ Ech : XK, (∀ (cls : Value) (d : Option Addr) (σ' : L2.St) (H' : Hp), σ'.length = 2 → Ech cls d H' → W cls d σ' H') ∧ σ[0]? = some (some (.ref f)) ∧ H1 c' = some (LamX.CodeO c' q) ∧ tl Ech H1 fun _ H2 => D.nx σ H2) rfl rfl scFault.nd takes0
      (fun W pn xe tk _ => ⟨fun pins s' σ H' D I h' => ?_⟩)
      (.cons (i := 1) rfl rfl ⟨rfl, by decide, .inl ET.mgC⟩ (fun a oe cls d pn hz hf => pss_one (ps_ret (pe_tup (pa_cons pe_str (pa_cons (pe_xf ET.xf ET.nN hz hf (pv 1)) pa_nil)))))
      (.cons (i := 1) rfl rfl ⟨rfl, by decide, .inl EFi.mgC⟩ (fun a oe cls d pn hz hf => pss_one (ps_ret (pe_tup (pa_cons pe_str (pa_cons (pe_xf EFi.xf EFi.nN hz hf (pv 1)) pa_nil)))))
      (.cons (i := 1) rfl rfl ⟨rfl, by decide, .inl EL.mgC⟩ (fun a oe cls d pn hz hf => pss_one (ps_ret (pe_tup (pa_cons pe_str (pa_cons (pe_xf EL.xf EL.nN hz hf (pv 1)) pa_nil)))))
      .nil))))
      (pss_one (ps_ret pe_non))), ?_⟩
  · obtain ⟨Ech, hW, h1, h2, h3⟩ := h'
    have tk' : Takes ((cxOf C8.CX0 X.prog X.w X.K X.mg X.base ["ask", "e"] "_law_fault" (defScope sFault) g cdg X.A X.stack s H C8.E0).tr pn xe) (fun cls d σ' H' => σ'.length = 2 → W cls d σ' H') := by
      intro u s2 hx
      obtain ⟨a, B, sI, pins', σ', H2, cls, d, e1, J, nb, up, sky, na, os, ag, hw⟩ := hx
      exact tk u s2 ⟨a, B, sI, pins', σ', H2, cls, d, e1, J, nb, up, sky, na, os, ag, hw J.len⟩
    exact (pss_one (ps_expr (act _ pn xe Ech _ _ tk' fun cls d σ' H' hE hl => hW cls d σ' H' hl hE))).run pins s' σ H' D I ⟨h1, h2, h3⟩
  · refine ⟨EF CT CF CL Q, fun cls d σ' H' hlen hE => ?_, rfl, hc, h⟩
    match σ', hlen with
    | [z0, z1], _ =>
      rcases hE with ⟨rfl, v, dd, rfl, hx, q⟩ | ⟨rfl, v, dd, rfl, hx, q⟩ | ⟨rfl, v, dd, rfl, hx, q⟩
      · refine ⟨true, EM.tt, fun _ a ha => ?_, fun z => Bool.noConfusion z⟩
        refine ⟨_, rfl, rfl, rfl, dd, _, v, rfl, hx, rfl, by show 2 ≤ sizeLine; decide, fun t ht => ?_⟩
        exact q t _ (same_new ht) upd_same
      · refine ⟨false, EM.ft, fun z => Bool.noConfusion z, fun _ => ⟨true, EM.ff, fun _ a ha => ?_, fun z => Bool.noConfusion z⟩⟩
        refine ⟨_, rfl, rfl, rfl, dd, _, v, rfl, hx, rfl, by show 2 ≤ sizeLine; decide, fun t ht => ?_⟩
        exact q t _ (same_new ht) upd_same
      · refine ⟨false, EM.lt, fun z => Bool.noConfusion z, fun _ => ⟨false, EM.lf, fun z => Bool.noConfusion z, fun _ => ⟨true, EM.ll, fun _ a ha => ?_, fun z => Bool.noConfusion z⟩⟩⟩
        refine ⟨_, rfl, rfl, rfl, dd, _, v, rfl, hx, rfl, by show 2 ≤ sizeLine; decide, fun t ht => ?_⟩
        exact q t _ (same_new ht) upd_same
end Ef
set_option Elab.async false
set_option linter.all false
set_option maxRecDepth 100000
set_option maxHeartbeats 4000000
namespace Ef
open PySem PySem.Spec PyProof.Rows L2
abbrev sLeast : Stmt := top 33
theorem dint' (a b : Int) : decide (V.int a = V.int b) = decide (a = b) := by
  by_cases h : a = b
  · rw [decide_eq_true h, decide_eq_true (by rw [h])]
  · rw [decide_eq_false h, decide_eq_false (fun z => h (V.int.inj z))]
section
variable {P : Program} {w : World} {K : PySem.W.Frag} {mg : Str → Option Value} {base : Heap}
def spLeast : Sp := fun vs H Q _ => ∃ (r : Addr) (bs rs : List Bool) (m s : Nat), vs = [.ref r] ∧ Md H r bs rs ∧ 1 ≤ rs.length ∧ rs.length ≤ 720 ∧ bs.length ≤ 10000 ∧ Canon bs rs m s ∧
  ∀ t tb tr H', Same H H' → H' t = some (.tup [.ref tb, .ref tr]) → H' tb = some (.tup ((bs.take s).map V.bl)) → H' tr = some (.tup ((rs.take m).map V.bl)) → Q (.ref t) H'
theorem scLeast : FnScope ["model", "below", "rests", "size", "period", "start"] ["model"] (defScope sLeast) := ⟨rfl, rfl, rfl, by decide +kernel, rfl, by decide +kernel, by decide +kernel⟩
theorem df_least (A : At K mg "_law_least_model" sLeast) (T : TxtW mg) : Df P w K mg base 1 "_law_least_model" ["model"] spLeast := by
  obtain ⟨f, fd, hm, F⟩ := A.ex
  refine ⟨f, fd, hm, F.kp, F.binds (fun _ _ _ _ _ _ us hl => match us, hl with | [_], _ => rfl), F.ok scLeast (fun vs H Q E h => ?_) (fun cdv A outer s H vs Q E hr h => ?_)⟩
  · obtain ⟨r, bs, rs, m, s, rfl, _⟩ := h
    rfl
  · obtain ⟨r, bs, rs, m, s, rfl, ⟨rb, rr, h1, h2, h3⟩, hr1, hr2, hb2, hc, q⟩ := h
    refine ⟨_, (pss_cons (ps_asg (pv 0) (pg_tup (by rfl) (pgs_cons (pg_name (i := 1) scLeast.nd rfl (.inl rfl)) (pgs_cons (pg_name (i := 2) scLeast.nd rfl (.inl rfl)) pgs_nil))))
      (pss_cons (ps_for PassesOwn.never rfl (pi_range3 (by rfl) T.range (pa_cons (pe_callB call_len_seq (by rfl) T.len PySem.boot_len (pa_cons (pv 2) pa_nil)) (pa_cons pe_int (pa_cons (pe_un un_neg pe_int) pa_nil)))) (pg_name (i := 3) scLeast.nd rfl (.inl rfl))
      (pss_one (ps_if (pw_and (pt_cmpR op_eq (pe_op op_mod (pe_callB call_len_seq (by rfl) T.len PySem.boot_len (pa_cons (pv 2) pa_nil)) (pv 3)) pe_int (nomark _)) (pw_and1 (pt_cmpR (op_eqD hr.units) (pv 2) (pe_op op_rep (pe_slice sl_list (pv 2) po_none (po_some (pv 3))) (pe_op op_fdiv (pe_callB call_len_seq (by rfl) T.len PySem.boot_len (pa_cons (pv 2) pa_nil)) (pv 3))) (nomark _)))).pt (pss_one (ps_set (i := 4) scLeast.nd rfl (.inl rfl) (pv 3))) pss_nil)))
      (pss_cons (ps_set (i := 5) scLeast.nd rfl (.inl rfl) (pe_callB call_len_seq (by rfl) T.len PySem.boot_len (pa_cons (pv 1) pa_nil)))
      (pss_cons (ps_while PassesOwn.never (pw_and (pt_cmpR op_gt (pv 5) pe_int (nomark _)) (pw_and1 (pt_cmpR op_eq (pe_ix ix_seq (pv 1) (pe_op op_sub (pv 5) pe_int) (fun _ _ => rfl)) (pe_ix ix_seq (pv 2) (pe_op op_mod (pe_callTy call_int1 (by rfl) T.int (by decide +kernel) (pa_cons (pe_op op_sub (pv 5) pe_int) pa_nil)) (pv 4)) (fun _ _ => rfl)) (nomark _)))).pt
      (pss_one (ps_set (i := 5) scLeast.nd rfl (.inl rfl) (pe_op op_sub (pv 5) pe_int))))
      (pss_one (ps_ret (pe_tup (pa_cons (pe_callTy call_tuple_of (by rfl) T.tuple (by decide +kernel) (pa_cons (pe_slice sl_list (pv 1) po_none (po_some (pv 5))) pa_nil)) (pa_cons (pe_callTy call_tuple_of (by rfl) T.tuple (by decide +kernel) (pa_cons (pe_slice sl_list (pv 2) po_none (po_some (pv 4))) pa_nil)) pa_nil))))))))), ?_⟩
    refine ⟨_, rfl, r, _, rfl, .inl (.inl h1), rfl, _, _, rfl, _, _, rfl, rfl, ?_⟩
    have hR : SqL K H rr (rs.map V.bl) := .inl (.inl h3)
    refine ⟨_, rfl, rr, _, rfl, .inl hR, _, rfl, _, _, _, _, rfl, RgC.neg (by rw [List.length_map]; omega) (by rw [List.length_map]; omega) (by decide) (by decide), ?_⟩
    have eL : ((((rs.map V.bl).length : Int) - 0).toNat) = rs.length := by rw [List.length_map]; omega
    rw [eL, List.length_map]
    refine for_rangeC (n := rs.length) (fun i σ H' => Same H H' ∧ ∃ y3 y4 : Option V, σ = [some (.ref r), some (.ref rb), some (.ref rr), y3, y4, none] ∧ ((i = 0 ∧ y4 = none) ∨ ∃ pd : Nat, y4 = some (.int (pd : Int)) ∧ pd ∣ rs.length ∧ PerF (led rs) pd ∧ ∀ d, rs.length - i < d → d ≤ rs.length → d ∣ rs.length → PerF (led rs) d → pd ≤ d))
      ⟨Same.refl H, none, none, rfl, .inl ⟨rfl, rfl⟩⟩ ?_ ?_
    · rintro i σ H1 hi ⟨s1, y3, y4, rfl, hy⟩
      have e1 : ((rs.length : Nat) : Int) + ((i : Nat) : Int) * (-1) = ((rs.length - i : Nat) : Int) := by omega
      rw [e1]
      have hk1 : 1 ≤ rs.length - i := by omega
      have hk2 : rs.length - i ≤ rs.length := by omega
      generalize hk : rs.length - i = k at hk1 hk2
      have skip : (¬ (k ∣ rs.length ∧ PerF (led rs) k)) → (∃ y3' y4' : Option V, [some (V.ref r), some (V.ref rb), some (V.ref rr), some (V.int (k : Int)), y4, none] = [some (.ref r), some (.ref rb), some (.ref rr), y3', y4', none] ∧ ((i + 1 = 0 ∧ y4' = none) ∨ ∃ pd : Nat, y4' = some (.int (pd : Int)) ∧ pd ∣ rs.length ∧ PerF (led rs) pd ∧ ∀ d, rs.length - (i + 1) < d → d ≤ rs.length → d ∣ rs.length → PerF (led rs) d → pd ≤ d)) := fun hno => by
        rcases hy with ⟨rfl, rfl⟩ | ⟨pd, rfl, a1, a2, a3⟩
        · exact absurd ⟨by rw [← hk]; exact Nat.dvd_refl _, by rw [← hk]; exact led_self rs⟩ hno
        · refine ⟨_, _, rfl, .inr ⟨pd, rfl, a1, a2, fun d b1 b2 b3 b4 => ?_⟩⟩
          rcases Nat.lt_or_ge (rs.length - i) d with z | z
          · exact a3 d z b2 b3 b4
          · have : d = k := by omega
            rw [this] at b3 b4
            exact absurd ⟨b3, b4⟩ hno
      refine ⟨_, rfl, rr, _, rfl, .inl (s1.seq hR), _, rfl, _, _, rfl, rfl, by omega, rfl, _, rfl, ?_⟩
      rw [List.length_map, dint']
      by_cases hd : k ∣ rs.length
      · rw [decide_eq_true (show ((rs.length : Nat) : Int) % (k : Int) = 0 from Int.emod_eq_zero_of_dvd (Int.natCast_dvd_natCast.mpr hd))]
        refine iteT ?_
        refine ⟨_, rfl, _, rfl, _, rfl, _, rfl, rr, _, rfl, s1.seq hR, fun t1 ht1 => ?_⟩
        rw [cut_hi rs k hk2]
        have s2 := s1.trans (same_new (o := .lst ((rs.take k).map V.bl)) ht1)
        have e2 : (upd H1 t1 (.lst ((rs.take k).map V.bl))) t1 = some (.lst ((rs.take k).map V.bl)) := upd_same
        generalize upd H1 t1 (.lst ((rs.take k).map V.bl)) = H2 at s2 e2 ⊢
        refine ⟨_, rfl, rr, _, rfl, .inl (s2.seq hR), _, rfl, _, _, rfl, rfl, ⟨by omega, by omega⟩, ?_⟩
        rw [List.length_map]
        have eq : ((rs.length : Int) / (k : Int)) = ((rs.length / k : Nat) : Int) := rfl
        dsimp only
        rw [eq]
        have hqk : k * (rs.length / k) = rs.length := Nat.mul_div_cancel' hd
        have hql : rs.length / k ≤ rs.length := Nat.div_le_self _ _
        have hq0 : (0 : Int) ≤ ((rs.length / k : Nat) : Int) := Int.natCast_nonneg _
        have hq1 : ((rs.length / k : Nat) : Int) ≤ 720 := by exact_mod_cast Nat.le_trans hql hr2
        refine ⟨t1, _, _, rfl, rfl, e2, Int.le_trans (by decide) hq0, Int.lt_of_le_of_lt hq1 (by decide), by rw [List.length_map, List.length_take, Nat.min_eq_left hk2, Int.toNat_natCast, hqk]; exact Nat.le_trans hr2 (by decide), fun t2 ht2 => ?_⟩
        rw [Int.toNat_natCast]
        have efl : (List.replicate (rs.length / k) ((rs.take k).map V.bl)).flatten = ((List.replicate (rs.length / k) (rs.take k)).flatten).map V.bl := by
          rw [List.map_flatten, List.map_replicate]
        rw [efl]
        have s3 := s2.trans (same_new (o := .lst (((List.replicate (rs.length / k) (rs.take k)).flatten).map V.bl)) ht2)
        have e3 : (upd H2 t2 (.lst (((List.replicate (rs.length / k) (rs.take k)).flatten).map V.bl))) t2 = some (.lst (((List.replicate (rs.length / k) (rs.take k)).flatten).map V.bl)) := upd_same
        generalize upd H2 t2 (.lst (((List.replicate (rs.length / k) (rs.take k)).flatten).map V.bl)) = H3 at s3 e3 ⊢
        refine ⟨_, _, .lst (s3.seq hR) (dp_bls _), .lst (.inl (.inl e3)) (dp_bls _), (sh_list (can_bls _).1 (can_bls _).2).1, (sh_list (can_bls _).1 (can_bls _).2).1, _, rfl, ?_⟩
        rw [show PyData.eqv (.list (rs.map PyData.bool)) (.list (((List.replicate (rs.length / k) (rs.take k)).flatten).map PyData.bool)) = decide (rs = (List.replicate (rs.length / k) (rs.take k)).flatten) from eqv_bls _ _]
        have hper := rep_per (by omega) hk1 hd
        by_cases hp : PerF (led rs) k
        · rw [decide_eq_true (hper.mpr hp)]
          refine iteT ⟨_, rfl, s3, _, _, rfl, .inr ⟨k, rfl, hd, hp, fun d b1 b2 b3 b4 => by omega⟩⟩
        · rw [decide_eq_false (fun z => hp (hper.mp z))]
          refine iteF ?_
          exact ⟨s3, skip fun z => hp z.2⟩
      · rw [decide_eq_false (show ¬ ((rs.length : Nat) : Int) % (k : Int) = 0 from fun z => hd (Int.natCast_dvd_natCast.mp (Int.dvd_of_emod_eq_zero z)))]
        refine iteF ?_
        exact ⟨s1, skip fun z => hd z.1⟩
    · rintro σ H1 ⟨s1, y3, y4, rfl, hy⟩
      obtain ⟨pd, rfl, a1, a2, a3⟩ : ∃ pd : Nat, y4 = some (.int (pd : Int)) ∧ pd ∣ rs.length ∧ PerF (led rs) pd ∧ ∀ d, rs.length - rs.length < d → d ≤ rs.length → d ∣ rs.length → PerF (led rs) d → pd ≤ d := by
        rcases hy with ⟨e, _⟩ | h
        · omega
        · exact h
      have hm1 := hc.m1
      have hpd : pd = m := by
        have b1 := a3 m (by omega) (Nat.le_of_dvd (by omega) hc.dvd) hc.dvd hc.per
        have b2 := Nat.le_of_dvd (Nat.pos_of_dvd_of_pos a1 (by omega)) (hc.least pd a2)
        omega
      subst hpd
      refine ⟨_, rfl, rb, _, rfl, .inl (.inl (.inl (s1 _ _ h2))), ?_⟩
      rw [List.length_map]
      refine ⟨fun n σ H' => Same H H' ∧ ∃ y3 : Option V, σ = [some (.ref r), some (.ref rb), some (.ref rr), y3, some (.int (pd : Int)), some (.int (n : Int))] ∧ s ≤ n ∧ n ≤ bs.length, ⟨bs.length, s1, y3, rfl, hc.start.1, Nat.le_refl _⟩, fun n σ H2 hW => ?_⟩
      obtain ⟨s2, y3', rfl, hn1, hn2⟩ := hW
      refine ⟨_, rfl, _, _, rfl, rfl, _, rfl, ?_⟩
      have hpd1 : 1 ≤ pd := hc.m1
      have hpl : pd ≤ rs.length := Nat.le_of_dvd (by omega) hc.dvd
      have hB2 : SqL K H2 rb (bs.map V.bl) := .inl (.inl (s2 _ _ h2))
      have hR2 : SqL K H2 rr (rs.map V.bl) := s2.seq hR
      have ht : (((n : Nat) : Int) > 0 ∧ bs.getD (n - 1) false = led rs (n - 1)) ∨ n = s := by
        rcases Nat.lt_or_ge s n with z | z
        · exact .inl ⟨by omega, hc.start.2.1 (n - 1) (by omega) (by omega)⟩
        · exact .inr (by omega)
      have ret : n = s → ∃ v, [some (V.ref r), some (V.ref rb), some (V.ref rr), y3', some (V.int (pd : Int)), some (V.int (n : Int))][1]? = some (some v) ∧ True := fun _ => ⟨_, rfl, trivial⟩
      cases n with
      | zero =>
        refine iteF ?_
        have hs0 : s = 0 := by omega
        subst hs0
        refine ⟨_, rfl, _, rfl, _, rfl, rb, _, rfl, hB2, fun t1 ht1 => ?_⟩
        rw [cut_hi bs 0 (Nat.zero_le _)]
        have s3 := s2.trans (same_new (o := .lst ((bs.take 0).map V.bl)) ht1)
        have e3 : (upd H2 t1 (.lst ((bs.take 0).map V.bl))) t1 = some (.lst ((bs.take 0).map V.bl)) := upd_same
        generalize upd H2 t1 (.lst ((bs.take 0).map V.bl)) = H3 at s3 e3 ⊢
        refine ⟨t1, _, rfl, .inl ⟨.inl (.inl e3), fun t2 ht2 => ?_⟩⟩
        have s4 := s3.trans (same_new (o := .tup ((bs.take 0).map V.bl)) ht2)
        have e4 : (upd H3 t2 (.tup ((bs.take 0).map V.bl))) t2 = some (.tup ((bs.take 0).map V.bl)) := upd_same
        generalize upd H3 t2 (.tup ((bs.take 0).map V.bl)) = H4 at s4 e4 ⊢
        refine ⟨_, rfl, _, rfl, _, rfl, rr, _, rfl, s4.seq hR, fun t3 ht3 => ?_⟩
        rw [cut_hi rs pd hpl]
        have s5 := same_new (o := .lst ((rs.take pd).map V.bl)) ht3
        have e5 : (upd H4 t3 (.lst ((rs.take pd).map V.bl))) t3 = some (.lst ((rs.take pd).map V.bl)) := upd_same
        generalize upd H4 t3 (.lst ((rs.take pd).map V.bl)) = H5 at s5 e5 ⊢
        refine ⟨t3, _, rfl, .inl ⟨.inl (.inl e5), fun t4 ht4 => ?_⟩⟩
        have s6 := s5.trans (same_new (o := .tup ((rs.take pd).map V.bl)) ht4)
        have e6 : (upd H5 t4 (.tup ((rs.take pd).map V.bl))) t4 = some (.tup ((rs.take pd).map V.bl)) := upd_same
        generalize upd H5 t4 (.tup ((rs.take pd).map V.bl)) = H6 at s6 e6 ⊢
        refine ⟨by show 2 ≤ sizeLine; decide, fun t5 ht5 => ?_⟩
        have s7 := same_new (o := .tup [.ref t2, .ref t4]) ht5
        exact q t5 t2 t4 _ (s4.trans (s6.trans s7)) upd_same (s7 _ _ (s6 _ _ e4)) (s7 _ _ e6)
      | succ k =>
        rw [decide_eq_true (show (0 : Int) < ((k + 1 : Nat) : Int) by omega)]
        have ek : ((k + 1 : Nat) : Int) - 1 = (k : Int) := by omega
        have hk0 : k < bs.length := by omega
        refine iteT ⟨_, rfl, _, rfl, _, _, rfl, rfl, ?_⟩
        dsimp only
        rw [ek]
        refine ix_bls (.inl hB2) (by omega) (by omega) ⟨_, rfl, _, rfl, _, _, rfl, rfl, .inl ⟨_, rfl, _, rfl, _, _, rfl, rfl, by omega, ?_⟩⟩
        rw [ek]
        have em : ((k : Int) % (pd : Int)).toNat = k % pd := by rw [← Int.natCast_emod]; rfl
        have g0 := Int.emod_nonneg (k : Int) (show (pd : Int) ≠ 0 by omega)
        have g1 := Int.emod_lt_of_pos (k : Int) (show (0 : Int) < (pd : Int) by omega)
        refine ix_bls (.inl hR2) g0 (by omega) ⟨rfl, _, rfl, ?_⟩
        rw [em, led_mod hc.per hc.m1 hpl]
        have en : ((k : Nat) : Int).toNat = k := rfl
        rw [en]
        by_cases hx : bs.getD k false = led rs k
        · rw [decide_eq_true (congrArg V.bl hx)]
          have hsk : s ≤ k := by
            rcases Nat.lt_or_ge k s with z | z
            · rcases hc.start.2.2 with w | w
              · omega
              · have : s - 1 = k := by omega
                rw [this] at w
                exact absurd hx w
            · exact z
          refine iteT ⟨fun σ H' => Same H H' ∧ ∃ y3 : Option V, σ = [some (.ref r), some (.ref rb), some (.ref rr), y3, some (.int (pd : Int)), some (.int (k : Int))], fun σ' H' ⟨e1, y, e2⟩ => ⟨k, Nat.lt_succ_self k, e1, y, e2, hsk, by omega⟩, _, rfl, _, _, rfl, rfl, s2, y3', ?_⟩
          show [some (V.ref r), some (V.ref rb), some (V.ref rr), y3', some (V.int (pd : Int)), some (V.int (((k + 1 : Nat) : Int) - 1))] = _
          rw [ek]
        · rw [decide_eq_false (fun z => hx (by injection z))]
          have hsk : s = k + 1 := by
            rcases Nat.lt_or_ge k s with z | z
            · omega
            · exact absurd (hc.start.2.1 k z hk0) hx
          refine iteF ?_
          subst hsk
          refine ⟨_, rfl, _, rfl, _, rfl, rb, _, rfl, hB2, fun t1 ht1 => ?_⟩
          rw [cut_hi bs (k + 1) hn2]
          have s3 := s2.trans (same_new (o := .lst ((bs.take (k + 1)).map V.bl)) ht1)
          have e3 : (upd H2 t1 (.lst ((bs.take (k + 1)).map V.bl))) t1 = some (.lst ((bs.take (k + 1)).map V.bl)) := upd_same
          generalize upd H2 t1 (.lst ((bs.take (k + 1)).map V.bl)) = H3 at s3 e3 ⊢
          refine ⟨t1, _, rfl, .inl ⟨.inl (.inl e3), fun t2 ht2 => ?_⟩⟩
          have s4 := s3.trans (same_new (o := .tup ((bs.take (k + 1)).map V.bl)) ht2)
          have e4 : (upd H3 t2 (.tup ((bs.take (k + 1)).map V.bl))) t2 = some (.tup ((bs.take (k + 1)).map V.bl)) := upd_same
          generalize upd H3 t2 (.tup ((bs.take (k + 1)).map V.bl)) = H4 at s4 e4 ⊢
          refine ⟨_, rfl, _, rfl, _, rfl, rr, _, rfl, s4.seq hR, fun t3 ht3 => ?_⟩
          rw [cut_hi rs pd hpl]
          have s5 := same_new (o := .lst ((rs.take pd).map V.bl)) ht3
          have e5 : (upd H4 t3 (.lst ((rs.take pd).map V.bl))) t3 = some (.lst ((rs.take pd).map V.bl)) := upd_same
          generalize upd H4 t3 (.lst ((rs.take pd).map V.bl)) = H5 at s5 e5 ⊢
          refine ⟨t3, _, rfl, .inl ⟨.inl (.inl e5), fun t4 ht4 => ?_⟩⟩
          have s6 := s5.trans (same_new (o := .tup ((rs.take pd).map V.bl)) ht4)
          have e6 : (upd H5 t4 (.tup ((rs.take pd).map V.bl))) t4 = some (.tup ((rs.take pd).map V.bl)) := upd_same
          generalize upd H5 t4 (.tup ((rs.take pd).map V.bl)) = H6 at s6 e6 ⊢
          refine ⟨by show 2 ≤ sizeLine; decide, fun t5 ht5 => ?_⟩
          have s7 := same_new (o := .tup [.ref t2, .ref t4]) ht5
          exact q t5 t2 t4 _ (s4.trans (s6.trans s7)) upd_same (s7 _ _ (s6 _ _ e4)) (s7 _ _ e6)
end
end Ef
set_option Elab.async false
set_option linter.all false
set_option maxRecDepth 100000
set_option maxHeartbeats 4000000
namespace Ef
open PySem PySem.Spec PyProof.Rows L2
/-- the truth at n of the set told by bs and rs -/
def ftr (bs rs : List Bool) (n : Nat) : Bool := if n < bs.length then bs.getD n false else led rs n
theorem mtruth_ftr (bs rs : List Bool) (n : Nat) : mtruth bs rs (n : Int) = ftr bs rs n := by
  unfold mtruth ftr led
  by_cases h : n < bs.length
  · rw [if_pos h, if_pos (by omega)]; rfl
  · rw [if_neg h, if_neg (by omega), ← Int.natCast_emod]; rfl
theorem led_take {rs : List Bool} {m : Nat} (hp : PerF (led rs) m) (h1 : 1 ≤ m) (hl : m ≤ rs.length) (n : Nat) : led (rs.take m) n = led rs n := by
  rw [← led_mod hp h1 hl]
  unfold led
  rw [List.length_take, Nat.min_eq_left hl, List.getD_eq_getElem?_getD, List.getElem?_take_of_lt (Nat.mod_lt _ h1), ← List.getD_eq_getElem?_getD]
theorem led_of_ftr {bs rs bs' rs' : List Bool} (hr : 1 ≤ rs.length) (hr' : 1 ≤ rs'.length) (h : ∀ n, ftr bs rs n = ftr bs' rs' n) (n : Nat) : led rs n = led rs' n := by
  have hB : bs.length + bs'.length ≤ rs.length * (rs'.length * (bs.length + bs'.length)) := Nat.le_trans (Nat.le_mul_of_pos_left _ hr') (Nat.le_mul_of_pos_left _ hr)
  have hk := h (n + rs.length * (rs'.length * (bs.length + bs'.length)))
  unfold ftr at hk
  rw [if_neg (by omega), if_neg (by omega), (led_self rs).mul _ n] at hk
  rw [hk, Nat.mul_left_comm, (led_self rs').mul _ n]
theorem Canon.tail {bs rs : List Bool} {m s n : Nat} (h : Canon bs rs m s) (hn : s ≤ n) : ftr bs rs n = led rs n := by
  unfold ftr
  split
  · exact h.start.2.1 n hn ‹_›
  · rfl
theorem Canon.edge {bs rs : List Bool} {m s : Nat} (h : Canon bs rs m s) (hs : 0 < s) : ftr bs rs (s - 1) ≠ led rs (s - 1) := by
  have h1 := h.start.1
  unfold ftr
  rw [if_pos (by omega)]
  rcases h.start.2.2 with z | z
  · omega
  · exact z
theorem Canon.ml {bs rs : List Bool} {m s : Nat} (hr : 1 ≤ rs.length) (h : Canon bs rs m s) : m ≤ rs.length := Nat.le_of_dvd (by omega) h.dvd
theorem get_ftr {bs rs : List Bool} {i : Nat} (h : i < bs.length) : bs[i]? = some (ftr bs rs i) := by
  unfold ftr
  rw [if_pos h, List.getD_eq_getElem?_getD, List.getElem?_eq_getElem h]
  rfl
theorem StartOk.uniq {bs rs : List Bool} {s s' : Nat} (h : StartOk bs rs s) (h' : StartOk bs rs s') : s = s' := by
  obtain ⟨a1, a2, a3⟩ := h
  obtain ⟨b1, b2, b3⟩ := h'
  rcases Nat.lt_trichotomy s s' with z | z | z
  · rcases b3 with w | w
    · omega
    · exact absurd (a2 (s' - 1) (by omega) (by omega)) w
  · exact z
  · rcases a3 with w | w
    · omega
    · exact absurd (b2 (s - 1) (by omega) (by omega)) w
/-- the least data of one set are alike -/
theorem canon_ext {bs rs bs' rs' : List Bool} {m s m' s' : Nat} (hr : 1 ≤ rs.length) (hr' : 1 ≤ rs'.length) (hc : Canon bs rs m s) (hc' : Canon bs' rs' m' s') (h : ∀ n, ftr bs rs n = ftr bs' rs' n) : m = m' ∧ s = s' ∧ rs.take m = rs'.take m' ∧ bs.take s = bs'.take s' := by
  have hl := led_of_ftr hr hr' h
  have he : led rs = led rs' := funext hl
  have hm : m = m' := Nat.dvd_antisymm (hc.least m' (by rw [he]; exact hc'.per)) (hc'.least m (by rw [← he]; exact hc.per))
  subst hm
  have hs : s = s' := by
    rcases Nat.lt_trichotomy s s' with z | z | z
    · refine absurd ?_ (hc'.edge (by omega))
      rw [← h, hc.tail (by omega), hl]
    · exact z
    · refine absurd ?_ (hc.edge (by omega))
      rw [h, hc'.tail (by omega), hl]
  subst hs
  have a1 := hc.ml hr
  have a2 := hc'.ml hr'
  have b1 := hc.start.1
  have b2 := hc'.start.1
  refine ⟨rfl, rfl, List.ext_getElem? fun i => ?_, List.ext_getElem? fun i => ?_⟩
  · rcases Nat.lt_or_ge i m with z | z
    · rw [List.getElem?_take_of_lt z, List.getElem?_take_of_lt z, led_lt (by omega), led_lt (by omega), hl]
    · rw [List.getElem?_eq_none (by rw [List.length_take]; omega), List.getElem?_eq_none (by rw [List.length_take]; omega)]
  · rcases Nat.lt_or_ge i s with z | z
    · rw [List.getElem?_take_of_lt z, List.getElem?_take_of_lt z, get_ftr (rs := rs) (by omega), get_ftr (rs := rs') (by omega), h]
    · rw [List.getElem?_eq_none (by rw [List.length_take]; omega), List.getElem?_eq_none (by rw [List.length_take]; omega)]
/-- like data tell one set -/
theorem canon_fn {bs rs bs' rs' : List Bool} {m s m' s' : Nat} (hr : 1 ≤ rs.length) (hr' : 1 ≤ rs'.length) (hc : Canon bs rs m s) (hc' : Canon bs' rs' m' s') (e1 : rs.take m = rs'.take m') (e2 : bs.take s = bs'.take s') (n : Nat) : ftr bs rs n = ftr bs' rs' n := by
  have a1 := hc.ml hr
  have a2 := hc'.ml hr'
  have b1 := hc.start.1
  have b2 := hc'.start.1
  have hm : m = m' := by
    have := congrArg List.length e1
    rw [List.length_take, List.length_take] at this
    omega
  have hs : s = s' := by
    have := congrArg List.length e2
    rw [List.length_take, List.length_take] at this
    omega
  subst hm
  subst hs
  rcases Nat.lt_or_ge n s with z | z
  · have := congrArg (fun l => l[n]?) e2
    rw [List.getElem?_take_of_lt z, List.getElem?_take_of_lt z, get_ftr (rs := rs) (by omega), get_ftr (rs := rs') (by omega)] at this
    exact Option.some.inj this
  · rw [hc.tail z, hc'.tail z, ← led_take hc.per hc.m1 a1, ← led_take hc'.per hc'.m1 a2, e1]
/-- more rounds tell the same -/
theorem led_rep {rs : List Bool} (hr : 1 ≤ rs.length) {k : Nat} (hk : 1 ≤ k) (n : Nat) : led (List.replicate k rs).flatten n = led rs n := by
  have hlt : n % (rs.length * k) < rs.length * k := Nat.mod_lt _ (Nat.mul_pos hr hk)
  show (List.replicate k rs).flatten.getD (n % (List.replicate k rs).flatten.length) false = rs.getD (n % rs.length) false
  rw [rep_len, List.getD_eq_getElem?_getD, rep_get rs hr k _ hlt, Nat.mod_mul_right_mod, ← List.getD_eq_getElem?_getD]
end Ef
set_option Elab.async false
set_option linter.all false
set_option maxRecDepth 100000
set_option maxHeartbeats 2000000
/-! in, not, bool(..) by a class's own methods; a class that a local name holds, called -/
namespace Ef
open PySem PySem.Spec PyProof.Rows L2
/-- the class at C has its own method m: the def at f, which keeps sp -/
structure Own (P : Program) (w : World) (K : PySem.W.Frag) (mg : Str → Option Value) (base : Heap) (k : Nat) (C : Addr) (m : Str) (ps : List Str) (sp : Sp) : Prop where
  ex : ∃ f fd, PySem.W.findIn K (.ref C) m = some (some (.ref f)) ∧ PySem.W.isFn K (.ref f) = true ∧ PySem.W.typeIn K (.ref f) = some (.type "function") ∧ PySem.W.keepIn K (.ref f) = true ∧ Binds K fd ps [] ∧ FnOk P w K mg base CX0 k f fd ps sp
section
variable {X : Cx} {pins : List (Addr × Obj)} {σ : L2.St} {H : Hp} {s : Shared} {Q : VK} {k : Nat} {C a dx : Addr} {fs : List (Str × V)} {m : Str} {ps : List Str} {sp : Sp} {A : Around} {E' : Value → Shared → Prop}
/-- the call of a def from below the body that runs -/
theorem run_low {f : Addr} {fd : FuncData} {us : List Value} {vs : List V} (F : FnOk X.prog X.w X.K X.mg X.base CX0 k f fd ps sp) (hr : Room k A) (hfr : A.frames = X.A.frames) (hb : Binds X.K fd ps []) (I : Inv X pins σ H s) (r : Vals vs us) (h : sp vs H Q E0) :
    wpAny (model X.prog X.w) A (call (.ref f) us) (EP X pins σ Q) E' s := by
  have e0 : Env0 X.prog X.w X.K X.mg X.base A X.stack s H := by
    have e := I.env0
    exact ⟨hfr.trans e.frames, e.mod, e.bs, e.bsz, e.funs, e.frf, e.hok, e.bare⟩
  have hl : (us ++ []).length = ps.length := by rw [List.append_nil, ← r.length]; exact F.len _ _ _ _ h
  have hbt := hb s us I.kIn hl
  rw [List.append_nil] at hbt
  refine wpAny_call (codeAny_mono (F.run A X.stack s H ⟨us, []⟩ us vs Q E0 hr e0 hbt r h) fun res s' hq => ?_)
  cases res with
  | error e => exact False.elim hq
  | ok fl =>
    cases fl with
    | ret u => exact I.after hq
    | next => exact False.elim hq
    | brk => exact False.elim hq
    | cont => exact False.elim hq
/-- callSpecial? of such a method -/
theorem own_special {args : List Value} {vs : List V} {R : Option Value → Shared → Prop} (O : Own X.prog X.w X.K X.mg X.base k C m ps sp) (hr : Room k A) (hfr : A.frames = X.A.frames) (I : Inv X pins σ H s) (ea : H a = some (.ins C dx fs)) (r : Vals vs args)
    (h : sp (.ref a :: vs) H Q E0) (hR : ∀ u s', EP X pins σ Q u s' → R (some u) s') : wpAny (model X.prog X.w) A (callSpecial? (.ref a) m args) R E' s := by
  obtain ⟨f, fd, hf, hi, ht, hk, hb, F⟩ := O.ex
  obtain ⟨mA, OM, _⟩ := ins_get I.hok ea
  obtain ⟨od, J, _⟩ := OM.look
  refine PySem.W.special_fn I.kIn J hf ht ?_
  exact wpAny_mono (run_low (us := .ref a :: args) (vs := .ref a :: vs) F hr hfr hb I (.cons rfl r) h) (fun u s' z => hR u s' z) fun _ _ z => z
theorem own_unless {args : List Value} {vs : List V} {refuse : Sem Value} {R : Option Value → Shared → Prop} (O : Own X.prog X.w X.K X.mg X.base k C m ps sp) (hr : Room k A) (hfr : A.frames = X.A.frames) (I : Inv X pins σ H s) (ea : H a = some (.ins C dx fs)) (r : Vals vs args)
    (h : sp (.ref a :: vs) H Q E0) (hR : ∀ u s', EP X pins σ Q u s' → R (some u) s') : wpAny (model X.prog X.w) A (callSpecialUnlessNone? (.ref a) m args refuse) R E' s := by
  obtain ⟨f, fd, hf, hi, ht, hk, hb, F⟩ := O.ex
  obtain ⟨mA, OM, _⟩ := ins_get I.hok ea
  obtain ⟨od, J, _⟩ := OM.look
  unfold callSpecialUnlessNone? specialOf
  refine wpAny_bind (wpAny_bind (J.type.here ((PySem.W.looks_findIn I.kIn hf).here ?_)))
  refine wpAny_holding (wpAny_bind ((PySem.W.bind_fn I.kIn _ ht).here ?_))
  show wpAny _ _ (if (Value.ref f == Value.none) = true then _ else _) _ _ _
  rw [if_neg (show ¬ ((Value.ref f == Value.none) = true) from Bool.false_ne_true)]
  refine wpAny_bind (wpAny_mono (run_low (us := .ref a :: args) (vs := .ref a :: vs) F hr hfr hb I (.cons rfl r) h) (fun u s' z => wpAny_pure (hR u s' z)) fun _ _ z => z)
/-- x in o, x not in o, by o's own __contains__ -/
def rOwnIn (C : Addr) (sp : Sp) (neg : Bool) : R2 := fun x y H Q => ∃ (a dx : Addr) (fs : List (Str × V)), y = .ref a ∧ H a = some (.ins C dx fs) ∧ sp [.ref a, x] H (fun v H' => ∃ b, v = .bl b ∧ Q (.bl (if neg = true then !b else b)) H') E0
theorem contains_own {x : V} {u : Value} {R : Bool → Shared → Prop} {Qb : Bool → Hp → Prop} (O : Own X.prog X.w X.K X.mg X.base k C "__contains__" ps sp) (hr : Room k A) (hfr : A.frames = X.A.frames) (I : Inv X pins σ H s) (ea : H a = some (.ins C dx fs)) (r : RelV x u)
    (h : sp [.ref a, x] H (fun v H' => ∃ b, v = .bl b ∧ Qb b H') E0) (hR : ∀ b H' s', Inv X pins σ H' s' → Qb b H' → R b s') : wpAny (model X.prog X.w) A (contains (.ref a) u) R E' s := by
  obtain ⟨f, fd, hf, _⟩ := id O.ex
  obtain ⟨mA, OM, _⟩ := ins_get I.hok ea
  obtain ⟨od, J, _⟩ := OM.look
  unfold contains
  refine wpAny_holding ?_
  have e1 : stdlibNamesSay? (.ref a) u = none := by cases u <;> rfl
  rw [e1]
  dsimp only
  refine wpAny_bind ?_
  unfold specialOf
  refine wpAny_bind (J.type.here ((PySem.W.looks_findIn I.kIn hf).here ?_))
  show wpAny _ _ (if (some (Value.ref f) == some Value.none) = true then _ else _) _ _ _
  rw [if_neg (show ¬ ((some (Value.ref f) == some Value.none) = true) from Bool.false_ne_true)]
  refine wpAny_bind (own_unless (vs := [x]) O hr hfr I ea (.cons r .nil) h fun w' s' hz => ?_)
  obtain ⟨v, H', I', rv, b, rfl, q⟩ := hz
  cases rv
  exact wpAny_truthy_bool (hR b H' s' I' q)
theorem op_in_own (O : Own X.prog X.w X.K X.mg X.base k C "__contains__" ps sp) (hr : Room k X.A) : OpR X (compareOp .In) (rOwnIn C sp false) := by
  intro pins s σ H x y v u Q I rx ry h
  obtain ⟨a, dx, fs, rfl, ea, q⟩ := h
  cases ry
  show wpAny _ _ (contains (.ref a) v >>= fun z => pure (Value.bool z)) _ _ _
  exact wpAny_bind (contains_own O hr rfl I ea rx q fun b H' s' I' z => wpAny_pure ⟨.bl b, H', I', rfl, z⟩)
theorem op_notin_own (O : Own X.prog X.w X.K X.mg X.base k C "__contains__" ps sp) (hr : Room k X.A) : OpR X (compareOp .NotIn) (rOwnIn C sp true) := by
  intro pins s σ H x y v u Q I rx ry h
  obtain ⟨a, dx, fs, rfl, ea, q⟩ := h
  cases ry
  show wpAny _ _ (contains (.ref a) v >>= fun z => pure (Value.bool (!z))) _ _ _
  exact wpAny_bind (contains_own O hr rfl I ea rx q fun b H' s' I' z => wpAny_pure ⟨.bl (!b), H', I', rfl, z⟩)
/-- truth by an own __bool__ -/
theorem truthy_own {R : Bool → Shared → Prop} {Qb : Bool → Hp → Prop} (O : Own X.prog X.w X.K X.mg X.base k C "__bool__" ps sp) (hr : Room k A) (hfr : A.frames = X.A.frames) (I : Inv X pins σ H s) (ea : H a = some (.ins C dx fs))
    (h : sp [.ref a] H (fun v H' => ∃ b, v = .bl b ∧ Qb b H') E0) (hR : ∀ b H' s', Inv X pins σ H' s' → Qb b H' → R b s') : wpAny (model X.prog X.w) A (truthy (.ref a)) R E' s := by
  unfold truthy
  refine wpAny_bind (own_special (vs := []) (args := []) O hr hfr I ea .nil h fun w' s' hz => ?_)
  obtain ⟨v, H', I', rv, b, rfl, q⟩ := hz
  cases rv
  exact wpAny_pure (hR b H' s' I' q)
def rOwnTr (C : Addr) (sp : Sp) : V → Hp → (Bool → Hp → Prop) → Prop := fun x H Q => ∃ (a dx : Addr) (fs : List (Str × V)), x = .ref a ∧ H a = some (.ins C dx fs) ∧ sp [.ref a] H (fun v H' => ∃ b, v = .bl b ∧ Q b H') E0
/-- not o -/
theorem un_not_own (O : Own X.prog X.w X.K X.mg X.base k C "__bool__" ps sp) (hr : Room k X.A) : UnR X (unaryOp .Not) (fun x H Q => rOwnTr C sp x H fun b H' => Q (.bl (!b)) H') := by
  intro pins s σ H x v Q I rx h
  obtain ⟨a, dx, fs, rfl, ea, q⟩ := h
  cases rx
  unfold unaryOp
  refine wpAny_holding ?_
  show wpAny _ _ (truthy (.ref a) >>= fun z => pure (Value.bool (!z))) _ _ _
  exact wpAny_bind (truthy_own O hr rfl I ea q fun b H' s' I' z => wpAny_pure ⟨.bl (!b), H', I', rfl, z⟩)
theorem mono_truthy {M : Model} {E1 : Value → Shared → Prop} {x : Value} {R R' : Bool → Shared → Prop} (h : wpAny M A (truthy x) R E1 s) (hR : ∀ b s', R b s' → R' b s') : wpAny M A (truthy x) R' E1 s := wpAny_mono h (fun b s' z => hR b s' z) fun _ _ z => z
theorem bool_new_in (prog : Program) (w : World) (a : Addr) : MeetsIn prog w (Builtin.«bool.__new__» ⟨[.type "bool", .ref a], []⟩)
    (fun A R s => wpAny (model prog w) A.in1 (truthy (.ref a)) (fun b s' => R (.ok (.ret (.bool b))) s') (fun e s' => R (.error e) s') s) :=
  MeetsIn.of_wp fun A R s hs => by
    have f1 := F.conv_sub_bool
    repeat (any_goals (first | (with_reducible refine mono_truthy hs fun b s' hz => ?_) | wp_step))
    all_goals first | exact ⟨_, rfl, by assumption⟩ | skip
/-- bool(o) -/
theorem call_bool_own (O : Own X.prog X.w X.K X.mg X.base k C "__bool__" ps sp) (hr : Room (k + 2) X.A) : CallR X (.type "bool") (fun xs H Q => ∃ x, xs = [x] ∧ rOwnTr C sp x H fun b H' => Q (.bl b) H') := by
  intro pins s σ H xs us Q I r h
  obtain ⟨x, rfl, a, dx, fs, rfl, ea, q⟩ := h
  obtain rfl := Vals.ref1 r
  refine callType_newIn F.called_bool F.newNe_bool (F.typeCall_bool_1 _) (F.newCall_bool_1 _) (fun obj => F.args_object_init_2 obj _) F.entry_bool_new (bool_new_in X.prog X.w a) ?_
  exact truthy_own O hr.in1.in1 rfl I ea q fun b H' s' I' z => ⟨rfl, .bl b, H', I', rfl, z⟩
/-- C(e, ..) by a local name that holds the class -/
def tMakeL (i : Nat) (C : Addr) (sp : Sp) (t : TA) : TE := fun σ H Q => σ[i]? = some (some (.ref C)) ∧ tMake C sp [] E0 t σ H Q
theorem pe_makeL {f : Addr} {fd : FuncData} {i : Nat} {x : Str} {p pos : Pos} {e : Expr} {es : List Expr} {t : TA} (M : Mk X.K C f) (F : FnOk X.prog X.w X.K X.mg X.base CX0 k f fd ps sp) (hr : Room (k + 1) X.A) (hb : Binds X.K fd ps []) (ha : PA X (e :: es) t)
    (hN : X.N[i]? = some x := by rfl) (hv : Vis X.env.scope x := by first | exact Or.inl rfl | exact Or.inr (Or.inl rfl) | exact Or.inr (Or.inr rfl))
    (hdb : (x == ("__debug__" : Str)) = false := by decide) (hcd : (x == ("__classdict__" : Str)) = false := by decide)
    (hst : starEach (e :: es) X.env = (false, eval e X.env) :: starEach es X.env := by rfl) (hpl : (backTo pos (starEach es X.env)).any (·.1) = false := by rfl) : PE X (.Call (.Name x p) (e :: es) [] pos) (tMakeL i C sp t) := by
  refine ⟨fun pins s σ H Q I h => ?_⟩
  obtain ⟨hs, ht⟩ := h
  have hx := pe_var (X := X) (pos := p) hN hv hdb hcd
  refine wpAny_Call_Name_kw (thn (hx.run pins s σ H (fun v H1 => v = .ref C ∧ H1 = H) I ⟨.ref C, hs, rfl, rfl⟩) fun u s1 ⟨v, H1, I1, r1, q1⟩ => ?_)
  obtain ⟨rfl, rfl⟩ := q1
  cases r1
  exact PySem.W.callWith_K (h₀ := X.base) I.ok.mod.kin M.kp (thn (ha.run pos pins s1 σ _ _ I1 ht) fun us s2 ⟨vs, H2, I2, r, q⟩ => ⟨I2.kIn, run_make M F hr hb .nil pass0 I2 r q⟩) hst hpl
end
end Ef
set_option Elab.async false
set_option linter.all false
set_option maxRecDepth 100000
set_option maxHeartbeats 2000000
/-! comparisons by a class's own methods -/
namespace Ef
open PySem PySem.Spec PyProof.Rows L2
section
variable {X : Cx} {pins : List (Addr × Obj)} {σ : L2.St} {H : Hp} {s : Shared} {Q : VK} {k : Nat} {C a dx : Addr} {fs : List (Str × V)} {m : Str} {ps : List Str} {sp : Sp} {A : Around} {E' : Value → Shared → Prop}
/-- a slot of the class that holds a def: its call as a special one -/
theorem own_ifBoundT {args : List Value} {vs : List V} {R : Option Value → Shared → Prop} (O : Own X.prog X.w X.K X.mg X.base k C m ps sp) (hr : Room k A) (hfr : A.frames = X.A.frames) (I : Inv X pins σ H s) (ea : H a = some (.ins C dx fs)) (r : Vals vs args)
    (h : sp (.ref a :: vs) H Q E0) (hR : ∀ u s', EP X pins σ Q u s' → R (some u) s') : wpAny (model X.prog X.w) A (callSpecialIfBound? (.ref a) m args) R E' s := by
  obtain ⟨f, fd, hf, hi, ht, hk, hb, F⟩ := O.ex
  obtain ⟨mA, OM, _⟩ := ins_get I.hok ea
  obtain ⟨od, J, _⟩ := OM.look
  exact PySem.W.ifBound_K I.kIn J hf hi (wpAny_mono (run_low (us := .ref a :: args) (vs := .ref a :: vs) F hr hfr hb I (.cons rfl r) h) (fun u s' z => hR u s' z) fun _ _ z => z)
/-- what stands on the other side: of the same class, or a value of a built-in type -/
def SideT (K : PySem.W.Frag) (C : Addr) (H : Hp) (y : V) : Prop := (∃ b dx fs, y = .ref b ∧ H b = some (.ins C dx fs)) ∨ (∃ b xs, y = .ref b ∧ H b = some (.lst xs)) ∨ (∃ b xs, y = .ref b ∧ H b = some (.tup xs))
/-- its type, and whether that is below the class -/
theorem side_typeT {y : V} {u : Value} {M : Model} (I : Inv X pins σ H s) (r : RelV y u) (h : SideT X.K C H y) (hsub : (PySem.W.subIn X.K (.type "list") (.ref C) = some false ∧ PySem.W.subIn X.K (.type "tuple") (.ref C) = some false)) : ∃ t : Value, PySem.W.Looks M s.heap (typeOf u) t ∧ ((t = .ref C) ∨ ((t != .ref C) = true ∧ PySem.W.Looks M s.heap (isSubtype t (.ref C)) false)) := by
  rcases h with ⟨b, dx, fs, rfl, e⟩ | ⟨b, xs, rfl, e⟩ | ⟨b, xs, rfl, e⟩
  · cases r
    obtain ⟨mA, OM, _⟩ := ins_get I.hok e
    obtain ⟨od, J, _⟩ := OM.look
    exact ⟨.ref C, J.type, .inl rfl⟩
  · cases r
    obtain ⟨its, _, ht, _⟩ := I.list (.inl (.inl e))
    obtain ⟨o, ho, hc, _⟩ := ht.isList
    exact ⟨.type "list", fun A Q E s k q => wpAny_typeOf_ref (k b o ho) (by rw [hc]; exact q), .inr ⟨rfl, PySem.W.looks_subIn I.kIn hsub.1⟩⟩
  · cases r
    obtain ⟨_, _, _, o, ho, hc, _⟩ := (show ObjOk X.prog X.w H s.heap b (.tup xs) from I.hok b _ e)
    exact ⟨.type "tuple", fun A Q E s k q => wpAny_typeOf_ref (k b o ho) (by rw [hc]; exact q), .inr ⟨rfl, PySem.W.looks_subIn I.kIn hsub.2⟩⟩
def rOwnCmpT (C : Addr) (sp : Sp) (K : PySem.W.Frag) (neg : Bool) : R2 := fun x y H Q => ∃ (a dx : Addr) (fs : List (Str × V)), x = .ref a ∧ H a = some (.ins C dx fs) ∧ SideT K C H y ∧ sp [.ref a, y] H (fun v H' => ∃ b, v = .bl b ∧ Q (.bl (if neg = true then !b else b)) H') E0
/-- a op y by the left one's own method -/
theorem rich_ownT {op : CmpOp} {sym : String} {f r : Str} {y : V} {u : Value} {R : Value → Shared → Prop} {Qb : Bool → Hp → Prop} (hop : cmpInfo op = (sym, f, r)) (O : Own X.prog X.w X.K X.mg X.base k C f ps sp) (hr : Room k A) (hfr : A.frames = X.A.frames) (hsub : (PySem.W.subIn X.K (.type "list") (.ref C) = some false ∧ PySem.W.subIn X.K (.type "tuple") (.ref C) = some false))
    (I : Inv X pins σ H s) (ea : H a = some (.ins C dx fs)) (ry : RelV y u) (hs : SideT X.K C H y) (h : sp [.ref a, y] H (fun v H' => ∃ b, v = .bl b ∧ Qb b H') E0) (hR : ∀ b H' s', Inv X pins σ H' s' → Qb b H' → R (.bool b) s') :
    wpAny (model X.prog X.w) A (richCompare op (.ref a) u) R E' s := by
  obtain ⟨mA, OM, _⟩ := ins_get I.hok ea
  obtain ⟨od, J, _⟩ := OM.look
  obtain ⟨t, Lt, ht⟩ := side_typeT (M := model X.prog X.w) I ry hs hsub
  have fin : wpAny (model X.prog X.w) A (tryCompare (.ref a) f u) (fun o s' => ∃ b H', o = some (.bool b) ∧ Inv X pins σ H' s' ∧ Qb b H') E' s := by
    unfold tryCompare
    refine wpAny_bind (own_ifBoundT (vs := [y]) O hr hfr I ea (.cons ry .nil) h fun w' s' hz => ?_)
    obtain ⟨v, H', I', rv, b, rfl, q⟩ := hz
    cases rv
    exact wpAny_pure ⟨b, H', rfl, I', q⟩
  unfold richCompare
  refine wpAny_holding (wpAny_bind (wpAny_cRoomFor (by have := hr.un; omega) ?_))
  rw [oneThing_ref]
  dsimp only
  rw [hop]
  dsimp only
  refine wpAny_bind (J.type.here (wpAny_bind (Lt.here ?_)))
  rcases ht with rfl | ⟨hne, Ls⟩
  · rw [if_neg (by simp)]
    refine wpAny_bind (wpAny_pure ?_)
    rw [if_neg (by decide)]
    refine wpAny_bind (wpAny_mono fin (fun o s' ⟨b, H', e, I', q⟩ => ?_) fun _ _ z => z)
    subst e
    exact wpAny_pure (hR b H' s' I' q)
  · have hne' : (Value.ref C != t) = true := by
      rw [bne_iff_ne] at hne ⊢
      exact fun z => hne z.symm
    rw [if_pos hne']
    refine wpAny_bind (Ls.here ?_)
    rw [if_neg (by decide)]
    refine wpAny_bind (wpAny_mono fin (fun o s' ⟨b, H', e, I', q⟩ => ?_) fun _ _ z => z)
    subst e
    exact wpAny_pure (hR b H' s' I' q)
/-- a op b by the left one's own method -/
theorem op_ownT {op : CmpOp} {sym : String} {f r : Str} (hop : cmpInfo op = (sym, f, r)) (hc : compareOp op = richCompare op) (O : Own X.prog X.w X.K X.mg X.base k C f ps sp) (hr : Room k X.A) (hsub : (PySem.W.subIn X.K (.type "list") (.ref C) = some false ∧ PySem.W.subIn X.K (.type "tuple") (.ref C) = some false)) : OpR X (compareOp op) (rOwnCmpT C sp X.K false) := by
  intro pins s σ H x y v u Q I rx ry h
  obtain ⟨a, dx, fs, rfl, ea, hs, q⟩ := h
  cases rx
  rw [hc]
  exact rich_ownT hop O hr rfl hsub I ea ry hs q fun b H' s' I' z => ⟨.bl b, H', I', rfl, z⟩
/-- a != b by the left one's own __eq__, where the class has no own __ne__ -/
theorem try_neT {y : V} {u : Value} {Qb : Bool → Hp → Prop} (O : Own X.prog X.w X.K X.mg X.base k C "__eq__" ps sp) (hr : Room (k + 1) A) (hfr : A.frames = X.A.frames) (hne : PySem.W.findIn X.K (.ref C) "__ne__" = some (some (.builtin "object.__ne__"))) (hmro : PySem.W.mroIn X.K C (.type "object") = some true)
    (I : Inv X pins σ H s) (ea : H a = some (.ins C dx fs)) (ry : RelV y u) (h : sp [.ref a, y] H (fun v H' => ∃ b, v = .bl b ∧ Qb b H') E0) :
    wpAny (model X.prog X.w) A (tryCompare (.ref a) "__ne__" u) (fun o s' => ∃ b H', o = some (.bool (!b)) ∧ Inv X pins σ H' s' ∧ Qb b H') E' s := by
  obtain ⟨mA, OM, _⟩ := ins_get I.hok ea
  obtain ⟨od, J, _⟩ := OM.look
  have body : wpAny (model X.prog X.w) A.in1 (Builtin.«object.__ne__» ⟨[.ref a, u], []⟩) (fun fin s' => ∃ b H', fin = Fin.done (Flow.ret (.bool (!b))) ∧ Inv X pins σ H' s' ∧ Qb b H') E' s := by
    unfold Builtin.«object.__ne__»
    refine wpAny_bind ?_
    unfold slotArgs
    refine wpAny_ite_false rfl (wpAny_ite_false rfl (wpAny_pure ?_))
    refine wpAny_bind (wpAny_cRoomFor (by have := hr.in1.un; omega) ?_)
    refine wpAny_bind (own_ifBoundT (vs := [y]) O hr.in1 (hfr) I ea (.cons ry .nil) h fun w' s' hz => ?_)
    obtain ⟨v, H', I', rv, b, rfl, q⟩ := hz
    cases rv
    refine wpAny_bind (wpAny_truthy_bool ?_)
    exact wpAny_pure ⟨b, H', rfl, I', q⟩
  have cl : wpAny (model X.prog X.w) A (call (.builtin "object.__ne__") [.ref a, u]) (fun v s' => ∃ b H', v = .bool (!b) ∧ Inv X pins σ H' s' ∧ Qb b H') E' s := by
    refine wpAny_call (codeAny_call_builtin F.cmp_object.ne.plain F.cmpEntry_ne (PySem.W.check_slot F.cmpKind_ne F.cmpSplit_ne (PySem.W.Looks.andThen J.type (PySem.W.looks_mroIn I.kIn hmro)) (F.cmpArgs_ne (.ref a) u) (wpAny_mono body (fun fin s' ⟨b, H', e, I', q⟩ => ?_) fun _ _ z => z)))
    subst e
    exact ⟨b, H', rfl, I', q⟩
  unfold tryCompare callSpecialIfBound? bindSpecialIfBound?
  refine wpAny_bind (wpAny_holding (wpAny_bind (wpAny_bind (wpAny_bind (J.type.here ((PySem.W.looks_findIn I.kIn hne).here ?_))))))
  have fin : wpAny (model X.prog X.w) A (do let r ← call (.builtin "object.__ne__") [.ref a, u]; pure (some r)) (fun o s' => wpAny (model X.prog X.w) A (match o with | some Value.notImplemented => pure none | none => pure none | some v => pure (some v)) (fun o s' => ∃ b H', o = some (.bool (!b)) ∧ Inv X pins σ H' s' ∧ Qb b H') E' s') E' s := by
    refine wpAny_bind (wpAny_mono cl (fun v s' ⟨b, H', e, I', q⟩ => wpAny_pure ?_) fun _ _ z => z)
    subst e
    exact wpAny_pure ⟨b, H', rfl, I', q⟩
  refine wpAny_bind (wpAny_askSetting (wpAny_ite ?_))
  split
  · exact wpAny_bind (wpAny_of_eq (F.cmp_object.ne.bind (.ref a)) (wpAny_pure fin))
  · exact wpAny_tryCatch (wpAny_bind (wpAny_of_eq (F.cmp_object.ne.bind (.ref a)) (wpAny_pure fin)))
theorem op_ne_ownT (O : Own X.prog X.w X.K X.mg X.base k C "__eq__" ps sp) (hr : Room (k + 1) X.A) (hsub : (PySem.W.subIn X.K (.type "list") (.ref C) = some false ∧ PySem.W.subIn X.K (.type "tuple") (.ref C) = some false)) (hne : PySem.W.findIn X.K (.ref C) "__ne__" = some (some (.builtin "object.__ne__"))) (hmro : PySem.W.mroIn X.K C (.type "object") = some true) : OpR X (compareOp .NotEq) (rOwnCmpT C sp X.K true) := by
  intro pins s σ H x y v u Q I rx ry h
  obtain ⟨a, dx, fs, rfl, ea, hs, q⟩ := h
  cases rx
  show wpAny _ _ (richCompare .NotEq (.ref a) u) _ _ _
  obtain ⟨mA, OM, _⟩ := ins_get I.hok ea
  obtain ⟨od, J, _⟩ := OM.look
  obtain ⟨t, Lt, ht⟩ := side_typeT (M := model X.prog X.w) I ry hs hsub
  have fin := try_neT (E' := X.xe) O hr rfl hne hmro I ea ry q
  unfold richCompare
  refine wpAny_holding (wpAny_bind (wpAny_cRoomFor (by have := hr.un; omega) ?_))
  rw [oneThing_ref]
  dsimp only [cmpInfo]
  refine wpAny_bind (J.type.here (wpAny_bind (Lt.here ?_)))
  rcases ht with rfl | ⟨hne, Ls⟩
  · rw [if_neg (by simp)]
    refine wpAny_bind (wpAny_pure ?_)
    rw [if_neg (by decide)]
    refine wpAny_bind (wpAny_mono fin (fun o s' ⟨b, H', e, I', q⟩ => ?_) fun _ _ z => z)
    subst e
    exact wpAny_pure ⟨.bl (!b), H', I', rfl, q⟩
  · have hne' : (Value.ref C != t) = true := by
      rw [bne_iff_ne] at hne ⊢
      exact fun z => hne z.symm
    rw [if_pos hne']
    refine wpAny_bind (Ls.here ?_)
    rw [if_neg (by decide)]
    refine wpAny_bind (wpAny_mono fin (fun o s' ⟨b, H', e, I', q⟩ => ?_) fun _ _ z => z)
    subst e
    exact wpAny_pure ⟨.bl (!b), H', I', rfl, q⟩
end
end Ef
set_option Elab.async false
set_option linter.all false
set_option maxRecDepth 100000
set_option maxHeartbeats 4000000
namespace Ef
open PySem PySem.Spec PyProof.Rows L2
abbrev sEq : Stmt := inClass (top 20) 4
abbrev sIsw : Stmt := top 34
theorem lk_ne {f g : Str} {v : V} {fs : List (Str × V)} (h : ¬ g = f) : (putF f v fs).lookup g = fs.lookup g := by rw [lookup_putF, if_neg h]
theorem lk_eq {f : Str} {v : V} {fs : List (Str × V)} : (putF f v fs).lookup f = some v := by rw [lookup_putF, if_pos rfl]
section
variable {m s : Int} {ra ba ea la : Addr}
theorem wf_late : (wf m s ra ba ea la).lookup ("_late" : Str) = some (.ref la) := lk_eq
theorem wf_early : (wf m s ra ba ea la).lookup ("_early" : Str) = some (.ref ea) := (lk_ne (by decide +kernel)).trans lk_eq
theorem wf_below : (wf m s ra ba ea la).lookup ("below" : Str) = some (.ref ba) := (lk_ne (by decide +kernel)).trans ((lk_ne (by decide +kernel)).trans lk_eq)
theorem wf_rests : (wf m s ra ba ea la).lookup ("rests" : Str) = some (.ref ra) := (lk_ne (by decide +kernel)).trans ((lk_ne (by decide +kernel)).trans ((lk_ne (by decide +kernel)).trans lk_eq))
theorem wf_start : (wf m s ra ba ea la).lookup ("start" : Str) = some (.int s) := (lk_ne (by decide +kernel)).trans ((lk_ne (by decide +kernel)).trans ((lk_ne (by decide +kernel)).trans ((lk_ne (by decide +kernel)).trans lk_eq)))
theorem wf_period : (wf m s ra ba ea la).lookup ("period" : Str) = some (.int m) :=
  (lk_ne (by decide +kernel)).trans ((lk_ne (by decide +kernel)).trans ((lk_ne (by decide +kernel)).trans ((lk_ne (by decide +kernel)).trans ((lk_ne (by decide +kernel)).trans lk_eq))))
end
/-- what the operators ask of the class -/
structure ClsQ (K : PySem.W.Frag) (mg : Str → Option Value) (C : Addr) : Prop extends ClsW K mg C where
  cc : PySem.W.findIn K (.ref C) "__class__" = some (some (.builtin "object.__class__"))
  cg : PySem.W.specialIn K (.builtin "object.__class__") "__get__" = some (some (.builtin "getset_descriptor.__get__"))
  ct : PySem.W.takesIn K (.builtin "object.__class__") = some true
  co : PySem.W.mroIn K C (.type "object") = some true
  sl : PySem.W.subIn K (.type "list") (.ref C) = some false ∧ PySem.W.subIn K (.type "tuple") (.ref C) = some false
section
variable {P : Program} {w : World} {K : PySem.W.Frag} {mg : Str → Option Value} {base : Heap}
theorem eqv_ints : ∀ as bs : List Int, PyData.eqvAll (as.map PyData.int) (bs.map PyData.int) = decide (as = bs)
  | [], [] => rfl
  | [], _ :: _ => rfl
  | _ :: _, [] => rfl
  | a :: as, b :: bs => by
    show (PyData.eqv (.int a) (.int b) && PyData.eqvAll (as.map PyData.int) (bs.map PyData.int)) = _
    rw [eqv_ints as bs]
    show (decide (a = b) && decide (as = bs)) = decide (a :: as = b :: bs)
    by_cases h1 : a = b <;> by_cases h2 : as = bs <;> simp [h1, h2]
def spEq (K : PySem.W.Frag) (C : Addr) : Sp := fun vs H Q _ => ∃ (p : Addr) (y : V) (m1 s1 : Nat) (bs1 rs1 : List Bool), vs = [.ref p, y] ∧ WAt K C H p m1 s1 bs1 rs1 ∧
  ((∃ (b : Addr) (m2 s2 : Nat) (bs2 rs2 : List Bool), y = .ref b ∧ WAt K C H b m2 s2 bs2 rs2 ∧ Q (.bl (decide (bs1.take s1 = bs2.take s2 ∧ rs1.take m1 = rs2.take m2))) H) ∨ (∃ (b : Addr) (xs : List V), y = .ref b ∧ H b = some (.tup xs) ∧ Q (.bl false) H))
theorem scEq : FnScope ["self", "other"] ["self", "other"] (defScope sEq) := ⟨rfl, rfl, rfl, by decide +kernel, rfl, by decide +kernel, by decide +kernel⟩
theorem ok_eq {f C : Addr} {fd : FuncData} (F : Fun K "__eq__" "Where.__eq__" sEq f fd) (T : TxtW mg) (CW : ClsQ K mg C) (hti : PySem.W.kitOne K (.type "tuple") (.ref C) = some false) : FnOk P w K mg base CX0 1 f fd ["self", "other"] (spEq K C) := by
  refine F.ok scEq (fun vs H Q E h => ?_) (fun cdv A outer s H vs Q E hr h => ?_)
  · obtain ⟨p, y, m1, s1, bs1, rs1, rfl, _⟩ := h
    rfl
  · obtain ⟨p, y, m1, s1, bs1, rs1, rfl, ⟨dx, ra, ba, ea, la, h1, h2, h3, h4, h5⟩, q⟩ := h
    refine ⟨_, (pss_one (ps_ret (pe_and (pe_callB call_isi (by rfl) T.isinstance (by decide +kernel) (pa_cons (pv 1) (pa_cons (pe_glob (v := .ref C) (by rfl) CW.mgC rfl) pa_nil))) (pe_and (pe_cmpR (op_eqD hr.units) (pe_fld (pv 0) rfl) (pe_fld (pv 1) rfl) (nomark _)) (pe_one (pe_cmpR (op_eqD hr.units) (pe_fld (pv 0) rfl) (pe_fld (pv 1) rfl) (nomark _))))))), ?_⟩
    rcases q with ⟨b, m2, s2, bs2, rs2, rfl, ⟨dx2, ra2, ba2, ea2, la2, k1, k2, k3, k4, k5⟩, q⟩ | ⟨b, xs, rfl, hb, q⟩
    · refine ⟨_, rfl, _, _, _, _, true, rfl, .own C, .base (.ins k1 CW.cl CW.cc CW.cg CW.ct CW.co), if_pos (by simp), ?_⟩
      refine ⟨_, rfl, iteT ?_⟩
      refine ⟨_, rfl, p, C, dx, _, _, rfl, h1, CW.cl, CW.nB, wf_below, _, rfl, b, C, dx2, _, _, rfl, k1, CW.cl, CW.nB, wf_below, eq_blsT (t := true) h3 k3 ?_⟩
      by_cases hb : bs1.take s1 = bs2.take s2
      · rw [decide_eq_true hb]
        refine ⟨_, rfl, iteT ?_⟩
        refine ⟨_, rfl, p, C, dx, _, _, rfl, h1, CW.cl, CW.nR, wf_rests, _, rfl, b, C, dx2, _, _, rfl, k1, CW.cl, CW.nR, wf_rests, eq_blsT (t := true) h2 k2 ?_⟩
        have e : decide (rs1.take m1 = rs2.take m2) = decide (bs1.take s1 = bs2.take s2 ∧ rs1.take m1 = rs2.take m2) := by
          by_cases hu : rs1.take m1 = rs2.take m2
          · rw [decide_eq_true hu, decide_eq_true ⟨hb, hu⟩]
          · rw [decide_eq_false hu, decide_eq_false (fun z => hu z.2)]
        rw [e]
        exact q
      · rw [decide_eq_false hb]
        rw [decide_eq_false (fun z => hb z.1)] at q
        exact ⟨_, rfl, iteF q⟩
    · refine ⟨_, rfl, _, _, _, _, false, rfl, .own C, .base (.tup hb), hti, ?_⟩
      exact ⟨_, rfl, iteF q⟩
/-- where has the least data of the model -/
def spIsw (K : PySem.W.Frag) (C : Addr) : Sp := fun vs H Q _ => ∃ (p r : Addr) (m s : Nat) (bs rs bs' rs' : List Bool), vs = [.ref p, .ref r] ∧ WAt K C H p m s bs' rs' ∧ Md H r bs rs ∧ 1 ≤ rs.length ∧ rs.length ≤ 720 ∧ bs.length ≤ 10000 ∧ Canon bs rs m s ∧
  bs'.take s = bs.take s ∧ rs'.take m = rs.take m ∧ ∀ H', Same H H' → Q (.bl true) H'
theorem scIsw : FnScope ["where", "model", "below", "rests"] ["where", "model"] (defScope sIsw) := ⟨rfl, rfl, rfl, by decide +kernel, rfl, by decide +kernel, by decide +kernel⟩
theorem df_isw {C : Addr} (A : At K mg "_law_is_where" sIsw) (T : TxtW mg) (CW : ClsQ K mg C) (Dleast : Df P w K mg base 1 "_law_least_model" ["model"] spLeast) : Df P w K mg base 2 "_law_is_where" ["where", "model"] (spIsw K C) := by
  obtain ⟨f, fd, hm, F⟩ := A.ex
  refine ⟨f, fd, hm, F.kp, F.binds (fun _ _ _ _ _ _ us hl => match us, hl with | [_, _], _ => rfl), F.ok scIsw (fun vs H Q E h => ?_) (fun cdv A outer s H vs Q E hr h => ?_)⟩
  · obtain ⟨p, r, m, s, bs, rs, bs', rs', rfl, _⟩ := h
    rfl
  · obtain ⟨p, r, m, st, bs, rs, bs', rs', rfl, hW, hM, hr1, hr2, hb2, hc, eb, er, q⟩ := h
    have a1 := hc.ml hr1
    have b1 := hc.start.1
    refine ⟨_, (pss_cons (ps_asg (Dleast.call (hr.mono (by decide)) (pa_cons (pv 1) pa_nil)) (pg_tup (by rfl) (pgs_cons (pg_name (i := 2) scIsw.nd rfl (.inl rfl)) (pgs_cons (pg_name (i := 3) scIsw.nd rfl (.inl rfl)) pgs_nil))))
      (pss_cons (ps_if (pw_or (pt_not (pt_val (pe_callB call_isi (by rfl) T.isinstance (by decide +kernel) (pa_cons (pv 0) (pa_cons (pe_glob (v := .ref C) (by rfl) CW.mgC rfl) pa_nil))))) (pw_or1 (pt_cmpR (op_neD hr.units) (pe_tup (pa_cons (pe_fld (pv 0) rfl) (pa_cons (pe_fld (pv 0) rfl) pa_nil))) (pe_tup (pa_cons (pe_callB call_len_seq (by rfl) T.len PySem.boot_len (pa_cons (pv 3) pa_nil)) (pa_cons (pe_callB call_len_seq (by rfl) T.len PySem.boot_len (pa_cons (pv 2) pa_nil)) pa_nil))) (nomark _)))).pt (pss_one (ps_ret pe_bl)) pss_nil)
      (pss_one (ps_ret (pe_and (pe_cmpR (op_eqD hr.units) (pe_fld (pv 0) rfl) (pv 2) (nomark _)) (pe_one (pe_cmpR (op_eqD hr.units) (pe_fld (pv 0) rfl) (pv 3) (nomark _)))))))), ?_⟩
    refine ⟨_, rfl, r, bs, rs, m, st, rfl, hM, hr1, hr2, hb2, hc, fun t tb tr H1 s1 ht htb htr => ?_⟩
    refine ⟨t, _, rfl, .inl (.inl ht), rfl, _, _, rfl, _, _, rfl, rfl, ?_⟩
    obtain ⟨dx, ra, ba, ea, la, h1, h2, h3, h4, h5⟩ := hW.same s1
    refine ⟨_, rfl, _, _, _, _, true, rfl, .own C, .base (.ins h1 CW.cl CW.cc CW.cg CW.ct CW.co), if_pos (by simp), ?_⟩
    refine ⟨_, rfl, iteF ?_⟩
    refine ⟨_, rfl, p, C, dx, _, _, rfl, h1, CW.cl, CW.nP, wf_period, _, rfl, p, C, dx, _, _, rfl, h1, CW.cl, CW.nS, wf_start, by show 2 ≤ sizeLine; decide, fun t1 ht1 => ?_⟩
    have s2 := s1.trans (same_new (o := .tup [.int (m : Int), .int (st : Int)]) ht1)
    have e2 : (upd H1 t1 (.tup [.int (m : Int), .int (st : Int)])) t1 = some (.tup ([(m : Int), (st : Int)].map V.int)) := upd_same
    have htb := same_new (o := .tup [.int (m : Int), .int (st : Int)]) ht1 _ _ htb
    have htr := same_new (o := .tup [.int (m : Int), .int (st : Int)]) ht1 _ _ htr
    generalize upd H1 t1 (.tup [.int (m : Int), .int (st : Int)]) = H2 at s2 e2 htb htr ⊢
    refine ⟨_, rfl, tr, _, rfl, .inr (.inl (.inl htr)), _, rfl, tb, _, rfl, .inr (.inl (.inl htb)), by show 2 ≤ sizeLine; decide, fun t2 ht2 => ?_⟩
    rw [List.length_map, List.length_map, List.length_take, List.length_take, Nat.min_eq_left a1, Nat.min_eq_left b1]
    have s3 := same_new (o := .tup [.int (m : Int), .int (st : Int)]) ht2
    have e3 : (upd H2 t2 (.tup [.int (m : Int), .int (st : Int)])) t2 = some (.tup ([(m : Int), (st : Int)].map V.int)) := upd_same
    have htb := s3 _ _ htb
    have htr := s3 _ _ htr
    have e2 := s3 _ _ e2
    have s4 := s2.trans s3
    generalize upd H2 t2 (.tup [.int (m : Int), .int (st : Int)]) = H3 at s4 e2 e3 htb htr ⊢
    refine ⟨_, _, .tup (.inl (.inl e2)) (dp_ints _), .tup (.inl (.inl e3)) (dp_ints _), (sh_list (can_ints _).1 (can_ints _).2).2, (sh_list (can_ints _).1 (can_ints _).2).2, _, rfl, ?_⟩
    rw [show PyData.eqv (.tuple ([(m : Int), (st : Int)].map PyData.int)) (.tuple ([(m : Int), (st : Int)].map PyData.int)) = true from (eqv_ints _ _).trans (decide_eq_true rfl)]
    refine iteF ?_
    obtain ⟨dx, ra, ba, ea, la, h1, h2, h3, h4, h5⟩ := hW.same s4
    refine ⟨_, rfl, p, C, dx, _, _, rfl, h1, CW.cl, CW.nB, wf_below, _, rfl, eq_blsT (t := true) h3 (.inl (.inl htb)) ?_⟩
    rw [eb, decide_eq_true rfl]
    refine ⟨_, rfl, iteT ?_⟩
    refine ⟨_, rfl, p, C, dx, _, _, rfl, h1, CW.cl, CW.nR, wf_rests, _, rfl, eq_blsT (t := true) h2 (.inl (.inl htr)) ?_⟩
    rw [er, decide_eq_true rfl]
    exact q _ s4
end
end Ef
set_option Elab.async false
set_option linter.all false
set_option maxRecDepth 100000
set_option maxHeartbeats 4000000
namespace Ef
open PySem PySem.Spec PyProof.Rows L2
abbrev sLonger : Stmt := top 37
theorem passF {X : Cx} : Passes (CX X.prog X.w) X (fun _ _ _ => False) := fun pins σ H s e s' I h => by
  obtain ⟨a, B, H', cls, d, _, _, _, _, _, _, _, hE⟩ := h
  exact hE.elim
theorem same_inst {H : Hp} {x dx C : Addr} {fs : List (Str × V)} (nx : H x = none) (nd : H dx = none) : Same H (upd (upd H dx (.own x)) x (.ins C dx fs)) := fun b o e => by
  rw [upd_ne (ne_of_none e nx), upd_ne (ne_of_none e nd)]
  exact e
/-- the same set told with more truths below -/
def longL (bs rs : List Bool) (j : Nat) : List Bool := (List.range (bs.length + j)).map (ftr bs rs)
theorem longL_len (bs rs : List Bool) (j : Nat) : (longL bs rs j).length = bs.length + j := by unfold longL; rw [List.length_map, List.length_range]
theorem longL_get {bs rs : List Bool} {j n : Nat} (h : n < bs.length + j) : (longL bs rs j).getD n false = ftr bs rs n := by
  rw [List.getD_eq_getElem?_getD]
  unfold longL
  rw [List.getElem?_map, List.getElem?_range h]
  rfl
theorem longL_ftr {bs rs : List Bool} (hr : 1 ≤ rs.length) {j k : Nat} (hk : 1 ≤ k) (n : Nat) : ftr (longL bs rs j) (List.replicate k rs).flatten n = ftr bs rs n := by
  have h1 : ftr (longL bs rs j) (List.replicate k rs).flatten n = if n < (longL bs rs j).length then (longL bs rs j).getD n false else led (List.replicate k rs).flatten n := rfl
  rw [h1, longL_len]
  split
  · exact longL_get ‹_›
  · rw [led_rep hr hk]
    unfold ftr
    rw [if_neg (by omega)]
theorem map_flat_bl (rs : List Bool) : ∀ k : Nat, (List.replicate k (rs.map V.bl)).flatten = (List.replicate k rs).flatten.map V.bl
  | 0 => rfl
  | k + 1 => by rw [List.replicate_succ, List.flatten_cons, map_flat_bl rs k, List.replicate_succ, List.flatten_cons, List.map_append]
section
variable {P : Program} {w : World} {K : PySem.W.Frag} {mg : Str → Option Value} {base : Heap}
def spWhere (K : PySem.W.Frag) (C : Addr) : Sp := fun vs H Q _ => ∃ (r : Addr) (bs rs : List Bool), vs = [.ref r] ∧ Md H r bs rs ∧ 1 ≤ rs.length ∧ rs.length ≤ 720 ∧ bs.length ≤ 10000 ∧ ∀ p H' m s, H p = none → Same H H' → Canon bs rs m s → WAt K C H' p m s bs rs → Q (.ref p) H'
theorem scWhere : FnScope ["model"] ["model"] (defScope sWhere) := ⟨rfl, rfl, rfl, by decide +kernel, rfl, by decide +kernel, by decide +kernel⟩
/-- a good making of a set -/
theorem MadeX.good {C CT CF CL : Addr} {H0 : Hp} {p : Addr} {bs rs : List Bool} {Q : VK} {E : XK} (hr1 : 1 ≤ rs.length) (hr2 : rs.length ≤ 720) (hb2 : bs.length ≤ 10000) (q : ∀ m s H', Canon bs rs m s → Same H0 H' → WAt K C H' p m s bs rs → Q .non H') : MadeX K C CT CF CL H0 p (bs.map V.bl) (rs.map V.bl) Q E :=
  .inr ⟨bs, rfl, .inr (.inr ⟨rs, rfl, hr1, by omega, by omega, fun m s hc => .inr (.inr ⟨by have := hc.ml hr1; omega, by have := hc.start.1; omega, fun H' sm hw => q m s H' hc sm hw⟩)⟩)⟩
theorem df_where {C CT CF CL fI : Addr} {fdI : FuncData} (A : At K mg "_law_where" sWhere) (T : TxtP mg) (CW : ClsW K mg C) (M : Mk K C fI) (FI : FnOk P w K mg base (CX P w) 4 fI fdI ["self", "below", "rests"] (spInit K C CT CF CL)) (bI : Binds K fdI ["self", "below", "rests"] []) :
    Df P w K mg base 6 "_law_where" ["model"] (spWhere K C) := by
  obtain ⟨f, fd, hm, F⟩ := A.ex
  refine ⟨f, fd, hm, F.kp, F.binds (fun _ _ _ _ _ _ us hl => match us, hl with | [_], _ => rfl), F.ok scWhere (fun vs H Q E h => ?_) (fun cdv A outer s H vs Q E hr h => ?_)⟩
  · obtain ⟨r, bs, rs, rfl, _⟩ := h
    rfl
  · obtain ⟨r, bs, rs, rfl, ⟨rb, rr, h1, h2, h3⟩, hr1, hr2, hb2, q⟩ := h
    refine ⟨_, PSs.nox (pss_one (ps_ret (pe_make M FI (hr.mono (by decide)) (by rfl) CW.mgC bI .nil passF (pa_cons (pe_callTy call_list_of (by rfl) T.list (by decide +kernel) (pa_cons (pe_ix ix_tup (pv 0) pe_int (fun _ _ => rfl)) pa_nil)) (pa_cons (pe_callTy call_list_of (by rfl) T.list (by decide +kernel) (pa_cons (pe_ix ix_tup (pv 0) pe_int (fun _ _ => rfl)) pa_nil)) pa_nil))))), ?_⟩
    refine ⟨_, rfl, r, _, 0, _, rfl, rfl, .inl (.inl h1), rfl, rb, _, rfl, .inl (.inl (.inl h2)), fun l1 hl1 => ?_⟩
    have s1 := same_new (o := .lst (bs.map V.bl)) hl1
    have e1 : (upd H l1 (.lst (bs.map V.bl))) l1 = some (.lst (bs.map V.bl)) := upd_same
    generalize upd H l1 (.lst (bs.map V.bl)) = H1 at s1 e1 ⊢
    refine ⟨_, rfl, r, _, 1, _, rfl, rfl, .inl (.inl (s1 _ _ h1)), rfl, rr, _, rfl, .inl (.inl (.inl (s1 _ _ h3))), fun l2 hl2 => ?_⟩
    have s2 := same_new (o := .lst (rs.map V.bl)) hl2
    have e2 : (upd H1 l2 (.lst (rs.map V.bl))) l2 = some (.lst (rs.map V.bl)) := upd_same
    generalize upd H1 l2 (.lst (rs.map V.bl)) = H2 at s2 e2 ⊢
    intro x dx nx ndx nex
    refine ⟨H2, x, dx, l1, l2, _, _, rfl, same_inst nx ndx, nx, upd_same, .inl (.inl (.inl (s2 _ _ e1))), .inl (.inl (.inl e2)), (by simp only [List.length_map, List.length_append, List.length_cons, List.length_nil, List.length_replicate, List.length_take, List.length_drop] at *; omega), (by simp only [List.length_map, List.length_append, List.length_cons, List.length_nil, List.length_replicate, List.length_take, List.length_drop] at *; omega), MadeX.good hr1 hr2 hb2 fun m s H' hc sm hw => ⟨rfl, ?_⟩⟩
    exact q x H' m s ((s1.trans s2).free nx) ((s1.trans s2).trans sm) hc hw
def spLonger : Sp := fun vs H Q _ => ∃ (p l r : Addr) (ns : List Int) (a b : Int) (bs rs : List Bool), vs = [.ref p, .ref r] ∧ Pen H p l ns a b ∧ a ≤ 900000000 ∧ Md H r bs rs ∧ r ≠ p ∧ 1 ≤ rs.length ∧ rs.length ≤ 24 ∧ bs.length ≤ 14 ∧
  ∀ (t : Addr) (j k : Nat) (a' b' : Int) H', t ≠ p → a' ≤ a + 2 → Pen H' p l ns a' b' → Kp p H H' → Md H' t (longL bs rs j) (List.replicate k rs).flatten → 1 ≤ k → k ≤ 3 → j ≤ 8 → Q (.ref t) H'
theorem scLonger : FnScope ["pen", "model", "below", "rests", "more", "n"] ["pen", "model"] (defScope sLonger) := ⟨rfl, rfl, rfl, by decide +kernel, rfl, by decide +kernel, by decide +kernel⟩
theorem df_longer (A : At K mg "_law_longer" sLonger) (T : TxtP mg) (hrg : mg "range" = none) (Ddraw : Df P w K mg base 1 "_law_draw" ["pen", "many"] spDraw) (Dtruth : Df P w K mg base 1 "_law_truth" ["model", "n"] spTruth) : Df P w K mg base 2 "_law_longer" ["pen", "model"] spLonger := by
  obtain ⟨f, fd, hm, F⟩ := A.ex
  refine ⟨f, fd, hm, F.kp, F.binds (fun _ _ _ _ _ _ us hl => match us, hl with | [_, _], _ => rfl), F.ok scLonger (fun vs H Q E h => ?_) (fun cdv A outer s H vs Q E hr h => ?_)⟩
  · obtain ⟨p, l, r, ns, a, b, bs, rs, rfl, _⟩ := h
    rfl
  · obtain ⟨p, l, r, ns, a, b, bs, rs, rfl, hP, ha, hM, nrp, hr1, hr2, hb2, q⟩ := h
    refine ⟨_, (pss_cons (ps_asg (pv 1) (pg_tup (by rfl) (pgs_cons (pg_name (i := 2) scLonger.nd rfl (.inl rfl)) (pgs_cons (pg_name (i := 3) scLonger.nd rfl (.inl rfl)) pgs_nil))))
      (pss_cons (ps_setLc (i := 4) (own := [("n", 5)]) (g := gName 5) (by rfl) scLonger.nd rfl rfl (sw_true rfl rfl rfl (by decide +kernel)) (pi_range1 (by rfl) hrg (pa_cons (pe_op op_add (pe_callB call_len_seq (by rfl) T.len PySem.boot_len (pa_cons (pv 2) pa_nil)) (Ddraw.call (hr.mono (by decide)) (pa_cons (pv 0) (pa_cons pe_int pa_nil)))) pa_nil)) (blkOk_by (own := [("n", 5)]) (N := ["pen", "model", "below", "rests", "more", "n"]) (sc := defScope sLonger) (by decide +kernel)) (fun _ _ _ _ _ => pg_name (i := 5) scLonger.nd rfl (Or.inl rfl)) (fun _ _ _ _ _ => pts_nil) (fun _ _ _ _ _ => (Dtruth.call (hr.mono (by decide)) (pa_cons (pv 1) (pa_cons (pv 5) pa_nil)))))
      (pss_one (ps_ret (pe_tup (pa_cons (pv 4) (pa_cons (pe_op op_rep (pv 3) (pe_op op_add pe_int (Ddraw.call (hr.mono (by decide)) (pa_cons (pv 0) (pa_cons pe_int pa_nil))))) pa_nil))))))), ?_⟩
    obtain ⟨rb, rr, h1, h2, h3⟩ := hM
    refine ⟨_, rfl, r, _, rfl, .inl (.inl h1), rfl, _, _, rfl, _, _, rfl, rfl, ?_⟩
    refine ⟨_, rfl, rb, _, rfl, .inl (.inl (.inl h2)), _, rfl, p, l, ns, a, b, _, rfl, hP, by omega, by decide, by decide, fun d1 a1 b1 H1 d10 d11 ha1 hP1 hK1 => ?_⟩
    refine ⟨_, _, rfl, rfl, _, rfl, by rw [List.length_map]; omega, by rw [List.length_map]; omega, fun D hD => ?_⟩
    have hM1 : Md H1 r bs rs := Md.kp ⟨rb, rr, h1, h2, h3⟩ hK1 hP.hd
    have hDp : D ≠ p := fun z => by rw [z, hP1.hd] at hD; cases hD
    have hDr : r ≠ D := fun z => by obtain ⟨_, _, z1, _⟩ := hM1; rw [z, hD] at z1; cases z1
    have hn : (((bs.map V.bl).length : Int) + d1).toNat = bs.length + d1.toNat := by rw [List.length_map]; omega
    rw [hn]
    have hS : Same H1 (upd H1 D (.lst [])) := same_new hD
    refine lc_range (lo := 0) (n := bs.length + d1.toNat) (fun i H' => Same H1 H' ∧ H' D = some (.lst (((List.range i).map (ftr bs rs)).map V.bl)))
      ⟨hS, upd_same⟩ ?_ ?_
    · rintro i H4 hi ⟨s4, hA⟩
      refine ⟨rfl, _, rfl, _, rfl, r, bs, rs, _, rfl, hM1.same s4, by omega, hr1, ?_⟩
      refine ⟨_, hA, by rw [List.length_map, List.length_map, List.length_range]; exact small1000' (by omega), ?_, ?_⟩
      · exact same_mut s4 hD
      · rw [upd_same, List.range_succ, List.map_append, List.map_append, Int.zero_add, mtruth_ftr]
        rfl
    · rintro H4 ⟨s4, hA⟩
      have hP4 := hP1.kp (Kp.of_same s4) ((s4 _ _ hP1.hd).trans hP1.hd.symm)
      have hM4 := hM1.same s4
      have hK4 : Kp p H H4 := hK1.trans (Kp.of_same s4)
      refine ⟨_, rfl, _, rfl, _, rfl, p, l, ns, a1, b1, _, rfl, hP4, by omega, by decide, by decide, fun d2 a2 b2 H5 d20 d21 ha2 hP5 hK5 => ?_⟩
      have nrr : rr ≠ p := ne_of h3 hP.hd (by intro z; cases z)
      have e3 : H5 rr = some (.lst (rs.map V.bl)) := hK5 _ _ nrr (s4 _ _ (hK1 _ _ nrr h3))
      have eD : H5 D = some (.lst ((longL bs rs d1.toNat).map V.bl)) := hK5 _ _ hDp hA
      refine ⟨_, _, rfl, rfl, rr, 1 + d2, _, rfl, rfl, e3, by omega, by omega, by show (rs.map V.bl).length * (1 + d2).toNat ≤ sizeLine; rw [List.length_map]; exact Nat.le_trans (Nat.mul_le_mul hr2 (show (1 + d2).toNat ≤ 3 by omega)) (by decide), fun l1 hl1 => ?_⟩
      have s6 : Same H5 (upd H5 l1 (.lst ((List.replicate (1 + d2).toNat (rs.map V.bl)).flatten))) := same_new hl1
      have e6 : (upd H5 l1 (.lst ((List.replicate (1 + d2).toNat (rs.map V.bl)).flatten))) l1 = some (.lst ((List.replicate (1 + d2).toNat rs).flatten.map V.bl)) := by rw [upd_same, map_flat_bl]
      generalize upd H5 l1 (.lst ((List.replicate (1 + d2).toNat (rs.map V.bl)).flatten)) = H6 at s6 e6 ⊢
      refine ⟨by show 2 ≤ sizeLine; decide, fun t ht => ?_⟩
      have s7 : Same H6 (upd H6 t (.tup [.ref D, .ref l1])) := same_new ht
      have e7 : (upd H6 t (.tup [.ref D, .ref l1])) t = some (.tup [.ref D, .ref l1]) := upd_same
      generalize upd H6 t (.tup [.ref D, .ref l1]) = H7 at s7 e7 ⊢
      have s57 := s6.trans s7
      have hK7 : Kp p H H7 := (hK4.trans hK5).trans (Kp.of_same s57)
      have hP7 := hP5.kp (Kp.of_same s57) ((s57 _ _ hP5.hd).trans hP5.hd.symm)
      exact q t d1.toNat (1 + d2).toNat a2 b2 H7 (ne_of e7 hP7.hd (by intro z; cases z)) (by omega) hP7 hK7 ⟨D, l1, e7, s57 _ _ eD, s7 _ _ e6⟩ (by omega) (by omega) (by omega)
end
end Ef
set_option Elab.async false
set_option linter.all false
set_option maxRecDepth 100000
set_option maxHeartbeats 8000000
namespace Ef
open PySem PySem.Spec PyProof.Rows L2
abbrev sBounds : Stmt := top 38
theorem passX {X : Cx} {A : Around} {outer : List Env} {s : Shared} {H : Hp} {E : XK} {scope : Scope} {f c' : Addr} : Passes (CX X.prog X.w) (LamX.lamCx X A outer s H E scope f c') E :=
  fun pins σ H1 s1 e s' I h => passes_call (X := LamX.lamCx X A outer s H E scope f c') (takes_of rfl rfl rfl rfl) (fun _ _ _ _ h => h) pins σ H1 s1 e s' I h
theorem tabs_same {T : List (Addr × Str)} {H H' : Hp} (t : LamX.Tabs T H) (e : Same H H') : LamX.Tabs T H' := fun p hp => (t p hp).ext e
theorem tab_kp {H H' : Hp} {P p l : Addr} {q : Str} {ns : List Int} {a b : Int} (t : LamX.TabS H P q) (k : Kp p H H') (hp : Pen H p l ns a b) : LamX.TabS H' P q := by
  obtain ⟨ps, h1, h2, h3⟩ := t
  refine ⟨ps, k _ _ (ne_of h1 hp.hd (by intro q; cases q)) h1, h2, fun pos cv hc => ?_⟩
  obtain ⟨c, e1, e2⟩ := h3 pos cv hc
  exact ⟨c, e1, k _ _ (ne_of e2 hp.hd (by intro q; cases q)) e2⟩
theorem tabs_kp {T : List (Addr × Str)} {H H' : Hp} {p l : Addr} {ns : List Int} {a b : Int} (t : LamX.Tabs T H) (k : Kp p H H') (hp : Pen H p l ns a b) : LamX.Tabs T H' := fun x hx => tab_kp (t x hx) k hp
/-- all but the pen and the tables stays -/
def Kx (p : Addr) (H H' : Hp) : Prop := ∀ b o, b ≠ p → (∀ ps, o ≠ HO.tbl ps) → H b = some o → H' b = some o
theorem Kx.of_same {p : Addr} {H H' : Hp} (h : Same H H') : Kx p H H' := fun b o _ _ e => h b o e
theorem Kx.of_kp {p : Addr} {H H' : Hp} (h : Kp p H H') : Kx p H H' := fun b o n _ e => h b o n e
theorem Kx.of_ext {p : Addr} {H H' : Hp} (h : LamX.ExtN H H') : Kx p H H' := fun b o _ n e => h b o e n
theorem Kx.trans {p : Addr} {H H' H2 : Hp} (h : Kx p H H') (k : Kx p H' H2) : Kx p H H2 := fun b o n m e => k b o n m (h b o n m e)
theorem Kx.lst {p b : Addr} {H H' : Hp} {xs : List V} {d : List (Key × V)} (k : Kx p H H') (hp : H p = some (.dK d)) (h : H b = some (.lst xs)) : H' b = some (.lst xs) := k _ _ (ne_of h hp (by intro z; cases z)) (fun _ z => by cases z) h
theorem Kx.tup {p b : Addr} {H H' : Hp} {xs : List V} {d : List (Key × V)} (k : Kx p H H') (hp : H p = some (.dK d)) (h : H b = some (.tup xs)) : H' b = some (.tup xs) := k _ _ (ne_of h hp (by intro z; cases z)) (fun _ z => by cases z) h
theorem Kx.sqt {K : PySem.W.Frag} {p b : Addr} {H H' : Hp} {xs : List V} {d : List (Key × V)} (k : Kx p H H') (hp : H p = some (.dK d)) (h : SqT K H b xs) : SqT K H' b xs := by
  rcases h with (h | ⟨z, h⟩) | h
  · exact .inl (.inl (k.tup hp h))
  · exact .inl (.inr ⟨z, k _ _ (ne_of h hp (by intro q; cases q)) (fun _ z => by cases z) h⟩)
  · exact .inr h
theorem Kx.md {p r : Addr} {H H' : Hp} {bs rs : List Bool} {d : List (Key × V)} (k : Kx p H H') (hp : H p = some (.dK d)) (h : Md H r bs rs) : Md H' r bs rs := by
  obtain ⟨rb, rr, h1, h2, h3⟩ := h
  exact ⟨rb, rr, k.tup hp h1, k.lst hp h2, k.lst hp h3⟩
theorem Kx.wat {K : PySem.W.Frag} {C p q : Addr} {H H' : Hp} {m s : Nat} {bs rs : List Bool} {d : List (Key × V)} (k : Kx p H H') (hp : H p = some (.dK d)) (h : WAt K C H q m s bs rs) : WAt K C H' q m s bs rs := by
  obtain ⟨dx, ra, ba, ea, la, h1, h2, h3, h4, h5⟩ := h
  exact ⟨dx, ra, ba, ea, la, k _ _ (ne_of h1 hp (by intro z; cases z)) (fun _ z => by cases z) h1, k.sqt hp h2, k.sqt hp h3, k.sqt hp h4, k.sqt hp h5⟩
theorem ext_of {H H' : Hp} (h : LamX.ExtN H H') {b : Addr} {o : HO} (e : H b = some o) (n : ∀ ps : Array Value, o ≠ .tbl ps) : H' b = some o := h b o e n
theorem Pen.ext {H H' : Hp} {p l : Addr} {ns : List Int} {a b : Int} (h : Pen H p l ns a b) (e : LamX.ExtN H H') : Pen H' p l ns a b := ⟨ext_of e h.hd (fun _ z => by cases z), ext_of e h.hl (fun _ z => by cases z), h.len, h.a0, h.b0⟩
theorem Pen.same {H H' : Hp} {p l : Addr} {ns : List Int} {a b : Int} (h : Pen H p l ns a b) (e : Same H H') : Pen H' p l ns a b := ⟨e _ _ h.hd, e _ _ h.hl, h.len, h.a0, h.b0⟩
theorem eqv_int (i : Int) : PyData.eqv (.int i) (.int i) = true := by
  show decide (i = i) = true
  exact decide_eq_true rfl
theorem sh_tag (t : Str) (d : PyData) (h1 : PyData.canLay0 (.str t) = true) (h2 : PyData.depth (.str t) = 0) (h3 : PyData.canLay0 d = true) (h4 : PyData.depth d ≤ 5) : SeqAt.shaped (.tuple [.str t, d]) = true := by
  show ((PyData.canLay0 (.str t) && (PyData.canLay0 d && true)) && decide (max (PyData.depth (.str t)) (max (PyData.depth d) 0) + 1 ≤ 64)) = true
  rw [h1, h2, h3]
  exact decide_eq_true (by omega)
theorem eqv_tag (t : Str) (i : Int) (h : PyData.eqv (.str t) (.str t) = true) : PyData.eqv (.tuple [.str t, .int i]) (.tuple [.str t, .int i]) = true := by
  show (PyData.eqv (.str t) (.str t) && (PyData.eqv (.int i) (.int i) && true)) = true
  rw [eqv_int, h]; rfl
/-- where _law_fault stands -/
structure FaultAt (K : PySem.W.Frag) (mg : Str → Option Value) (g : Addr) (oc : Value) (od an : Option Addr) (kV doc pm cdv ct : Value) (osl : Array (Option Value)) : Prop where
  mg_ : mg "_law_fault" = some (.ref g)
  kp : PySem.W.keepIn K (.ref g) = true
  lk : K.lookup g = some ⟨oc, od, .func (PySem.W.fnOf "_law_fault" "_law_fault" (defArgs sFault) (defBody sFault) (defScope sFault) .none kV doc pm an cdv ct), osl⟩
  cd : PySem.W.codeIn K cdv "_law_fault" = true
  b : Binds K (PySem.W.fnOf "_law_fault" "_law_fault" (defArgs sFault) (defBody sFault) (defScope sFault) .none kV doc pm an cdv ct) ["ask"] []
/-! the sets at the bounds -/
def onceL (m : Nat) : List Bool := (List.range m).map fun k : Nat => decide ((k : Int) = 5)
def lateT (n : Nat) : List Bool := List.replicate n false ++ [true]
theorem onceL_len (m : Nat) : (onceL m).length = m := by unfold onceL; rw [List.length_map, List.length_range]
theorem onceL_led {m n : Nat} (hm : 7 ≤ m) : led (onceL m) n = decide (n % m = 5) := by
  unfold led
  rw [onceL_len, List.getD_eq_getElem?_getD]
  unfold onceL
  rw [List.getElem?_map, List.getElem?_range (Nat.mod_lt _ (by omega))]
  show decide (((n % m : Nat) : Int) = 5) = _
  by_cases h : n % m = 5
  · rw [decide_eq_true h, decide_eq_true (by omega)]
  · rw [decide_eq_false h, decide_eq_false (by omega)]
theorem once_per {m d : Nat} (hm : 100 ≤ m) (hd : d ∣ m) (hp : PerF (led (onceL m)) d) : d = m := by
  obtain ⟨k, hk⟩ := hd
  have d1 : 1 ≤ d := by
    rcases Nat.eq_zero_or_pos d with z | z
    · rw [z, Nat.zero_mul] at hk; omega
    · exact z
  rcases Nat.lt_or_ge k 2 with z | z
  · have : k = 1 := by
      rcases Nat.eq_zero_or_pos k with w | w
      · rw [w, Nat.mul_zero] at hk; omega
      · omega
    rw [this, Nat.mul_one] at hk
    exact hk.symm
  · have h2 : d * 2 ≤ m := by rw [hk]; exact Nat.mul_le_mul_left d z
    have h5 := hp 5
    rw [onceL_led (by omega), onceL_led (by omega), Nat.mod_eq_of_lt (show 5 + d < m by omega), Nat.mod_eq_of_lt (show 5 < m by omega)] at h5
    rw [decide_eq_true (show 5 = 5 from rfl)] at h5
    have := of_decide_eq_true h5
    omega
theorem lateT_len (n : Nat) : (lateT n).length = n + 1 := by unfold lateT; rw [List.length_append, List.length_replicate]; rfl
theorem lateT_start {n s : Nat} {rs : List Bool} (h : StartOk (lateT n) rs s) (hl : led rs n = false) : s = n + 1 := by
  have hx : (lateT n).getD n false = true := by
    unfold lateT
    rw [List.getD_eq_getElem?_getD, List.getElem?_append_right (by rw [List.length_replicate]; exact Nat.le_refl n), List.length_replicate, Nat.sub_self]
    rfl
  refine StartOk.uniq h ⟨by rw [lateT_len]; exact Nat.le_refl _, fun k h1 h2 => ?_, .inr ?_⟩
  · rw [lateT_len] at h2; omega
  · rw [Nat.add_sub_cancel, hx, hl]; exact fun z => by cases z
theorem led_one (b : Bool) (n : Nat) : led [b] n = b := by
  unfold led
  rw [show n % [b].length = 0 from Nat.mod_one n]
  rfl
theorem per_one {b : Bool} {d : Nat} (h : d ∣ [b].length) : d = 1 := Nat.dvd_one.mp h
end Ef
set_option Elab.async false
set_option linter.all false
set_option maxRecDepth 100000
set_option maxHeartbeats 8000000
namespace Ef
open PySem PySem.Spec PyProof.Rows L2
section
variable {P : Program} {w : World} {K : PySem.W.Frag} {mg : Str → Option Value} {base : Heap}
theorem ne_same {x y : Addr} {H : Hp} {R : VK} {tag : Str} {B : Int} (h1 : PyData.canLay0 (.str tag) = true) (h2 : PyData.depth (.str tag) = 0) (h3 : PyData.eqv (.str tag) (.str tag) = true) (hx : H x = some (.tup [.str tag, .int B])) (hy : H y = some (.tup [.str tag, .int B])) (q : R (.bl false) H) : rNeD K (.ref x) (.ref y) H R :=
  ⟨_, _, .tup (.inl (.inl hx)) (.cons (.str _) (.cons (.int _) .nil)), .tup (.inl (.inl hy)) (.cons (.str _) (.cons (.int _) .nil)), sh_tag tag _ h1 h2 rfl (Nat.zero_le 5), sh_tag tag _ h1 h2 rfl (Nat.zero_le 5), by rw [eqv_tag tag B h3]; exact q⟩
theorem ne_non {H : Hp} {R : VK} (q : R (.bl false) H) : rNeD K .non .non H R := ⟨_, _, .non, .non, by decide, by decide, q⟩
theorem gt_true {σ : L2.St} {H : Hp} {i : Nat} {v B : Int} {a b : TE} {R : VK} (hi : σ[i]? = some (some (.int v))) (h : B < v) (q : a σ H R) : tIf (tTest (tOp (rI0 fun i j => V.bl (decide (j < i))) (tVar i) (tC (V.int B)))) a b σ H R := by
  refine ⟨_, hi, _, _, rfl, rfl, _, rfl, ?_⟩
  rw [decide_eq_true h]
  exact iteT q
theorem gt_false {σ : L2.St} {H : Hp} {i : Nat} {v B : Int} {a b : TE} {R : VK} (hi : σ[i]? = some (some (.int v))) (h : ¬ B < v) (q : b σ H R) : tIf (tTest (tOp (rI0 fun i j => V.bl (decide (j < i))) (tVar i) (tC (V.int B)))) a b σ H R := by
  refine ⟨_, hi, _, _, rfl, rfl, _, rfl, ?_⟩
  rw [decide_eq_false h]
  exact iteF q
/-- the tag that is due, told -/
theorem tag_due {σ : L2.St} {H : Hp} {x : Addr} {R : VK} {tag : Str} {B : Int} (h1 : PyData.canLay0 (.str tag) = true) (h2 : PyData.depth (.str tag) = 0) (h3 : PyData.eqv (.str tag) (.str tag) = true) (hx : H x = some (.tup [.str tag, .int B])) (q : ∀ H', Same H H' → R (.bl false) H') :
    tTup (tCons (tC (V.str tag)) (tCons (tC (V.int B)) tNil)) σ H fun y H2 => rNeD K (.ref x) y H2 R := by
  refine ⟨by show 2 ≤ sizeLine; decide, fun t ht => ?_⟩
  have s1 := same_new (o := .tup [.str tag, .int B]) ht
  exact ne_same h1 h2 h3 (s1 _ _ hx) upd_same (q _ s1)
theorem fault1 {C CT CF CL : Addr} {σ : L2.St} {H9 : Hp} {m : Nat} {D : Addr} {R : VK} (h1 : σ[1]? = some (some (.int (m : Int)))) (h3 : σ[3]? = some (some (.ref D))) (eD : H9 D = some (.lst ((onceL m).map V.bl))) (m1 : 719 ≤ m) (m2 : m ≤ 721) (hR : ∀ H', Same H9 H' → R (.bl false) H') :
    TFault CT CF CL (fun E H' Q' => tMake C (spInit K C CT CF CL) [] E (tCons (tLst tNil) (tCons (tVar 3) tNil)) σ H' Q') H9 fun x H1 => tIf (tTest (tOp (rI0 fun i j => V.bl (decide (j < i))) (tVar 1) (tC (V.int 720)))) (tTup (tCons (tC (V.str "fine")) (tCons (tC (V.int 720)) tNil))) (tC V.non) σ H1 fun y H2 => rNeD K x y H2 R := by
  refine ⟨by show 0 ≤ sizeLine; decide, fun lE hlE => ?_⟩
  have s10 := same_new (o := .lst []) hlE
  have eE : (upd H9 lE (.lst [])) lE = some (.lst (([] : List Bool).map V.bl)) := upd_same
  generalize upd H9 lE (.lst []) = H10 at s10 eE ⊢
  refine ⟨_, h3, ?_⟩
  intro x dx nx ndx nex
  refine ⟨H10, x, dx, lE, D, _, _, rfl, same_inst nx ndx, nx, upd_same, .inl (.inl (.inl eE)), .inl (.inl (.inl (s10 _ _ eD))), (by simp only [List.length_map, List.length_append, List.length_cons, List.length_nil, List.length_replicate, List.length_take, List.length_drop, onceL_len, lateT_len] at *; omega), (by simp only [List.length_map, List.length_append, List.length_cons, List.length_nil, List.length_replicate, List.length_take, List.length_drop, onceL_len, lateT_len] at *; omega), .inr ⟨[], rfl, .inr (.inr ⟨onceL m, rfl, by rw [onceL_len]; omega, by rw [onceL_len]; omega, by decide, fun m' s' hc => ?_⟩)⟩⟩
  have hm' : m' = m := once_per (by omega) (by have := hc.dvd; rw [onceL_len] at this; exact this) hc.per
  have hs' : s' ≤ 0 := hc.start.1
  rw [hm']
  by_cases h720 : 720 < m
  · refine .inl ⟨h720, fun dd H11 s11 hd11 hx11 => .inr (.inl ⟨rfl, _, dd, rfl, hx11, fun tt H12 s12 e12 => ?_⟩)⟩
    exact gt_true h1 (by omega) (tag_due (by decide +kernel) (by decide +kernel) (by decide +kernel) e12 fun H13 s13 => hR H13 (s10.trans (s11.trans (s12.trans s13))))
  · refine .inr (.inr ⟨by omega, by omega, fun H11 s11 hw => ⟨rfl, ?_⟩⟩)
    exact gt_false h1 (by omega) (ne_non (hR H11 (s10.trans s11)))
theorem fault2 {C CT CF CL : Addr} {σ : L2.St} {H9 : Hp} {n : Nat} {L : Addr} {R : VK} (h2 : σ[2]? = some (some (.int ((n + 1 : Nat) : Int)))) (h4 : σ[4]? = some (some (.ref L))) (eL : H9 L = some (.lst ((lateT n).map V.bl))) (n1 : 9998 ≤ n) (n2 : n ≤ 10000) (hR : ∀ H', Same H9 H' → R (.bl false) H') :
    TFault CT CF CL (fun E H' Q' => tMake C (spInit K C CT CF CL) [] E (tCons (tVar 4) (tCons (tLst (tCons (tC (V.bl false)) tNil)) tNil)) σ H' Q') H9 fun x H1 => tIf (tTest (tOp (rI0 fun i j => V.bl (decide (j < i))) (tVar 2) (tC (V.int 10000)))) (tTup (tCons (tC (V.str "late")) (tCons (tC (V.int 10000)) tNil))) (tC V.non) σ H1 fun y H2 => rNeD K x y H2 R := by
  refine ⟨_, h4, by show 1 ≤ sizeLine; decide, fun lE hlE => ?_⟩
  have s10 := same_new (o := .lst [.bl false]) hlE
  have eE : (upd H9 lE (.lst [.bl false])) lE = some (.lst ([false].map V.bl)) := upd_same
  generalize upd H9 lE (.lst [.bl false]) = H10 at s10 eE ⊢
  intro x dx nx ndx nex
  refine ⟨H10, x, dx, L, lE, _, _, rfl, same_inst nx ndx, nx, upd_same, .inl (.inl (.inl (s10 _ _ eL))), .inl (.inl (.inl eE)), (by simp only [List.length_map, List.length_append, List.length_cons, List.length_nil, List.length_replicate, List.length_take, List.length_drop, onceL_len, lateT_len] at *; omega), (by simp only [List.length_map, List.length_append, List.length_cons, List.length_nil, List.length_replicate, List.length_take, List.length_drop, onceL_len, lateT_len] at *; omega), .inr ⟨lateT n, rfl, .inr (.inr ⟨[false], rfl, by decide, by decide, by rw [lateT_len]; omega, fun m' s' hc => ?_⟩)⟩⟩
  have hm' : m' = 1 := per_one hc.dvd
  have hs' : s' = n + 1 := lateT_start hc.start (led_one _ _)
  rw [hm', hs']
  by_cases h720 : 10000 < n + 1
  · refine .inr (.inl ⟨by decide, h720, fun dd H11 s11 hd11 hx11 => .inr (.inr ⟨rfl, _, dd, rfl, hx11, fun tt H12 s12 e12 => ?_⟩)⟩)
    exact gt_true h2 (by omega) (tag_due (by decide +kernel) (by decide +kernel) (by decide +kernel) e12 fun H13 s13 => hR H13 (s10.trans (s11.trans (s12.trans s13))))
  · refine .inr (.inr ⟨by decide, by omega, fun H11 s11 hw => ⟨rfl, ?_⟩⟩)
    exact gt_false h2 (by omega) (ne_non (hR H11 (s10.trans s11)))
/-- what is due if the period is fine -/
def Due (H : Hp) (n : Nat) (v : V) : Prop := (10000 < n + 1 ∧ ∃ t, v = .ref t ∧ H t = some (.tup [.str "late", .int 10000])) ∨ (n + 1 ≤ 10000 ∧ v = .non)
theorem fault3 {C CT CF CL : Addr} {σ : L2.St} {H9 : Hp} {m n : Nat} {D L : Addr} {v : V} {R : VK} (h1 : σ[1]? = some (some (.int (m : Int)))) (h3 : σ[3]? = some (some (.ref D))) (h4 : σ[4]? = some (some (.ref L))) (h5 : σ[5]? = some (some v)) (eD : H9 D = some (.lst ((onceL m).map V.bl))) (eL : H9 L = some (.lst ((lateT n).map V.bl))) (hv : Due H9 n v)
    (m1 : 719 ≤ m) (m2 : m ≤ 721) (n1 : 9998 ≤ n) (n2 : n ≤ 10000) (hR : ∀ H', Same H9 H' → R (.bl false) H') :
    TFault CT CF CL (fun E H' Q' => tMake C (spInit K C CT CF CL) [] E (tCons (tVar 4) (tCons (tOp rRep (tVar 3) (tC (V.int 2))) tNil)) σ H' Q') H9 fun x H1 => tIf (tTest (tOp (rI0 fun i j => V.bl (decide (j < i))) (tVar 1) (tC (V.int 720)))) (tTup (tCons (tC (V.str "fine")) (tCons (tC (V.int 720)) tNil))) (tVar 5) σ H1 fun y H2 => rNeD K x y H2 R := by
  refine ⟨_, h4, _, h3, D, 2, _, rfl, rfl, eD, by decide, by decide, by show ((onceL m).map V.bl).length * 2 ≤ sizeLine; rw [List.length_map, onceL_len]; exact Nat.le_trans (show m * 2 ≤ 100000 by omega) (by decide), fun lE hlE => ?_⟩
  have s10 : Same H9 (upd H9 lE (.lst ((List.replicate (2 : Int).toNat ((onceL m).map V.bl)).flatten))) := same_new hlE
  have eE : (upd H9 lE (.lst ((List.replicate (2 : Int).toNat ((onceL m).map V.bl)).flatten))) lE = some (.lst ((List.replicate 2 (onceL m)).flatten.map V.bl)) := by rw [upd_same, map_flat_bl]; rfl
  generalize upd H9 lE (.lst ((List.replicate (2 : Int).toNat ((onceL m).map V.bl)).flatten)) = H10 at s10 eE ⊢
  have hl2 : (List.replicate 2 (onceL m)).flatten.length = m * 2 := by rw [rep_len, onceL_len]
  have hled : ∀ k, led (List.replicate 2 (onceL m)).flatten k = led (onceL m) k := fun k => led_rep (by rw [onceL_len]; omega) (by decide) k
  intro x dx nx ndx nex
  refine ⟨H10, x, dx, L, lE, _, _, rfl, same_inst nx ndx, nx, upd_same, .inl (.inl (.inl (s10 _ _ eL))), .inl (.inl (.inl eE)), (by simp only [List.length_map, List.length_append, List.length_cons, List.length_nil, List.length_replicate, List.length_take, List.length_drop, onceL_len, lateT_len] at *; omega), (by simp only [List.length_map, List.length_append, List.length_cons, List.length_nil, List.length_replicate, List.length_take, List.length_drop, onceL_len, lateT_len] at *; omega), .inr ⟨lateT n, rfl, .inr (.inr ⟨_, rfl, by omega, by omega, by rw [lateT_len]; omega, fun m' s' hc => ?_⟩)⟩⟩
  have hpm : PerF (led (List.replicate 2 (onceL m)).flatten) m := fun i => by
    rw [hled, hled]
    have := led_self (onceL m) i
    rw [onceL_len] at this
    exact this
  have hm' : m' = m := once_per (by omega) (hc.least m hpm) fun i => by rw [← hled, ← hled]; exact hc.per i
  have hs' : s' = n + 1 := lateT_start hc.start (by
    rw [hled, onceL_led (by omega)]
    refine decide_eq_false ?_
    have z : (m = 719 ∨ m = 720 ∨ m = 721) ∧ (n = 9998 ∨ n = 9999 ∨ n = 10000) := by omega
    rcases z with ⟨rfl | rfl | rfl, rfl | rfl | rfl⟩ <;> decide)
  rw [hm', hs']
  by_cases h720 : 720 < m
  · refine .inl ⟨h720, fun dd H11 s11 hd11 hx11 => .inr (.inl ⟨rfl, _, dd, rfl, hx11, fun tt H12 s12 e12 => ?_⟩)⟩
    exact gt_true h1 (by omega) (tag_due (by decide +kernel) (by decide +kernel) (by decide +kernel) e12 fun H13 s13 => hR H13 (s10.trans (s11.trans (s12.trans s13))))
  · rcases hv with ⟨h5k, t, rfl, ht⟩ | ⟨h5k, rfl⟩
    · refine .inr (.inl ⟨by omega, h5k, fun dd H11 s11 hd11 hx11 => .inr (.inr ⟨rfl, _, dd, rfl, hx11, fun tt H12 s12 e12 => ?_⟩)⟩)
      exact gt_false h1 (by omega) ⟨_, h5, ne_same (by decide +kernel) (by decide +kernel) (by decide +kernel) e12 (s12 _ _ (s11 _ _ (s10 _ _ ht))) (hR H12 (s10.trans (s11.trans s12)))⟩
    · refine .inr (.inr ⟨by omega, by omega, fun H11 s11 hw => ⟨rfl, ?_⟩⟩)
      exact gt_false h1 (by omega) ⟨_, h5, ne_non (hR H11 (s10.trans s11))⟩
end
end Ef
set_option Elab.async false
set_option linter.all false
set_option maxRecDepth 100000
set_option maxHeartbeats 8000000
namespace Ef
open PySem PySem.Spec PyProof.Rows L2
section
variable {P : Program} {w : World} {K : PySem.W.Frag} {mg : Str → Option Value} {base : Heap}
def qB : Str := "_law_bounds_kept.<locals>.<lambda>"
def spBounds (K : PySem.W.Frag) (PB : Addr) : Sp := fun vs H Q _ => ∃ (p l : Addr) (ns : List Int) (a b : Int), vs = [.ref p] ∧ Pen H p l ns a b ∧ a ≤ 900000000 ∧ LamX.Tabs [(PB, ("_law_bounds_kept.<locals>.<lambda>" : Str))] H ∧ ∀ H', Q (.bl true) H'
theorem flat_repb (k : Nat) (b : Bool) : (List.replicate k [V.bl b]).flatten = (List.replicate k b).map V.bl := by
  induction k with
  | zero => rfl
  | succ k ih => rw [List.replicate_succ, List.flatten_cons, ih, List.replicate_succ]; rfl
theorem Due.ext {H H' : Hp} {n : Nat} {v : V} (h : Due H n v) (e : LamX.ExtN H H') : Due H' n v := h.elim (fun ⟨a, t, b, c⟩ => .inl ⟨a, t, b, ext_of e c (fun _ z => by cases z)⟩) .inr
theorem due_if {σ : L2.St} {H : Hp} {n : Nat} {R : VK} (h2 : σ[2]? = some (some (.int ((n + 1 : Nat) : Int)))) (n1 : 9998 ≤ n) (n2 : n ≤ 10000) (q : ∀ v H', Same H H' → Due H' n v → R v H') :
    tIf (tTest (tOp (rI0 fun i j => V.bl (decide (j < i))) (tVar 2) (tC (V.int 10000)))) (tTup (tCons (tC (V.str "late")) (tCons (tC (V.int 10000)) tNil))) (tC V.non) σ H R := by
  by_cases h : 10000 < n + 1
  · refine gt_true h2 (by omega) ⟨by show 2 ≤ sizeLine; decide, fun t ht => ?_⟩
    exact q _ _ (same_new ht) (.inl ⟨h, t, rfl, upd_same⟩)
  · exact gt_false h2 (by omega) (q _ _ (Same.refl H) (.inr ⟨by omega, rfl⟩))
theorem scBounds : FnScope ["pen", "m", "low", "once", "late", "due", "k"] ["pen"] (defScope sBounds) := ⟨rfl, rfl, rfl, by decide +kernel, rfl, by decide +kernel, by decide +kernel⟩
theorem ok_bounds {f C CT CF CL fT fF fL fI g cB PB : Addr} {fdI : FuncData} {oc oc2 kV doc pm ct kV2 doc2 pm2 cdv2 ct2 : Value} {od an od2 an2 : Option Addr} {osl osl2 : Array (Option Value)}
    (lk : K.lookup f = some ⟨oc, od, .func (PySem.W.fnOf "_law_bounds_kept" "_law_bounds_kept" (defArgs sBounds) (defBody sBounds) (defScope sBounds) .none kV doc pm an (.ref cB) ct), osl⟩) (hcd : PySem.W.codeIn K (.ref cB) "_law_bounds_kept" = true)
    (T : TxtW mg) (CW : ClsQ K mg C) (M : Mk K C fI) (FI : FnOk P w K mg base (CX P w) 4 fI fdI ["self", "below", "rests"] (spInit K C CT CF CL)) (bI : Binds K fdI ["self", "below", "rests"] [])
    (FT : FaultAt K mg g oc2 od2 an2 kV2 doc2 pm2 cdv2 ct2 osl2) (ET : ErrF K mg "BadTruth" "index" CT fT) (EFi : ErrF K mg "TooFine" "most" CF fF) (EL : ErrF K mg "TooLate" "most" CL fL) (EM : ErrM K CT CF CL) (TB : LamX.TabB base mg cB PB)
    (Ddraw : Df P w K mg base 1 "_law_draw" ["pen", "many"] spDraw) :
    FnOk P w K mg base CX0 8 f (PySem.W.fnOf "_law_bounds_kept" "_law_bounds_kept" (defArgs sBounds) (defBody sBounds) (defScope sBounds) .none kV doc pm an (.ref cB) ct) ["pen"] (spBounds K PB) := by
  refine fn_of lk hcd scBounds (fun vs H Q E h => ?_) (fun A outer s H vs Q E hr h => ?_)
  · obtain ⟨p, l, ns, a, b, rfl, _⟩ := h
    rfl
  · obtain ⟨p, l, ns, a, b, rfl, hP, ha, hT, q⟩ := h
    refine ⟨_, PSs.nox (pss_cons (ps_par (i := 1) (j := 2) (by rfl) scBounds.nd rfl rfl (by decide) rfl rfl (pa_cons (pe_op op_add pe_int (Ddraw.call (hr.mono (by decide)) (pa_cons (pv 0) (pa_cons pe_int pa_nil)))) (pa_cons (pe_op op_add pe_int (Ddraw.call (hr.mono (by decide)) (pa_cons (pv 0) (pa_cons pe_int pa_nil)))) pa_nil)) (by rfl))
      (pss_cons (ps_asg (pe_tup (pa_cons (pe_lc (own := [("k", 6)]) (g := gName 6) (by rfl) scBounds.nd (pi_range1 (by rfl) T.range (pa_cons (pv 1) pa_nil)) (blkOk_by (own := [("k", 6)]) (N := ["pen", "m", "low", "once", "late", "due", "k"]) (sc := defScope sBounds) (by decide +kernel)) (fun _ _ _ _ _ => pg_name (i := 6) scBounds.nd rfl (Or.inl rfl)) (fun _ _ _ _ _ => pts_nil) (fun _ _ _ _ _ => (pe_cmpR op_eq (pv 6) pe_int (nomark _)))) (pa_cons (pe_op op_cat (pe_op op_rep (pe_lst (pa_cons pe_bl pa_nil)) (pe_op op_sub (pv 2) pe_int)) (pe_lst (pa_cons pe_bl pa_nil))) pa_nil))) (pg_tup (by rfl) (pgs_cons (pg_name (i := 3) scBounds.nd rfl (.inr rfl)) (pgs_cons (pg_name (i := 4) scBounds.nd rfl (.inr rfl)) pgs_nil))))
      (pss_cons (ps_if (pt_cmpR (op_neD hr.units) (LamX.pe_lamcall (k := 5) (by rfl) FT.mg_ FT.kp FT.lk FT.cd FT.b scFault rfl (.inl rfl) (fault_gives ET EFi EL EM) TB rfl (List.mem_singleton.mpr rfl) (fun p hp _ => by rw [List.mem_singleton.mp hp]) (hr.mono (by decide)) (LamX.lamS_by (show LamX.lamSB (defScope sBounds) _ = true by decide +kernel)) rfl (fun _ _ _ _ _ => rfl) (fun A' outer' s' H' E' f' c' hr' => pe_make M FI (hr'.mono (by decide)) (by rfl) CW.mgC bI .nil (passX) (pa_cons (pe_lst pa_nil) (pa_cons (pv 3) pa_nil)))) (pe_ifExp (pt_cmpR op_gt (pv 1) pe_int (nomark _)) (pe_tup (pa_cons pe_str (pa_cons pe_int pa_nil))) pe_non) (nomark _)) (pss_one (ps_ret pe_bl)) pss_nil)
      (pss_cons (ps_if (pt_cmpR (op_neD hr.units) (LamX.pe_lamcall (k := 5) (by rfl) FT.mg_ FT.kp FT.lk FT.cd FT.b scFault rfl (.inl rfl) (fault_gives ET EFi EL EM) TB rfl (List.mem_singleton.mpr rfl) (fun p hp _ => by rw [List.mem_singleton.mp hp]) (hr.mono (by decide)) (LamX.lamS_by (show LamX.lamSB (defScope sBounds) _ = true by decide +kernel)) rfl (fun _ _ _ _ _ => rfl) (fun A' outer' s' H' E' f' c' hr' => pe_make M FI (hr'.mono (by decide)) (by rfl) CW.mgC bI .nil (passX) (pa_cons (pv 4) (pa_cons (pe_lst (pa_cons pe_bl pa_nil)) pa_nil)))) (pe_ifExp (pt_cmpR op_gt (pv 2) pe_int (nomark _)) (pe_tup (pa_cons pe_str (pa_cons pe_int pa_nil))) pe_non) (nomark _)) (pss_one (ps_ret pe_bl)) pss_nil)
      (pss_cons (ps_set (i := 5) scBounds.nd rfl (.inl rfl) (pe_ifExp (pt_cmpR op_gt (pv 2) pe_int (nomark _)) (pe_tup (pa_cons pe_str (pa_cons pe_int pa_nil))) pe_non))
      (pss_cons (ps_if (pt_cmpR (op_neD hr.units) (LamX.pe_lamcall (k := 5) (by rfl) FT.mg_ FT.kp FT.lk FT.cd FT.b scFault rfl (.inl rfl) (fault_gives ET EFi EL EM) TB rfl (List.mem_singleton.mpr rfl) (fun p hp _ => by rw [List.mem_singleton.mp hp]) (hr.mono (by decide)) (LamX.lamS_by (show LamX.lamSB (defScope sBounds) _ = true by decide +kernel)) rfl (fun _ _ _ _ _ => rfl) (fun A' outer' s' H' E' f' c' hr' => pe_make M FI (hr'.mono (by decide)) (by rfl) CW.mgC bI .nil (passX) (pa_cons (pv 4) (pa_cons (pe_op op_rep (pv 3) pe_int) pa_nil)))) (pe_ifExp (pt_cmpR op_gt (pv 1) pe_int (nomark _)) (pe_tup (pa_cons pe_str (pa_cons pe_int pa_nil))) (pv 5)) (nomark _)) (pss_one (ps_ret pe_bl)) pss_nil)
      (pss_one (ps_ret (pe_and (pe_cmpR op_eq (pe_fld (pe_make M FI (hr.mono (by decide)) (by rfl) CW.mgC bI .nil passF (pa_cons (pe_op op_rep (pe_lst (pa_cons pe_bl pa_nil)) (pv 2)) (pa_cons (pe_lst (pa_cons pe_bl pa_nil)) pa_nil))) rfl) pe_int (nomark _)) (pe_one (pe_cmpR op_eq (pe_fld (pe_make M FI (hr.mono (by decide)) (by rfl) CW.mgC bI .nil passF (pa_cons (pe_lst pa_nil) (pa_cons (pe_op op_rep (pe_lst (pa_cons pe_bl (pa_cons pe_bl pa_nil))) pe_int) pa_nil))) rfl) pe_int (nomark _)))))))))))), ?_⟩
    refine ⟨_, rfl, p, l, ns, a, b, _, rfl, hP, by omega, by decide, by decide, fun d1 a1 b1 H1 d10 d11 ha1 hP1 hK1 => ?_⟩
    refine ⟨_, _, rfl, rfl, ?_⟩
    refine ⟨_, rfl, p, l, ns, a1, b1, _, rfl, hP1, by omega, by decide, by decide, fun d2 a2 b2 H2 d20 d21 ha2 hP2 hK2 => ?_⟩
    refine ⟨_, _, rfl, rfl, ?_⟩
    have hT2 := tabs_kp (tabs_kp hT hK1 hP) hK2 hP1
    obtain ⟨m, hm⟩ : ∃ m : Nat, 719 + d1 = (m : Int) := ⟨(719 + d1).toNat, by omega⟩
    obtain ⟨n, hn⟩ : ∃ n : Nat, 9999 + d2 = ((n + 1 : Nat) : Int) := ⟨(9998 + d2).toNat, by omega⟩
    refine ⟨_, _, rfl, ?_⟩
    dsimp only
    rw [hm, hn]
    have m1 : 719 ≤ m := by omega
    have m2 : m ≤ 721 := by omega
    have n1 : 9998 ≤ n := by omega
    have n2 : n ≤ 10000 := by omega
    clear hm hn
    refine ⟨_, rfl, _, rfl, by omega, by omega, fun D hD => ?_⟩
    refine lc_range (lo := 0) (n := m) (fun i H' => Same H2 H' ∧ H' D = some (.lst (((List.range i).map fun k : Nat => decide ((k : Int) = 5)).map V.bl))) ⟨same_new hD, upd_same⟩ ?_ ?_
    · rintro i H4 hi ⟨s4, hA⟩
      refine ⟨rfl, _, rfl, rfl, _, hA, by rw [List.length_map, List.length_map, List.length_range]; exact small1000' (by omega), same_mut s4 hD, ?_⟩
      rw [upd_same, List.range_succ, List.map_append, List.map_append, Int.zero_add, dint']
      rfl
    · rintro H4 ⟨s4, hA⟩
      have hT4 := tabs_same hT2 s4
      have hA : H4 D = some (.lst ((onceL m).map V.bl)) := hA
      refine ⟨by show 1 ≤ sizeLine; decide, fun l0 hl0 => ?_⟩
      refine ⟨_, rfl, _, _, rfl, rfl, ?_⟩
      refine ⟨l0, ((n + 1 : Nat) : Int) - 1, _, rfl, rfl, upd_same, by omega, by omega, by show 1 * ((((n + 1 : Nat) : Int) - 1).toNat) ≤ sizeLine; exact Nat.le_trans (show 1 * ((((n + 1 : Nat) : Int) - 1).toNat) ≤ 100000 by omega) (by decide), fun l1 hl1 => ?_⟩
      have en : (((n + 1 : Nat) : Int) - 1).toNat = n := by omega
      rw [en]
      have s5 : Same H4 (upd (upd H4 l0 (.lst [.bl false])) l1 (.lst ((List.replicate n [V.bl false]).flatten))) := (same_new hl0).trans (same_new hl1)
      have e5 : (upd (upd H4 l0 (.lst [.bl false])) l1 (.lst ((List.replicate n [V.bl false]).flatten))) l1 = some (.lst ((List.replicate n false).map V.bl)) := by
        rw [upd_same, flat_repb]
      generalize upd (upd H4 l0 (.lst [.bl false])) l1 (.lst ((List.replicate n [V.bl false]).flatten)) = H5 at s5 e5 ⊢
      refine ⟨by show 1 ≤ sizeLine; decide, fun l2 hl2 => ?_⟩
      have s6 := s5.trans (same_new (o := .lst [.bl true]) hl2)
      have e6 : (upd H5 l2 (.lst [.bl true])) l2 = some (.lst [.bl true]) := upd_same
      have e5 := same_new (o := .lst [.bl true]) hl2 _ _ e5
      generalize upd H5 l2 (.lst [.bl true]) = H6 at s6 e5 e6 ⊢
      refine ⟨l1, l2, _, _, rfl, rfl, e5, e6, by rw [List.length_map, List.length_replicate]; exact Nat.le_trans (show n + 1 ≤ 100000 by omega) (by decide), fun L hL => ?_⟩
      have s7 := s6.trans (same_new (o := .lst ((List.replicate n false).map V.bl ++ [V.bl true])) hL)
      have eL : (upd H6 L (.lst ((List.replicate n false).map V.bl ++ [V.bl true]))) L = some (.lst ((lateT n).map V.bl)) := by rw [upd_same]; unfold lateT; rw [List.map_append]; rfl
      generalize upd H6 L (.lst ((List.replicate n false).map V.bl ++ [V.bl true])) = H7 at s7 eL ⊢
      refine ⟨by show 2 ≤ sizeLine; decide, fun t ht => ?_⟩
      have s8 := s7.trans (same_new (o := .tup [.ref D, .ref L]) ht)
      have e8 : (upd H7 t (.tup [.ref D, .ref L])) t = some (.tup [.ref D, .ref L]) := upd_same
      have eL := same_new (o := .tup [.ref D, .ref L]) ht _ _ eL
      generalize upd H7 t (.tup [.ref D, .ref L]) = H8 at s8 e8 eL ⊢
      refine ⟨t, _, rfl, .inl (.inl e8), rfl, _, _, rfl, _, _, rfl, rfl, ?_⟩
      have eD := s8 _ _ hA
      have hT8 := tabs_same hT4 s8
      -- the first fault
      refine ⟨hT8, fun H9 x9 hT9 => ?_⟩
      have eD := ext_of x9 eD (fun _ z => by cases z)
      have eL := ext_of x9 eL (fun _ z => by cases z)
      refine fault1 rfl rfl eD m1 m2 fun H10 s10 => ?_
      refine ⟨_, rfl, iteF ?_⟩
      have eD := s10 _ _ eD
      have eL := s10 _ _ eL
      refine ⟨tabs_same hT9 s10, fun H11 x11 hT11 => ?_⟩
      have eD := ext_of x11 eD (fun _ z => by cases z)
      have eL := ext_of x11 eL (fun _ z => by cases z)
      refine fault2 rfl rfl eL n1 n2 fun H12 s12 => ?_
      refine ⟨_, rfl, iteF ?_⟩
      have eD := s12 _ _ eD
      have eL := s12 _ _ eL
      have hT12 := tabs_same hT11 s12
      refine due_if (n := n) rfl n1 n2 fun v H13 s13 hv => ?_
      have eD := s13 _ _ eD
      have eL := s13 _ _ eL
      refine ⟨tabs_same hT12 s13, fun H14 x14 hT14 => ?_⟩
      have eD := ext_of x14 eD (fun _ z => by cases z)
      have eL := ext_of x14 eL (fun _ z => by cases z)
      refine fault3 rfl rfl rfl rfl eD eL (hv.ext x14) m1 m2 n1 n2 fun H15 s15 => ?_
      refine ⟨_, rfl, iteF ?_⟩
      refine ⟨by show 1 ≤ sizeLine; decide, fun l3 hl3 => ?_⟩
      have e3 : (upd H15 l3 (.lst [.bl true])) l3 = some (.lst [.bl true]) := upd_same
      generalize upd H15 l3 (.lst [.bl true]) = H16 at e3 ⊢
      refine ⟨_, rfl, l3, ((n + 1 : Nat) : Int), _, rfl, rfl, e3, by omega, by omega, by show 1 * (((n + 1 : Nat) : Int).toNat) ≤ sizeLine; exact Nat.le_trans (show 1 * (((n + 1 : Nat) : Int).toNat) ≤ 100000 by omega) (by decide), fun l4 hl4 => ?_⟩
      have e4 : (upd H16 l4 (.lst ((List.replicate ((n + 1 : Nat) : Int).toNat [V.bl true]).flatten))) l4 = some (.lst ((List.replicate (n + 1) true).map V.bl)) := by rw [upd_same, flat_repb]; rfl
      generalize upd H16 l4 (.lst ((List.replicate ((n + 1 : Nat) : Int).toNat [V.bl true]).flatten)) = H17 at e4 ⊢
      refine ⟨by show 1 ≤ sizeLine; decide, fun l5 hl5 => ?_⟩
      have e4 := same_new (o := .lst [.bl true]) hl5 _ _ e4
      have e5 : (upd H17 l5 (.lst [.bl true])) l5 = some (.lst ([true].map V.bl)) := upd_same
      generalize upd H17 l5 (.lst [.bl true]) = H18 at e4 e5 ⊢
      intro x dx nx ndx nex
      refine ⟨H18, x, dx, l4, l5, _, _, rfl, same_inst nx ndx, nx, upd_same, .inl (.inl (.inl e4)), .inl (.inl (.inl e5)), (by simp only [List.length_map, List.length_append, List.length_cons, List.length_nil, List.length_replicate, List.length_take, List.length_drop, onceL_len, lateT_len] at *; omega), (by simp only [List.length_map, List.length_append, List.length_cons, List.length_nil, List.length_replicate, List.length_take, List.length_drop, onceL_len, lateT_len] at *; omega), .inr ⟨_, rfl, .inr (.inr ⟨[true], rfl, by decide, by decide, by rw [List.length_replicate]; omega, fun m' s' hc => ?_⟩)⟩⟩
      have hm' : m' = 1 := per_one hc.dvd
      have hs' : s' = 0 := StartOk.uniq hc.start ⟨Nat.zero_le _, fun k _ hk => by
        rw [List.length_replicate] at hk
        rw [led_one, List.getD_eq_getElem?_getD, List.getElem?_replicate, if_pos hk]; rfl, .inl rfl⟩
      rw [hm', hs']
      refine .inr (.inr ⟨by decide, by decide, fun H19 s19 hw => ⟨rfl, ?_⟩⟩)
      obtain ⟨dy, ra, ba, ea, la, g1, g2, g3, g4, g5⟩ := hw
      refine ⟨x, C, dy, _, _, rfl, g1, CW.cl, CW.nS, wf_start, rfl, ?_⟩
      refine ⟨_, rfl, iteT ?_⟩
      refine ⟨by show 0 ≤ sizeLine; decide, fun l6 hl6 => ?_⟩
      have e6 : (upd H19 l6 (.lst [])) l6 = some (.lst (([] : List Bool).map V.bl)) := upd_same
      generalize upd H19 l6 (.lst []) = H20 at e6 ⊢
      refine ⟨by show 2 ≤ sizeLine; decide, fun l7 hl7 => ?_⟩
      have e6 := same_new (o := .lst [.bl false, .bl true]) hl7 _ _ e6
      have e7 : (upd H20 l7 (.lst [.bl false, .bl true])) l7 = some (.lst ([false, true].map V.bl)) := upd_same
      generalize upd H20 l7 (.lst [.bl false, .bl true]) = H21 at e6 e7 ⊢
      refine ⟨l7, 800, _, rfl, rfl, e7, by decide, by decide, by decide, fun l8 hl8 => ?_⟩
      have e6 := same_new (o := .lst ((List.replicate (800 : Int).toNat ([false, true].map V.bl)).flatten)) hl8 _ _ e6
      have e8 : (upd H21 l8 (.lst ((List.replicate (800 : Int).toNat ([false, true].map V.bl)).flatten))) l8 = some (.lst ((List.replicate 800 [false, true]).flatten.map V.bl)) := by rw [upd_same, map_flat_bl]; rfl
      generalize upd H21 l8 (.lst ((List.replicate (800 : Int).toNat ([false, true].map V.bl)).flatten)) = H22 at e6 e8 ⊢
      have hled : ∀ k, led (List.replicate 800 [false, true]).flatten k = led [false, true] k := fun k => led_rep (by decide) (by decide) k
      have hl2 : (List.replicate 800 [false, true]).flatten.length = 1600 := by rw [rep_len]; rfl
      intro y dy2 ny ndy ney
      refine ⟨H22, y, dy2, l6, l8, _, _, rfl, same_inst ny ndy, ny, upd_same, .inl (.inl (.inl e6)), .inl (.inl (.inl e8)), (by simp only [List.length_map, List.length_append, List.length_cons, List.length_nil, List.length_replicate, List.length_take, List.length_drop, onceL_len, lateT_len] at *; omega), (by simp only [List.length_map, List.length_append, List.length_cons, List.length_nil, List.length_replicate, List.length_take, List.length_drop, onceL_len, lateT_len] at *; omega), .inr ⟨[], rfl, .inr (.inr ⟨_, rfl, by omega, by omega, by decide, fun m2' s2' hc2 => ?_⟩)⟩⟩
      have hd2 : m2' ∣ 2 := hc2.least 2 fun i => by rw [hled, hled]; exact led_self [false, true] i
      have hm2 : m2' = 2 := by
        have h1 := Nat.le_of_dvd (by decide) hd2
        have h2 := hc2.m1
        rcases Nat.lt_or_ge m2' 2 with z | z
        · have e1 : m2' = 1 := by omega
          have hp := hc2.per 0
          rw [e1, hled, hled] at hp
          exact absurd hp (by decide)
        · omega
      have hs2 : s2' ≤ 0 := hc2.start.1
      rw [hm2]
      refine .inr (.inr ⟨by decide, by omega, fun H23 s23 hw2 => ⟨rfl, ?_⟩⟩)
      obtain ⟨dz, ra2, ba2, ea2, la2, k1, k2, k3, k4, k5⟩ := hw2
      refine ⟨y, C, dz, _, _, rfl, k1, CW.cl, CW.nP, wf_period, rfl, ?_⟩
      exact q _
end
end Ef
set_option Elab.async false
set_option linter.all false
set_option maxRecDepth 100000
set_option maxHeartbeats 8000000
namespace Ef
open PySem PySem.Spec PyProof.Rows L2
abbrev sLaw : Stmt := top 39
structure TxtL (mg : Str → Option Value) : Prop extends TxtI mg where
  min : mg "min" = none
theorem hu2 {PT PB : Addr} {a b : Str} (n : ¬ PB = PT) : ∀ p ∈ [(PT, a), (PB, b)], p.1 = PT → p.2 = a := fun p hp e => (List.mem_cons.mp hp).elim (fun z => by rw [z]) fun z => absurd ((congrArg Prod.fst (List.mem_singleton.mp z)).symm.trans e) n
theorem sqt_lst {K : PySem.W.Frag} {H : Hp} {q l : Addr} {ys xs : List V} {o : HO} (h2 : SqT K H q xs) (hl : H l = some (.lst ys)) : SqT K (upd H l o) q xs := by
  rcases h2 with (h | ⟨z, h⟩) | h
  · exact .inl (.inl (by rw [upd_ne (ne_of h hl (by intro q; cases q))]; exact h))
  · exact .inl (.inr ⟨z, by rw [upd_ne (ne_of h hl (by intro q; cases q))]; exact h⟩)
  · exact .inr h
theorem WAt.lst {K : PySem.W.Frag} {C : Addr} {H : Hp} {q l : Addr} {m s : Nat} {bs rs : List Bool} {ys : List V} {o : HO} (h : WAt K C H q m s bs rs) (hl : H l = some (.lst ys)) : WAt K C (upd H l o) q m s bs rs := by
  obtain ⟨dx, ra, ba, ea, la, h1, h2, h3, h4, h5⟩ := h
  exact ⟨dx, ra, ba, ea, la, by rw [upd_ne (ne_of h1 hl (by intro q; cases q))]; exact h1, sqt_lst h2 hl, sqt_lst h3 hl, sqt_lst h4 hl, sqt_lst h5 hl⟩
theorem ixN_ok {n : Nat} {i : Int} (h0 : 0 ≤ i) (h : i.toNat < n) : ixN n i = some i.toNat := by
  unfold ixN
  rw [if_pos h0, if_pos (by omega)]
theorem atI_ok {xs : List V} {i : Int} {v : V} (h0 : 0 ≤ i) (h : xs[i.toNat]? = some v) : atI xs i = some v := by
  have hl : i.toNat < xs.length := by
    rcases Nat.lt_or_ge i.toNat xs.length with z | z
    · exact z
    · rw [List.getElem?_eq_none z] at h; cases h
  unfold atI
  rw [ixN_ok h0 hl]
  exact h
/-- the truths with one turned -/
def truthL (bs rs : List Bool) (k : Nat) : List Bool := ((List.range (bs.length + rs.length)).map (ftr bs rs)).set k (!(ftr bs rs k))
theorem truthL_len (bs rs : List Bool) (k : Nat) : (truthL bs rs k).length = bs.length + rs.length := by unfold truthL; rw [List.length_set, List.length_map, List.length_range]
theorem truthL_ne {bs rs : List Bool} {k : Nat} (h : k < bs.length + rs.length) : ftr (truthL bs rs k) rs k ≠ ftr bs rs k := by
  have e : ftr (truthL bs rs k) rs k = (truthL bs rs k).getD k false := by
    show (if k < (truthL bs rs k).length then (truthL bs rs k).getD k false else led rs k) = _
    rw [truthL_len, if_pos h]
  have e2 : (truthL bs rs k).getD k false = !(ftr bs rs k) := by
    unfold truthL
    rw [List.getD_eq_getElem?_getD, List.getElem?_set_self (by rw [List.length_map, List.length_range]; exact h)]
    rfl
  rw [e, e2]
  cases ftr bs rs k <;> exact fun z => by cases z
theorem sixty {bs rs : List Bool} (hr : 1 ≤ rs.length) (hb : bs.length ≤ 14) : (List.range rs.length).map (fun i => ftr bs rs (60 * rs.length + i)) = rs := by
  refine List.ext_getElem? fun i => ?_
  rw [List.getElem?_map]
  rcases Nat.lt_or_ge i rs.length with z | z
  · rw [List.getElem?_range z, led_lt z]
    show some (ftr bs rs (60 * rs.length + i)) = _
    unfold ftr
    rw [if_neg (by omega), Nat.add_comm, Nat.mul_comm, (led_self rs).mul 60 i]
  · rw [List.getElem?_eq_none (by rw [List.length_range]; exact z), List.getElem?_eq_none z]
    rfl
section
variable {P : Program} {w : World} {K : PySem.W.Frag} {mg : Str → Option Value} {base : Heap}
def spLaw (K : PySem.W.Frag) (PT PB : Addr) : Sp := fun vs H Q _ => ∃ (a : Addr) (ns : List Int), vs = [.ref a] ∧ SqL K H a (ns.map V.int) ∧ ns.length ≤ 63 ∧ LamX.Tabs [(PT, ("law.<locals>.<lambda>" : Str)), (PB, ("_law_bounds_kept.<locals>.<lambda>" : Str))] H ∧ ∀ H', Q (.bl true) H'
theorem scLaw : FnScope ["script", "pen", "turn", "model", "below", "rests", "where", "twin", "longer", "at", "truths", "odd", "bad", "n"] ["script"] (defScope sLaw) := ⟨rfl, rfl, rfl, by decide +kernel, rfl, by decide +kernel, by decide +kernel⟩
theorem ok_law {f C CT CF CL fT fF fL fI g cL PT PB : Addr} {fdI : FuncData} {oc oc2 kV doc pm ct kV2 doc2 pm2 cdv2 ct2 : Value} {od an od2 an2 : Option Addr} {osl osl2 : Array (Option Value)}
    (lk : K.lookup f = some ⟨oc, od, .func (PySem.W.fnOf "law" "law" (defArgs sLaw) (defBody sLaw) (defScope sLaw) .none kV doc pm an (.ref cL) ct), osl⟩) (hcd : PySem.W.codeIn K (.ref cL) "law" = true)
    (T : TxtL mg) (CW : ClsQ K mg C) (M : Mk K C fI) (FI : FnOk P w K mg base (CX P w) 4 fI fdI ["self", "below", "rests"] (spInit K C CT CF CL)) (bI : Binds K fdI ["self", "below", "rests"] [])
    (OE : Own P w K mg base 1 C "__eq__" ["self", "other"] (spEq K C)) (hne : PySem.W.findIn K (.ref C) "__ne__" = some (some (.builtin "object.__ne__")))
    (FT : FaultAt K mg g oc2 od2 an2 kV2 doc2 pm2 cdv2 ct2 osl2) (ET : ErrF K mg "BadTruth" "index" CT fT) (EFi : ErrF K mg "TooFine" "most" CF fF) (EL : ErrF K mg "TooLate" "most" CL fL) (EM : ErrM K CT CF CL) (TB : LamX.TabB base mg cL PT) (nPB : ¬ PB = PT)
    (Dpen : Df P w K mg base 1 "_law_pen" ["script"] (spPen K)) (Ddraw : Df P w K mg base 1 "_law_draw" ["pen", "many"] spDraw) (Dpick : Df P w K mg base 2 "_law_pick" ["pen", "some"] (spPick K))
    (Dmodel : Df P w K mg base 3 "_law_model" ["pen", "most", "periods"] (spModel K)) (Dtruth : Df P w K mg base 1 "_law_truth" ["model", "n"] spTruth) (Disw : Df P w K mg base 2 "_law_is_where" ["where", "model"] (spIsw K C)) (Dwhere : Df P w K mg base 6 "_law_where" ["model"] (spWhere K C)) (Dlonger : Df P w K mg base 2 "_law_longer" ["pen", "model"] spLonger) (Dbounds : Df P w K mg base 8 "_law_bounds_kept" ["pen"] (spBounds K PB)) :
    FnOk P w K mg base CX0 9 f (PySem.W.fnOf "law" "law" (defArgs sLaw) (defBody sLaw) (defScope sLaw) .none kV doc pm an (.ref cL) ct) ["script"] (spLaw K PT PB) := by
  refine fn_of lk hcd scLaw (fun vs H Q E h => ?_) (fun A outer s H vs Q E hr h => ?_)
  · obtain ⟨a, ns, rfl, _⟩ := h
    rfl
  · obtain ⟨a, ns, rfl, hS, hlen, hTab, q⟩ := h
    refine ⟨_, PSs.nox (pss_cons (ps_set (i := 1) scLaw.nd rfl (.inl rfl) (Dpen.call (hr.mono (by decide)) (pa_cons (pv 0) pa_nil)))
      (pss_cons (ps_for PassesOwn.never rfl (pi_range1 (by rfl) T.range (pa_cons (pe_op op_add pe_int (pe_callB (call_min2 rfl) (by rfl) T.min (by decide +kernel) (pa_cons pe_int (pa_cons (pe_callB call_len_seq (by rfl) T.len PySem.boot_len (pa_cons (pv 0) pa_nil)) pa_nil)))) pa_nil)) (pg_name (i := 2) scLaw.nd rfl (.inl rfl))
      (pss_cons (ps_set (i := 3) scLaw.nd rfl (.inr rfl) (Dmodel.call (hr.mono (by decide)) (pa_cons (pv 1) (pa_cons pe_int (pa_cons (pe_lst (pa_cons pe_int (pa_cons pe_int (pa_cons pe_int (pa_cons pe_int (pa_cons pe_int (pa_cons pe_int (pa_cons pe_int (pa_cons pe_int pa_nil))))))))) pa_nil)))))
      (pss_cons (ps_par (i := 4) (j := 5) (by rfl) scLaw.nd rfl rfl (by decide) rfl rfl (pa_cons (pe_callTy call_list_of (by rfl) T.list (by decide +kernel) (pa_cons (pe_ix ix_tup (pv 3) pe_int (fun _ _ => rfl)) pa_nil)) (pa_cons (pe_callTy call_list_of (by rfl) T.list (by decide +kernel) (pa_cons (pe_ix ix_tup (pv 3) pe_int (fun _ _ => rfl)) pa_nil)) pa_nil)) (by rfl))
      (pss_cons (ps_par (i := 6) (j := 7) (by rfl) scLaw.nd rfl rfl (by decide) rfl rfl (pa_cons (pe_make M FI (hr.mono (by decide)) (by rfl) CW.mgC bI .nil passF (pa_cons (pv 4) (pa_cons (pv 5) pa_nil))) (pa_cons (pe_make M FI (hr.mono (by decide)) (by rfl) CW.mgC bI .nil passF (pa_cons (pe_callTy call_tuple_of (by rfl) T.tuple (by decide +kernel) (pa_cons (pe_ix ix_tup (pv 3) pe_int (fun _ _ => rfl)) pa_nil)) (pa_cons (pe_callTy call_tuple_of (by rfl) T.tuple (by decide +kernel) (pa_cons (pe_ix ix_tup (pv 3) pe_int (fun _ _ => rfl)) pa_nil)) pa_nil))) pa_nil)) (by rfl))
      (pss_cons (ps_expr (pe_bm PySem.F.plainAttrs_list PySem.F.slot_list_append PySem.F.type_list_append mt_append (pv 4) (pa_cons pe_bl pa_nil)))
      (pss_cons (ps_expr (pe_bm0 PySem.F.plainAttrs_list PySem.F.slot_list_clear PySem.F.type_list_clear mt_clear (pv 5)))
      (pss_cons (ps_if (pw_or (pt_not (pt_val (Disw.call (hr.mono (by decide)) (pa_cons (pv 6) (pa_cons (pv 3) pa_nil))))) (pw_or (pt_cmpR (op_ne_ownT OE (hr.mono (by decide)) CW.sl hne CW.co) (pv 6) (pv 7) (nomark _)) (pw_or1 (pt_cmpR (op_ownT rfl rfl OE (hr.mono (by decide)) CW.sl) (pv 6) (pe_tup (pa_cons (pe_fld (pv 6) rfl) (pa_cons (pe_fld (pv 6) rfl) pa_nil))) (nomark _))))).pt (pss_one (ps_ret pe_bl)) pss_nil)
      (pss_cons (ps_set (i := 8) scLaw.nd rfl (.inl rfl) (Dwhere.call (hr.mono (by decide)) (pa_cons (Dlonger.call (hr.mono (by decide)) (pa_cons (pv 1) (pa_cons (pv 3) pa_nil))) pa_nil)))
      (pss_cons (ps_if (pw_or (pt_not (pt_val (Disw.call (hr.mono (by decide)) (pa_cons (pv 8) (pa_cons (pv 3) pa_nil))))) (pw_or1 (pt_cmpR (op_ne_ownT OE (hr.mono (by decide)) CW.sl hne CW.co) (pv 8) (pv 6) (nomark _)))).pt (pss_one (ps_ret pe_bl)) pss_nil)
      (pss_cons (ps_set (i := 9) scLaw.nd rfl (.inl rfl) (Ddraw.call (hr.mono (by decide)) (pa_cons (pv 1) (pa_cons (pe_op op_add (pe_callB call_len_seq (by rfl) T.len PySem.boot_len (pa_cons (pe_ix ix_tup (pv 3) pe_int (fun _ _ => rfl)) pa_nil)) (pe_callB call_len_seq (by rfl) T.len PySem.boot_len (pa_cons (pe_ix ix_tup (pv 3) pe_int (fun _ _ => rfl)) pa_nil))) pa_nil))))
      (pss_cons (ps_setLc (i := 10) (own := [("n", 13)]) (g := gName 13) (by rfl) scLaw.nd rfl rfl (sw_true rfl rfl rfl (by decide +kernel)) (pi_range1 (by rfl) T.range (pa_cons (pe_op op_add (pe_callB call_len_seq (by rfl) T.len PySem.boot_len (pa_cons (pe_ix ix_tup (pv 3) pe_int (fun _ _ => rfl)) pa_nil)) (pe_callB call_len_seq (by rfl) T.len PySem.boot_len (pa_cons (pe_ix ix_tup (pv 3) pe_int (fun _ _ => rfl)) pa_nil))) pa_nil)) (blkOk_by (own := [("n", 13)]) (N := ["script", "pen", "turn", "model", "below", "rests", "where", "twin", "longer", "at", "truths", "odd", "bad", "n"]) (sc := defScope sLaw) (by decide +kernel)) (fun _ _ _ _ _ => pg_name (i := 13) scLaw.nd rfl (Or.inl rfl)) (fun _ _ _ _ _ => pts_nil) (fun _ _ _ _ _ => (Dtruth.call (hr.mono (by decide)) (pa_cons (pv 3) (pa_cons (pv 13) pa_nil)))))
      (pss_cons (ps_asg (pe_not (pe_ix ix_list (pv 10) (pv 9) (fun _ _ => rfl))) (pg_sub (pv 10) (pv 9) set_list))
      (pss_cons (ps_if (pt_cmpR (op_ownT rfl rfl OE (hr.mono (by decide)) CW.sl) (pe_make M FI (hr.mono (by decide)) (by rfl) CW.mgC bI .nil passF (pa_cons (pv 10) (pa_cons (pe_lc (own := [("n", 13)]) (g := gName 13) (by rfl) scLaw.nd (pi_range2 (by rfl) T.range (pa_cons (pe_op op_mul pe_int (pe_callB call_len_seq (by rfl) T.len PySem.boot_len (pa_cons (pe_ix ix_tup (pv 3) pe_int (fun _ _ => rfl)) pa_nil))) (pa_cons (pe_op op_mul pe_int (pe_callB call_len_seq (by rfl) T.len PySem.boot_len (pa_cons (pe_ix ix_tup (pv 3) pe_int (fun _ _ => rfl)) pa_nil))) pa_nil))) (blkOk_by (own := [("n", 13)]) (N := ["script", "pen", "turn", "model", "below", "rests", "where", "twin", "longer", "at", "truths", "odd", "bad", "n"]) (sc := defScope sLaw) (by decide +kernel)) (fun _ _ _ _ _ => pg_name (i := 13) scLaw.nd rfl (Or.inl rfl)) (fun _ _ _ _ _ => pts_nil) (fun _ _ _ _ _ => (Dtruth.call (hr.mono (by decide)) (pa_cons (pv 3) (pa_cons (pv 13) pa_nil))))) pa_nil))) (pv 6) (nomark _)) (pss_one (ps_ret pe_bl)) pss_nil)
      (pss_cons (ps_set (i := 11) scLaw.nd rfl (.inr rfl) (Dpick.call (hr.mono (by decide)) (pa_cons (pv 1) (pa_cons (pe_lst (pa_cons pe_int (pa_cons pe_int (pa_cons pe_non (pa_cons pe_str (pa_cons (pe_lst pa_nil) pa_nil)))))) pa_nil))))
      (pss_cons (ps_set (i := 9) scLaw.nd rfl (.inl rfl) (Ddraw.call (hr.mono (by decide)) (pa_cons (pv 1) (pa_cons (pe_op op_add (pe_callB call_len_seq (by rfl) T.len PySem.boot_len (pa_cons (pe_ix ix_tup (pv 3) pe_int (fun _ _ => rfl)) pa_nil)) pe_int) pa_nil))))
      (pss_cons (ps_set (i := 12) scLaw.nd rfl (.inr rfl) (pe_op op_cat (pe_op op_cat (pe_slice sl_list (pe_ix ix_tup (pv 3) pe_int (fun _ _ => rfl)) po_none (po_some (pv 9))) (pe_lst (pa_cons (pv 11) pa_nil))) (pe_slice sl_list (pe_ix ix_tup (pv 3) pe_int (fun _ _ => rfl)) (po_some (pv 9)) po_none)))
      (pss_cons (ps_if (pt_cmpR (op_neD hr.units) (LamX.pe_lamcall (k := 5) (by rfl) FT.mg_ FT.kp FT.lk FT.cd FT.b scFault rfl (.inl rfl) (fault_gives ET EFi EL EM) TB rfl (show (PT, ("law.<locals>.<lambda>" : Str)) ∈ [(PT, ("law.<locals>.<lambda>" : Str)), (PB, ("_law_bounds_kept.<locals>.<lambda>" : Str))] from List.Mem.head _) (hu2 nPB) (hr.mono (by decide)) (LamX.lamS_by (show LamX.lamSB (defScope sLaw) _ = true by decide +kernel)) rfl (fun _ _ _ _ _ => rfl) (fun A' outer' s' H' E' f' c' hr' => pe_make M FI (hr'.mono (by decide)) (by rfl) CW.mgC bI .nil (passX) (pa_cons (pv 12) (pa_cons (pe_lst pa_nil) pa_nil)))) (pe_tup (pa_cons pe_str (pa_cons (pv 9) pa_nil))) (nomark _)) (pss_one (ps_ret pe_bl)) pss_nil)
      (pss_cons (ps_if (pt_cmpR (op_neD hr.units) (LamX.pe_lamcall (k := 5) (by rfl) FT.mg_ FT.kp FT.lk FT.cd FT.b scFault rfl (.inl rfl) (fault_gives ET EFi EL EM) TB rfl (show (PT, ("law.<locals>.<lambda>" : Str)) ∈ [(PT, ("law.<locals>.<lambda>" : Str)), (PB, ("_law_bounds_kept.<locals>.<lambda>" : Str))] from List.Mem.head _) (hu2 nPB) (hr.mono (by decide)) (LamX.lamS_by (show LamX.lamSB (defScope sLaw) _ = true by decide +kernel)) rfl (fun _ _ _ _ _ => rfl) (fun A' outer' s' H' E' f' c' hr' => pe_make M FI (hr'.mono (by decide)) (by rfl) CW.mgC bI .nil (passX) (pa_cons (pe_ix (show IxR _ (rIxT K) from ix_tup) (pv 3) pe_int (fun _ _ => rfl)) (pa_cons (pe_lst pa_nil) pa_nil)))) (pe_tup (pa_cons pe_str (pa_cons pe_int pa_nil))) (nomark _)) (pss_one (ps_ret pe_bl)) pss_nil)
      (pss_one (ps_if (pt_cmpR (op_neD hr.units) (LamX.pe_lamcall (k := 5) (by rfl) FT.mg_ FT.kp FT.lk FT.cd FT.b scFault rfl (.inl rfl) (fault_gives ET EFi EL EM) TB rfl (show (PT, ("law.<locals>.<lambda>" : Str)) ∈ [(PT, ("law.<locals>.<lambda>" : Str)), (PB, ("_law_bounds_kept.<locals>.<lambda>" : Str))] from List.Mem.head _) (hu2 nPB) (hr.mono (by decide)) (LamX.lamS_by (show LamX.lamSB (defScope sLaw) _ = true by decide +kernel)) rfl (fun _ _ _ _ _ => rfl) (fun A' outer' s' H' E' f' c' hr' => pe_make M FI (hr'.mono (by decide)) (by rfl) CW.mgC bI .nil (passX) (pa_cons (pe_ix (show IxR _ (rIxT K) from ix_tup) (pv 3) pe_int (fun _ _ => rfl)) (pa_cons (pe_op op_cat (pe_ix (show IxR _ (rIxT K) from ix_tup) (pv 3) pe_int (fun _ _ => rfl)) (pe_lst (pa_cons (pv 11) pa_nil))) pa_nil)))) (pe_tup (pa_cons pe_str (pa_cons (pe_callB call_len_seq (by rfl) T.len PySem.boot_len (pa_cons (pe_ix ix_tup (pv 3) pe_int (fun _ _ => rfl)) pa_nil)) pa_nil))) (nomark _)) (pss_one (ps_ret pe_bl)) pss_nil))))))))))))))))))))
      (pss_one (ps_ret (Dbounds.call (hr.mono (by decide)) (pa_cons (pv 1) pa_nil)))))), ?_⟩
    refine ⟨_, rfl, a, ns, rfl, hS, hlen, fun p l H0 hp0 s0 hP0 => ?_⟩
    refine ⟨_, rfl, a, _, rfl, .inl (s0.seq hS), _, _, rfl, _, _, rfl, rfl, ?_⟩
    have hz : ∃ z : Int, (if (((ns.map V.int).length : Nat) : Int) < 6 then (((ns.map V.int).length : Nat) : Int) else 6) = z ∧ 0 ≤ z ∧ z ≤ 6 := by
      refine ⟨_, rfl, ?_, ?_⟩ <;> split <;> omega
    obtain ⟨z, ez, z0, z6⟩ := hz
    rw [ez]
    refine ⟨_, rfl, by omega, by omega, ?_⟩
    have hT0 := tabs_same hTab s0
    refine for_range (lo := 0) (n := (6 + z).toNat) (fun i σ H' => ∃ (a' b' : Int) (y2 y3 y4 y5 y6 y7 y8 y9 y10 y11 y12 y13 : Option V), Pen H' p l ns a' b' ∧ a' ≤ 10000 * i ∧ LamX.Tabs [(PT, ("law.<locals>.<lambda>" : Str)), (PB, ("_law_bounds_kept.<locals>.<lambda>" : Str))] H' ∧ σ = [some (.ref a), some (.ref p), y2, y3, y4, y5, y6, y7, y8, y9, y10, y11, y12, y13])
      ⟨0, 0, none, none, none, none, none, none, none, none, none, none, none, none, hP0, by omega, hT0, rfl⟩ ?_ ?_
    · rintro i σ H1 hi ⟨a1, b1, y2, y3, y4, y5, y6, y7, y8, y9, y10, y11, y12, y13, hP1, ha1, hT1, rfl⟩
      have hi9 : i < 12 := by omega
      -- the model
      refine ⟨_, rfl, by show 8 ≤ sizeLine; decide, fun lq hlq => ?_⟩
      have hPq := hP1.same (same_new (o := .lst ([1, 2, 3, 4, 6, 12, 24, 5].map V.int)) hlq)
      have eq_ : (upd H1 lq (.lst ([1, 2, 3, 4, 6, 12, 24, 5].map V.int))) lq = some (.lst ([1, 2, 3, 4, 6, 12, 24, 5].map V.int)) := upd_same
      have hT2 := tabs_same hT1 (same_new (o := .lst ([1, 2, 3, 4, 6, 12, 24, 5].map V.int)) hlq)
      have nq : lq ≠ p := ne_of eq_ hPq.hd (by intro q; cases q)
      refine ⟨p, l, lq, ns, a1, b1, 14, [1, 2, 3, 4, 6, 12, 24, 5], rfl, hPq, by omega, by decide, by decide, .inl (.inl upd_same), nq, by decide, by decide, by decide, fun r rb rr bs rs a3 b3 H3 nr nrb nrr er erb err hbl hrl ha3 hP3 hK3 => ?_⟩
      have hr : 1 ≤ rs.length ∧ rs.length ≤ 24 := by
        simp only [List.mem_cons, List.not_mem_nil, or_false] at hrl
        omega
      obtain ⟨hr1, hr2⟩ := hr
      have hb2 : bs.length ≤ 14 := by omega
      have hT3 := tabs_kp hT2 hK3 hPq
      -- below, rests
      refine ⟨_, rfl, r, _, 0, _, rfl, rfl, .inl (.inl er), rfl, rb, _, rfl, .inl (.inl (.inl erb)), fun l4 hl4 => ?_⟩
      have s4 : Same H3 (upd H3 l4 (.lst (bs.map V.bl))) := same_new hl4
      have e4 : (upd H3 l4 (.lst (bs.map V.bl))) l4 = some (.lst (bs.map V.bl)) := upd_same
      generalize upd H3 l4 (.lst (bs.map V.bl)) = H4 at s4 e4 ⊢
      refine ⟨_, rfl, r, _, 1, _, rfl, rfl, .inl (.inl (s4 _ _ er)), rfl, rr, _, rfl, .inl (.inl (.inl (s4 _ _ err))), fun l5 hl5 => ?_⟩
      have hl5' : H3 l5 = none := s4.free hl5
      have n54 : l4 ≠ l5 := ne_of_none e4 hl5
      have s5 : Same H4 (upd H4 l5 (.lst (rs.map V.bl))) := same_new hl5
      have e5 : (upd H4 l5 (.lst (rs.map V.bl))) l5 = some (.lst (rs.map V.bl)) := upd_same
      generalize upd H4 l5 (.lst (rs.map V.bl)) = H5 at s5 e5 ⊢
      refine ⟨_, _, rfl, ?_⟩
      -- where
      refine ⟨_, rfl, _, rfl, ?_⟩
      intro x6 dx6 nx6 ndx6 nex6
      refine ⟨H5, x6, dx6, l4, l5, _, _, rfl, same_inst nx6 ndx6, nx6, upd_same, .inl (.inl (.inl (s5 _ _ e4))), .inl (.inl (.inl e5)), (by simp only [List.length_map, List.length_append, List.length_cons, List.length_nil, List.length_replicate, List.length_take, List.length_drop, onceL_len, lateT_len, truthL_len] at *; omega), (by simp only [List.length_map, List.length_append, List.length_cons, List.length_nil, List.length_replicate, List.length_take, List.length_drop, onceL_len, lateT_len, truthL_len] at *; omega), MadeX.good hr1 (by omega) (by omega) fun m st H6 hc s6 hw6 => ⟨rfl, ?_⟩⟩
      have s36 := s4.trans (s5.trans s6)
      -- twin
      refine ⟨_, rfl, r, _, 0, _, rfl, rfl, .inl (.inl (s36 _ _ er)), rfl, rb, _, rfl, .inl ⟨.inl (.inl (s36 _ _ erb)), fun t7 ht7 => ?_⟩⟩
      have s7 : Same H6 (upd H6 t7 (.tup (bs.map V.bl))) := same_new ht7
      have e7 : (upd H6 t7 (.tup (bs.map V.bl))) t7 = some (.tup (bs.map V.bl)) := upd_same
      generalize upd H6 t7 (.tup (bs.map V.bl)) = H7 at s7 e7 ⊢
      refine ⟨_, rfl, r, _, 1, _, rfl, rfl, .inl (.inl (s7 _ _ (s36 _ _ er))), rfl, rr, _, rfl, .inl ⟨.inl (.inl (s7 _ _ (s36 _ _ err))), fun t8 ht8 => ?_⟩⟩
      have s8 : Same H7 (upd H7 t8 (.tup (rs.map V.bl))) := same_new ht8
      have e8 : (upd H7 t8 (.tup (rs.map V.bl))) t8 = some (.tup (rs.map V.bl)) := upd_same
      generalize upd H7 t8 (.tup (rs.map V.bl)) = H8 at s8 e8 ⊢
      intro x9 dx9 nx9 ndx9 nex9
      refine ⟨H8, x9, dx9, t7, t8, _, _, rfl, same_inst nx9 ndx9, nx9, upd_same, .inr (.inl (.inl (s8 _ _ e7))), .inr (.inl (.inl e8)), (by simp only [List.length_map, List.length_append, List.length_cons, List.length_nil, List.length_replicate, List.length_take, List.length_drop, onceL_len, lateT_len, truthL_len] at *; omega), (by simp only [List.length_map, List.length_append, List.length_cons, List.length_nil, List.length_replicate, List.length_take, List.length_drop, onceL_len, lateT_len, truthL_len] at *; omega), MadeX.good hr1 (by omega) (by omega) fun m2 st2 H9 hc2 s9 hw9 => ⟨rfl, ?_⟩⟩
      obtain ⟨em, es, -, -⟩ := canon_ext hr1 hr1 hc2 hc (fun _ => rfl)
      subst em
      subst es
      refine ⟨_, _, rfl, ?_⟩
      have s69 := s7.trans (s8.trans s9)
      have s39 := s36.trans s69
      have hw6 := hw6.same s69
      have e4 := s69 _ _ (s6 _ _ (s5 _ _ e4))
      have e5 := s69 _ _ (s6 _ _ e5)
      -- append
      refine ⟨_, rfl, .inl ⟨rfl, _, .inl (.inl e4)⟩, l4, _, _, rfl, rfl, e4, by rw [List.length_map]; exact small1000' (by omega), ?_⟩
      have hw6 := hw6.lst (o := .lst (bs.map V.bl ++ [.bl true])) e4
      have hw9 := hw9.lst (o := .lst (bs.map V.bl ++ [.bl true])) e4
      have sA : Same H3 (upd H9 l4 (.lst (bs.map V.bl ++ [.bl true]))) := same_mut s39 hl4
      have e5 : (upd H9 l4 (.lst (bs.map V.bl ++ [.bl true]))) l5 = some (.lst (rs.map V.bl)) := by rw [upd_ne (Ne.symm n54)]; exact e5
      generalize upd H9 l4 (.lst (bs.map V.bl ++ [.bl true])) = H10 at hw6 hw9 sA e5 ⊢
      -- clear
      refine ⟨_, rfl, .inl ⟨rfl, _, .inl (.inl e5)⟩, l5, _, rfl, rfl, e5, ?_⟩
      have hw6 := hw6.lst (o := .lst []) e5
      have hw9 := hw9.lst (o := .lst []) e5
      have sB : Same H3 (upd H10 l5 (.lst [])) := same_mut sA hl5'
      generalize upd H10 l5 (.lst []) = H11 at hw6 hw9 sB ⊢
      have hP11 := hP3.same sB
      have hT11 := tabs_same hT3 sB
      have er := sB _ _ er
      have erb := sB _ _ erb
      have err := sB _ _ err
      -- is_where
      refine ⟨_, rfl, _, rfl, x6, r, _, _, bs, rs, bs, rs, rfl, hw6, ⟨rb, rr, er, erb, err⟩, hr1, by omega, by omega, hc, rfl, rfl, fun H12 s12 => ?_⟩
      refine ⟨_, rfl, iteF ?_⟩
      have hP12 := hP11.same s12
      have hT12 := tabs_same hT11 s12
      have hw6 := hw6.same s12
      have hw9 := hw9.same s12
      have er := s12 _ _ er
      have erb := s12 _ _ erb
      have err := s12 _ _ err
      have hw6' := hw6
      obtain ⟨dy, ra, ba, ea, la, g1, g2, g3, g4, g5⟩ := hw6'
      have hw9' := hw9
      obtain ⟨dz, ra2, ba2, ea2, la2, k1, k2, k3, k4, k5⟩ := hw9'
      refine ⟨_, rfl, _, rfl, x6, dy, _, rfl, g1, .inl ⟨x9, dz, _, rfl, k1⟩, x6, .ref x9, _, _, bs, rs, rfl, hw6, .inl ⟨x9, _, _, bs, rs, rfl, hw9, _, rfl, ?_⟩⟩
      rw [decide_eq_true ⟨rfl, rfl⟩]
      refine ⟨_, rfl, iteF ?_⟩
      -- where == (where.below, where.rests)
      refine ⟨_, rfl, _, rfl, x6, C, dy, _, _, rfl, g1, CW.cl, CW.nB, wf_below, _, rfl, x6, C, dy, _, _, rfl, g1, CW.cl, CW.nR, wf_rests, by show 2 ≤ sizeLine; decide, fun tw htw => ?_⟩
      have s13 := same_new (o := .tup [.ref ba, .ref ra]) htw
      have e13 : (upd H12 tw (.tup [.ref ba, .ref ra])) tw = some (.tup [.ref ba, .ref ra]) := upd_same
      generalize upd H12 tw (.tup [.ref ba, .ref ra]) = H13 at s13 e13 ⊢
      have hP13 := hP12.same s13
      have hT13 := tabs_same hT12 s13
      have hw6 := hw6.same s13
      have er := s13 _ _ er
      have erb := s13 _ _ erb
      have err := s13 _ _ err
      refine ⟨x6, dy, _, rfl, s13 _ _ g1, .inr (.inr ⟨tw, _, rfl, e13⟩), x6, .ref tw, _, _, bs, rs, rfl, hw6, .inr ⟨tw, _, rfl, e13, _, rfl, ?_⟩⟩
      refine ⟨_, rfl, iteF ?_⟩
      -- longer
      have nrp : r ≠ p := ne_of er hP13.hd (by intro q; cases q)
      refine ⟨_, rfl, _, rfl, p, l, r, ns, a3, b3, bs, rs, rfl, hP13, by omega, ⟨rb, rr, er, erb, err⟩, nrp, hr1, hr2, hb2, fun tL j k a4 b4 H14 ntp ha4 hP14 hK14 hML hk1 hk3 hj => ?_⟩
      have hT14 := tabs_kp hT13 hK14 hP13
      have x14 := Kx.of_kp hK14
      have hw6 := x14.wat hP13.hd hw6
      have er := x14.tup hP13.hd er
      have erb := x14.lst hP13.hd erb
      have err := x14.lst hP13.hd err
      have hlen2 : (List.replicate k rs).flatten.length = rs.length * k := rep_len rs k
      have hlen3 : rs.length * k ≤ 24 * 3 := Nat.mul_le_mul hr2 hk3
      have hlen4 : 1 ≤ rs.length * k := Nat.mul_pos hr1 hk1
      refine ⟨tL, _, _, rfl, hML, by omega, by omega, by rw [longL_len]; omega, fun x15 H15 m3 st3 nx15 s15 hc3 hw15 => ?_⟩
      obtain ⟨em3, es3, er3, eb3⟩ := canon_ext (by omega) hr1 hc3 hc (longL_ftr hr1 hk1)
      subst em3
      subst es3
      have hP15 := hP14.same s15
      have hT15 := tabs_same hT14 s15
      have hw6 := hw6.same s15
      have er := s15 _ _ er
      have erb := s15 _ _ erb
      have err := s15 _ _ err
      refine ⟨_, rfl, _, rfl, x15, r, _, _, bs, rs, _, _, rfl, hw15, ⟨rb, rr, er, erb, err⟩, hr1, by omega, by omega, hc, eb3, er3, fun H16 s16 => ?_⟩
      refine ⟨_, rfl, iteF ?_⟩
      have hP16 := hP15.same s16
      have hT16 := tabs_same hT15 s16
      have hw6 := hw6.same s16
      have hw15 := hw15.same s16
      have er := s16 _ _ er
      have erb := s16 _ _ erb
      have err := s16 _ _ err
      have hw6' := hw6
      obtain ⟨dy, ra, ba, ea, la, g1, g2, g3, g4, g5⟩ := hw6'
      have hw15' := hw15
      obtain ⟨dz, ra2, ba2, ea2, la2, k1, k2, k3, k4, k5⟩ := hw15'
      refine ⟨_, rfl, _, rfl, x15, dz, _, rfl, k1, .inl ⟨x6, dy, _, rfl, g1⟩, x15, .ref x6, _, _, _, _, rfl, hw15, .inl ⟨x6, _, _, bs, rs, rfl, hw6, _, rfl, ?_⟩⟩
      rw [decide_eq_true ⟨eb3, er3⟩]
      refine ⟨_, rfl, iteF ?_⟩
      -- at
      refine ⟨_, rfl, _, rfl, r, _, 0, _, rfl, rfl, .inl (.inl er), rfl, rb, _, rfl, .inl (.inl (.inl erb)), _, rfl, r, _, 1, _, rfl, rfl, .inl (.inl er), rfl, rr, _, rfl, .inl (.inl (.inl err)), _, _, rfl, rfl, p, l, ns, a4, b4, _, rfl, hP16, by omega, by rw [List.length_map, List.length_map]; omega, by rw [List.length_map, List.length_map]; omega, fun d1 a5 b5 H17 d10 d11 ha5 hP17 hK17 => ?_⟩
      have hd1 : d1.toNat < bs.length + rs.length := by
        rw [List.length_map, List.length_map] at d11
        omega
      have hT17 := tabs_kp hT16 hK17 hP16
      have x17 := Kx.of_kp hK17
      have hw6 := x17.wat hP16.hd hw6
      have er := x17.tup hP16.hd er
      have erb := x17.lst hP16.hd erb
      have err := x17.lst hP16.hd err
      -- truths
      refine ⟨_, rfl, r, _, 0, _, rfl, rfl, .inl (.inl er), rfl, rb, _, rfl, .inl (.inl (.inl erb)), _, rfl, r, _, 1, _, rfl, rfl, .inl (.inl er), rfl, rr, _, rfl, .inl (.inl (.inl err)), _, _, rfl, rfl, _, rfl, by rw [List.length_map, List.length_map]; omega, by rw [List.length_map, List.length_map]; omega, fun D hD => ?_⟩
      have hN : (((bs.map V.bl).length : Int) + ((rs.map V.bl).length : Int)).toNat = bs.length + rs.length := by rw [List.length_map, List.length_map]; omega
      rw [hN]
      refine lc_range (lo := 0) (n := bs.length + rs.length) (fun i H' => Same H17 H' ∧ H' D = some (.lst (((List.range i).map (ftr bs rs)).map V.bl))) ⟨same_new hD, upd_same⟩ ?_ ?_
      · rintro i2 Hx hi2 ⟨sx, hx⟩
        refine ⟨rfl, _, rfl, _, rfl, r, bs, rs, _, rfl, ⟨rb, rr, sx _ _ er, sx _ _ erb, sx _ _ err⟩, by omega, hr1, ?_⟩
        refine ⟨_, hx, by rw [List.length_map, List.length_map, List.length_range]; exact small1000' (by omega), same_mut sx hD, ?_⟩
        rw [upd_same, List.range_succ, List.map_append, List.map_append, Int.zero_add, mtruth_ftr]
        rfl
      rintro H18 ⟨s18, eD⟩
      have hat : atI (((List.range (bs.length + rs.length)).map (ftr bs rs)).map V.bl) d1 = some (.bl (ftr bs rs d1.toNat)) := atI_ok d10 (by
        rw [List.getElem?_map, List.getElem?_map, List.getElem?_range hd1]; rfl)
      refine ⟨_, rfl, _, rfl, D, _, d1, _, rfl, rfl, .inl (.inl eD), hat, _, rfl, ?_⟩
      refine ⟨_, rfl, _, rfl, D, _, _, d1.toNat, rfl, rfl, eD, ixN_ok d10 (by rw [List.length_map, List.length_map, List.length_range]; exact hd1), ?_⟩
      have hset : ((((List.range (bs.length + rs.length)).map (ftr bs rs)).map V.bl).set d1.toNat (.bl (!(ftr bs rs d1.toNat)))) = (truthL bs rs d1.toNat).map V.bl := by unfold truthL; rw [List.map_set]
      rw [hset]
      have s19 : Same H17 (upd H18 D (.lst ((truthL bs rs d1.toNat).map V.bl))) := same_mut s18 hD
      have eD : (upd H18 D (.lst ((truthL bs rs d1.toNat).map V.bl))) D = some (.lst ((truthL bs rs d1.toNat).map V.bl)) := upd_same
      generalize upd H18 D (.lst ((truthL bs rs d1.toNat).map V.bl)) = H19 at s19 eD ⊢
      have hP19 := hP17.same s19
      have hT19 := tabs_same hT17 s19
      have hw6 := hw6.same s19
      have er := s19 _ _ er
      have erb := s19 _ _ erb
      have err := s19 _ _ err
      -- the changed one
      refine ⟨_, rfl, _, rfl, r, _, 1, _, rfl, rfl, .inl (.inl er), rfl, rr, _, rfl, .inl (.inl (.inl err)), _, _, rfl, rfl, .inl ⟨by decide, by decide⟩, _, rfl, r, _, 1, _, rfl, rfl, .inl (.inl er), rfl, rr, _, rfl, .inl (.inl (.inl err)), _, _, rfl, rfl, .inl ⟨by decide, by decide⟩, _, _, rfl, ⟨by rw [List.length_map]; omega, by rw [List.length_map]; omega, by rw [List.length_map]; omega, by rw [List.length_map]; omega⟩, fun D2 hD2 => ?_⟩
      have hL : (61 * ((rs.map V.bl).length : Int) - 60 * ((rs.map V.bl).length : Int)).toNat = rs.length := by rw [List.length_map]; omega
      rw [hL]
      refine lc_range (lo := 60 * ((rs.map V.bl).length : Int)) (n := rs.length) (fun i H' => Same H19 H' ∧ H' D2 = some (.lst (((List.range i).map fun i => ftr bs rs (60 * rs.length + i)).map V.bl))) ⟨same_new hD2, upd_same⟩ ?_ ?_
      · rintro i2 Hx hi2 ⟨sx, hx⟩
        refine ⟨rfl, _, rfl, _, rfl, r, bs, rs, _, rfl, ⟨rb, rr, sx _ _ er, sx _ _ erb, sx _ _ err⟩, by rw [List.length_map]; omega, hr1, ?_⟩
        refine ⟨_, hx, by rw [List.length_map, List.length_map, List.length_range]; exact small1000' (by omega), same_mut sx hD2, ?_⟩
        rw [upd_same, List.range_succ, List.map_append, List.map_append, show (60 * ((rs.map V.bl).length : Int) + (i2 : Int)) = ((60 * rs.length + i2 : Nat) : Int) by rw [List.length_map]; omega, mtruth_ftr]
        rfl
      rintro H20 ⟨s20, eD2⟩
      rw [sixty hr1 hb2] at eD2
      intro x21 dx21 nx21 ndx21 nex21
      refine ⟨H20, x21, dx21, D, D2, _, _, rfl, same_inst nx21 ndx21, nx21, upd_same, .inl (.inl (.inl (s20 _ _ eD))), .inl (.inl (.inl eD2)), (by simp only [List.length_map, List.length_append, List.length_cons, List.length_nil, List.length_replicate, List.length_take, List.length_drop, onceL_len, lateT_len, truthL_len] at *; omega), (by simp only [List.length_map, List.length_append, List.length_cons, List.length_nil, List.length_replicate, List.length_take, List.length_drop, onceL_len, lateT_len, truthL_len] at *; omega), MadeX.good hr1 (by omega) (by rw [truthL_len]; omega) fun m4 st4 H21 hc4 s21 hw21 => ⟨rfl, ?_⟩⟩
      have s1921 := s20.trans s21
      have hP21 := hP19.same s1921
      have hT21 := tabs_same hT19 s1921
      have hw6 := hw6.same s1921
      have er := s1921 _ _ er
      have erb := s1921 _ _ erb
      have err := s1921 _ _ err
      have hw6' := hw6
      obtain ⟨dy, ra, ba, ea, la, g1, g2, g3, g4, g5⟩ := hw6'
      have hw21' := hw21
      obtain ⟨dz, ra2, ba2, ea2, la2, k1, k2, k3, k4, k5⟩ := hw21'
      refine ⟨_, rfl, x21, dz, _, rfl, k1, .inl ⟨x6, dy, _, rfl, g1⟩, x21, .ref x6, _, _, _, _, rfl, hw21, .inl ⟨x6, _, _, bs, rs, rfl, hw6, _, rfl, ?_⟩⟩
      rw [decide_eq_false (fun z => truthL_ne hd1 (canon_fn hr1 hr1 hc4 hc z.2 z.1 d1.toNat))]
      refine ⟨_, rfl, iteF ?_⟩
      -- odd
      refine ⟨_, rfl, by show 0 ≤ sizeLine; decide, fun le hle => ?_⟩
      have s22 : Same H21 (upd H21 le (.lst [])) := same_new hle
      generalize upd H21 le (.lst []) = H22 at s22 ⊢
      refine ⟨by show 5 ≤ sizeLine; decide, fun lo hlo => ?_⟩
      have s23 : Same H21 (upd H22 lo (.lst [.int 0, .int 1, .non, .str "True", .ref le])) := s22.trans (same_new hlo)
      have elo : (upd H22 lo (.lst [.int 0, .int 1, .non, .str "True", .ref le])) lo = some (.lst [.int 0, .int 1, .non, .str "True", .ref le]) := upd_same
      generalize upd H22 lo (.lst [.int 0, .int 1, .non, .str "True", .ref le]) = H23 at s23 elo ⊢
      have hP23 := hP21.same s23
      refine ⟨p, l, lo, ns, a5, b5, [.int 0, .int 1, .non, .str "True", .ref le], rfl, hP23, by omega, .inl (.inl elo), ne_of elo hP23.hd (by intro q; cases q), by show 1 ≤ 5; decide, by show 5 ≤ 100000; decide, fun j6 ov a6 b6 H24 hj6 ha6 hP24 hK24 => ?_⟩
      have hN : NoBl ov := by
        have hm := List.mem_of_getElem? hj6
        simp only [List.mem_cons, List.not_mem_nil, or_false] at hm
        rcases hm with rfl | rfl | rfl | rfl | rfl <;> exact trivial
      have x24 : Kx p H21 H24 := (Kx.of_same s23).trans (Kx.of_kp hK24)
      have hT24 := tabs_kp (tabs_same hT21 s23) hK24 hP23
      have er := x24.tup hP21.hd er
      have erb := x24.lst hP21.hd erb
      have err := x24.lst hP21.hd err
      -- at
      refine ⟨_, rfl, _, rfl, r, _, 0, _, rfl, rfl, .inl (.inl er), rfl, rb, _, rfl, .inl (.inl (.inl erb)), _, _, rfl, rfl, p, l, ns, a6, b6, _, rfl, hP24, by omega, by rw [List.length_map]; omega, by rw [List.length_map]; omega, fun d2 a7 b7 H25 d20 d21 ha7 hP25 hK25 => ?_⟩
      obtain ⟨at2, rfl⟩ : ∃ k : Nat, d2 = (k : Int) := ⟨d2.toNat, by omega⟩
      have hat2 : at2 ≤ bs.length := by rw [List.length_map] at d21; omega
      have x25 := Kx.of_kp hK25
      have hT25 := tabs_kp hT24 hK25 hP24
      have er := x25.tup hP24.hd er
      have erb := x25.lst hP24.hd erb
      have err := x25.lst hP24.hd err
      -- bad
      refine ⟨_, rfl, r, _, 0, _, rfl, rfl, .inl (.inl er), rfl, _, rfl, _, rfl, rb, _, rfl, .inl (.inl erb), fun t1 ht1 => ?_⟩
      rw [cut_hi bs at2 hat2]
      have s26 : Same H25 (upd H25 t1 (.lst ((bs.take at2).map V.bl))) := same_new ht1
      have e1 : (upd H25 t1 (.lst ((bs.take at2).map V.bl))) t1 = some (.lst ((bs.take at2).map V.bl)) := upd_same
      generalize upd H25 t1 (.lst ((bs.take at2).map V.bl)) = H26 at s26 e1 ⊢
      refine ⟨_, rfl, by show 1 ≤ sizeLine; decide, fun l2 hl2 => ?_⟩
      have s27 : Same H25 (upd H26 l2 (.lst [ov])) := s26.trans (same_new hl2)
      have e2 : (upd H26 l2 (.lst [ov])) l2 = some (.lst [ov]) := upd_same
      have e1 := same_new (o := .lst [ov]) hl2 _ _ e1
      generalize upd H26 l2 (.lst [ov]) = H27 at s27 e1 e2 ⊢
      have htl : (bs.take at2).length = at2 := by rw [List.length_take]; omega
      refine ⟨t1, l2, _, _, rfl, rfl, e1, e2, by rw [List.length_map, htl]; exact Nat.le_trans (show at2 + 1 ≤ 100000 by omega) (by decide), fun l3 hl3 => ?_⟩
      have s28 : Same H25 (upd H27 l3 (.lst ((bs.take at2).map V.bl ++ [ov]))) := s27.trans (same_new hl3)
      have e3 : (upd H27 l3 (.lst ((bs.take at2).map V.bl ++ [ov]))) l3 = some (.lst ((bs.take at2).map V.bl ++ [ov])) := upd_same
      generalize upd H27 l3 (.lst ((bs.take at2).map V.bl ++ [ov])) = H28 at s28 e3 ⊢
      refine ⟨_, rfl, r, _, 0, _, rfl, rfl, .inl (.inl (s28 _ _ er)), rfl, _, rfl, _, rfl, rb, _, rfl, .inl (.inl (s28 _ _ erb)), fun t4 ht4 => ?_⟩
      rw [cut_lo bs at2 hat2]
      have s29 : Same H25 (upd H28 t4 (.lst ((bs.drop at2).map V.bl))) := s28.trans (same_new ht4)
      have e4b : (upd H28 t4 (.lst ((bs.drop at2).map V.bl))) t4 = some (.lst ((bs.drop at2).map V.bl)) := upd_same
      have e3 := same_new (o := .lst ((bs.drop at2).map V.bl)) ht4 _ _ e3
      generalize upd H28 t4 (.lst ((bs.drop at2).map V.bl)) = H29 at s29 e3 e4b ⊢
      refine ⟨l3, t4, _, _, rfl, rfl, e3, e4b, by rw [List.length_append, List.length_map, List.length_map, htl, List.length_drop]; exact Nat.le_trans (show at2 + 1 + (bs.length - at2) ≤ 100000 by omega) (by decide), fun l5b hl5b => ?_⟩
      have s30 : Same H25 (upd H29 l5b (.lst ((bs.take at2).map V.bl ++ [ov] ++ (bs.drop at2).map V.bl))) := s29.trans (same_new hl5b)
      have eB : (upd H29 l5b (.lst ((bs.take at2).map V.bl ++ [ov] ++ (bs.drop at2).map V.bl))) l5b = some (.lst ((bs.take at2).map V.bl ++ ov :: (bs.drop at2).map V.bl)) := by
        rw [upd_same, List.append_assoc]; rfl
      generalize upd H29 l5b (.lst ((bs.take at2).map V.bl ++ [ov] ++ (bs.drop at2).map V.bl)) = H30 at s30 eB ⊢
      have hP30 := hP25.same s30
      have hT30 := tabs_same hT25 s30
      have er := s30 _ _ er
      have erb := s30 _ _ erb
      have err := s30 _ _ err
      -- the first fault
      refine ⟨hT30, fun H31 x31 hT31 => ?_⟩
      have hP31 := hP30.ext x31
      have eB := ext_of x31 eB (fun _ z => by cases z)
      have er := ext_of x31 er (fun _ z => by cases z)
      have erb := ext_of x31 erb (fun _ z => by cases z)
      have err := ext_of x31 err (fun _ z => by cases z)
      refine ⟨_, rfl, by show 0 ≤ sizeLine; decide, fun lE hlE => ?_⟩
      have s32 : Same H31 (upd H31 lE (.lst [])) := same_new hlE
      have eE : (upd H31 lE (.lst [])) lE = some (.lst []) := upd_same
      generalize upd H31 lE (.lst []) = H32 at s32 eE ⊢
      intro x33 dx33 nx33 ndx33 nex33
      refine ⟨H32, x33, dx33, l5b, lE, _, [], rfl, same_inst nx33 ndx33, nx33, upd_same, .inl (.inl (.inl (s32 _ _ eB))), .inl (.inl (.inl eE)), (by simp only [List.length_map, List.length_append, List.length_cons, List.length_nil, List.length_replicate, List.length_take, List.length_drop, onceL_len, lateT_len, truthL_len] at *; omega), (by simp only [List.length_map, List.length_append, List.length_cons, List.length_nil, List.length_replicate, List.length_take, List.length_drop, onceL_len, lateT_len, truthL_len] at *; omega), .inl ⟨bs.take at2, ov, _, rfl, hN, fun dd H33 s33 hd33 hx33 => .inl ⟨rfl, _, dd, rfl, hx33, fun tt H34 s34 e34 => ?_⟩⟩⟩
      rw [htl] at e34
      refine ⟨_, rfl, by show 2 ≤ sizeLine; decide, fun tu htu => ?_⟩
      have s35 : Same H34 (upd H34 tu (.tup [.str "truth", .int (at2 : Int)])) := same_new htu
      refine ne_same (by decide +kernel) (by decide +kernel) (by decide +kernel) (s35 _ _ e34) upd_same ?_
      have s3135 := s32.trans (s33.trans (s34.trans s35))
      generalize upd H34 tu (.tup [.str "truth", .int (at2 : Int)]) = H35 at s3135 ⊢
      clear s35
      refine ⟨_, rfl, iteF ?_⟩
      have hP35 := hP31.same s3135
      have hT35 := tabs_same hT31 s3135
      have er := s3135 _ _ er
      have erb := s3135 _ _ erb
      have err := s3135 _ _ err
      -- the second one
      refine ⟨hT35, fun H36 x36 hT36 => ?_⟩
      have hP36 := hP35.ext x36
      have er := ext_of x36 er (fun _ z => by cases z)
      have erb := ext_of x36 erb (fun _ z => by cases z)
      have err := ext_of x36 err (fun _ z => by cases z)
      refine ⟨_, rfl, r, _, 0, _, rfl, rfl, .inl (.inl er), rfl, by show 0 ≤ sizeLine; decide, fun lE2 hlE2 => ?_⟩
      have s37 : Same H36 (upd H36 lE2 (.lst [])) := same_new hlE2
      have eE2 : (upd H36 lE2 (.lst [])) lE2 = some (.lst []) := upd_same
      generalize upd H36 lE2 (.lst []) = H37 at s37 eE2 ⊢
      intro x38 dx38 nx38 ndx38 nex38
      refine ⟨H37, x38, dx38, rb, lE2, _, [], rfl, same_inst nx38 ndx38, nx38, upd_same, .inl (.inl (.inl (s37 _ _ erb))), .inl (.inl (.inl eE2)), (by simp only [List.length_map, List.length_append, List.length_cons, List.length_nil, List.length_replicate, List.length_take, List.length_drop, onceL_len, lateT_len, truthL_len] at *; omega), (by simp only [List.length_map, List.length_append, List.length_cons, List.length_nil, List.length_replicate, List.length_take, List.length_drop, onceL_len, lateT_len, truthL_len] at *; omega), .inr ⟨bs, rfl, .inr (.inl ⟨rfl, fun dd H38 s38 hd38 hx38 => .inl ⟨rfl, _, dd, rfl, hx38, fun tt H39 s39b e39 => ?_⟩⟩)⟩⟩
      refine tag_due (by decide +kernel) (by decide +kernel) (by decide +kernel) e39 fun H40 s40 => ?_
      have s3640 := s37.trans (s38.trans (s39b.trans s40))
      refine ⟨_, rfl, iteF ?_⟩
      have hP40 := hP36.same s3640
      have hT40 := tabs_same hT36 s3640
      have er := s3640 _ _ er
      have erb := s3640 _ _ erb
      have err := s3640 _ _ err
      -- the third one
      refine ⟨hT40, fun H41 x41 hT41 => ?_⟩
      have hP41 := hP40.ext x41
      have er := ext_of x41 er (fun _ z => by cases z)
      have erb := ext_of x41 erb (fun _ z => by cases z)
      have err := ext_of x41 err (fun _ z => by cases z)
      refine ⟨_, rfl, r, _, 0, _, rfl, rfl, .inl (.inl er), rfl, _, rfl, r, _, 1, _, rfl, rfl, .inl (.inl er), rfl, _, rfl, by show 1 ≤ sizeLine; decide, fun l6 hl6 => ?_⟩
      have s42 : Same H41 (upd H41 l6 (.lst [ov])) := same_new hl6
      have e6 : (upd H41 l6 (.lst [ov])) l6 = some (.lst [ov]) := upd_same
      generalize upd H41 l6 (.lst [ov]) = H42 at s42 e6 ⊢
      refine ⟨rr, l6, _, _, rfl, rfl, s42 _ _ err, e6, by rw [List.length_map]; exact Nat.le_trans (show rs.length + 1 ≤ 100000 by omega) (by decide), fun l7 hl7 => ?_⟩
      have s43 : Same H41 (upd H42 l7 (.lst (rs.map V.bl ++ [ov]))) := s42.trans (same_new hl7)
      have e7b : (upd H42 l7 (.lst (rs.map V.bl ++ [ov]))) l7 = some (.lst (rs.map V.bl ++ [ov])) := upd_same
      generalize upd H42 l7 (.lst (rs.map V.bl ++ [ov])) = H43 at s43 e7b ⊢
      intro x44 dx44 nx44 ndx44 nex44
      refine ⟨H43, x44, dx44, rb, l7, _, _, rfl, same_inst nx44 ndx44, nx44, upd_same, .inl (.inl (.inl (s43 _ _ erb))), .inl (.inl (.inl e7b)), (by simp only [List.length_map, List.length_append, List.length_cons, List.length_nil, List.length_replicate, List.length_take, List.length_drop, onceL_len, lateT_len, truthL_len] at *; omega), (by simp only [List.length_map, List.length_append, List.length_cons, List.length_nil, List.length_replicate, List.length_take, List.length_drop, onceL_len, lateT_len, truthL_len] at *; omega), .inr ⟨bs, rfl, .inl ⟨rs, ov, [], rfl, hN, fun dd H44 s44 hd44 hx44 => .inl ⟨rfl, _, dd, rfl, hx44, fun tt H45 s45 e45 => ?_⟩⟩⟩⟩
      have s4145 := s43.trans (s44.trans s45)
      refine ⟨_, rfl, r, _, 1, _, rfl, rfl, .inl (.inl (s4145 _ _ er)), rfl, rr, _, rfl, .inl (.inl (.inl (s4145 _ _ err))), by show 2 ≤ sizeLine; decide, fun tu2 htu2 => ?_⟩
      rw [List.length_map]
      have s46 : Same H45 (upd H45 tu2 (.tup [.str "truth", .int (rs.length : Int)])) := same_new htu2
      refine ne_same (by decide +kernel) (by decide +kernel) (by decide +kernel) (s46 _ _ e45) upd_same ?_
      have s4146 := s4145.trans s46
      generalize upd H45 tu2 (.tup [.str "truth", .int (rs.length : Int)]) = H46 at s4146 ⊢
      clear s46
      refine ⟨_, rfl, iteF ?_⟩
      refine ⟨a7, b7, _, _, _, _, _, _, _, _, _, _, _, _, hP41.same s4146, ?_, tabs_same hT41 s4146, rfl⟩
      have : (10000 : Int) * ((i + 1 : Nat) : Int) = 10000 * (i : Int) + 10000 := by omega
      omega
    · rintro σ H1 ⟨a1, b1, y2, y3, y4, y5, y6, y7, y8, y9, y10, y11, y12, y13, hP1, ha1, hT1, rfl⟩
      refine ⟨_, rfl, p, l, ns, a1, b1, rfl, hP1, by omega, fun x hx => hT1 x (List.Mem.tail _ hx), fun H' => q H'⟩
end
end Ef
set_option Elab.async false
set_option linter.all false
set_option maxRecDepth 100000
set_option maxHeartbeats 8000000
namespace Ef
open PySem PySem.Spec PyProof.Rows L2
theorem at_mk {K : PySem.W.Frag} {h : Heap} {mg : Str → Option Value} {x : Str} {st : Stmt} {f : Addr} {oc kV doc pm cdv ct : Value} {od an : Option Addr} {osl : Array (Option Value)} (X : K.In h) (G : h.Ns mainGlobals mg) (a : PySem.W.nsIn K mainGlobals x = some (some (.ref f)))
    (l : K.lookup f = some ⟨oc, od, .func (PySem.W.fnOf x x (defArgs st) (defBody st) (defScope st) .none kV doc pm an cdv ct), osl⟩) (c : PySem.W.codeIn K cdv x = true) (k : PySem.W.keepIn K (.ref f) = true) : At K mg x st := ⟨f, _, PySem.W.mg_of X G a, fun_mk l c k⟩
theorem exm_by {K : PySem.W.Frag} {S : Addr} {c : Value} {b : Bool} (h1 : PySem.W.subIn K (.ref S) (.type "BaseException") = some true) (h2 : PySem.W.isClsIn K S = true) (h3 : PySem.W.typeIn K (.ref S) = some (.type "type")) (h4 : PySem.W.subIn K c (.ref S) = some b) :
    PySem.W.exmOne K c (.ref S) = some b := by
  unfold PySem.W.exmOne PySem.W.kitCls
  have h2' : (PySem.W.clsIn K S).isSome = true := h2
  rw [h1, if_pos (by rfl)]
  show (if ((PySem.W.clsIn K S).isSome && PySem.W.typeIn K (.ref S) == some (.type "type")) = true then PySem.W.subIn K c (.ref S) else none) = some b
  rw [h2', h3, if_pos (by rfl)]
  exact h4
theorem kit_by {K : PySem.W.Frag} {S : Addr} {c : Value} {b : Bool} (h2 : PySem.W.isClsIn K S = true) (h3 : PySem.W.typeIn K (.ref S) = some (.type "type")) (h4 : PySem.W.subIn K c (.ref S) = some b) (hc : (c == .ref S) = false := by rfl) :
    PySem.W.kitOne K c (.ref S) = some b := by
  unfold PySem.W.kitOne PySem.W.kitCls
  have h2' : (PySem.W.clsIn K S).isSome = true := h2
  rw [if_neg (by rw [hc]; exact Bool.false_ne_true)]
  show (if ((PySem.W.clsIn K S).isSome && PySem.W.typeIn K (.ref S) == some (.type "type")) = true then PySem.W.subIn K c (.ref S) else none) = some b
  rw [h2', h3, if_pos (by rfl)]
  exact h4
theorem all_mk {w : World} {K : PySem.W.Frag} {h : Heap} {mg : Str → Option Value} {l : PySem.W.OpenLaw} {fa C CT CF CL cL PT cB PB f0 f1 f2 f3 f4 f5 f6 f7 f8 f9 f10 f11 f12 f13 f14 f15 f16 f17 f18 f19 f20 f21 f22  : Addr} (X : K.In h) (G : h.Ns mainGlobals mg) (hfa : mg "law" = some (.ref fa))
    {od0 an0 od1 an1 od2 an2 od3 an3 od4 an4 od5 an5 od6 an6 od7 an7 od8 an8 od9 an9 od10 an10 od11 an11 od12 an12 od13 an13 od14 an14 od15 an15 od16 an16 od17 an17 od18 an18 od19 an19 od20 an20 od21 an21 od22 an22 : Option Addr} {sl0 sl1 sl2 sl3 sl4 sl5 sl6 sl7 sl8 sl9 sl10 sl11 sl12 sl13 sl14 sl15 sl16 sl17 sl18 sl19 sl20 sl21 sl22 : Array (Option Value)} {oc0 kV0 dc0 pm0 cd0 ct0 oc1 kV1 dc1 pm1 cd1 ct1 oc2 kV2 dc2 pm2 cd2 ct2 oc3 kV3 dc3 pm3 cd3 ct3 oc4 kV4 dc4 pm4 cd4 ct4 oc5 kV5 dc5 pm5 cd5 ct5 oc6 kV6 dc6 pm6 cd6 ct6 oc7 kV7 dc7 pm7 cd7 ct7 oc8 kV8 dc8 pm8 cd8 ct8 oc9 kV9 dc9 pm9 cd9 ct9 oc10 kV10 dc10 pm10 cd10 ct10 oc11 kV11 dc11 pm11 cd11 ct11 oc12 kV12 dc12 pm12 cd12 ct12 oc13 kV13 dc13 pm13 cd13 ct13 oc14 kV14 dc14 pm14 cd14 ct14 oc15 kV15 dc15 pm15 cd15 ct15 oc16 kV16 dc16 pm16 cd16 ct16 oc17 kV17 dc17 pm17 ct17 oc18 kV18 dc18 pm18 ct18 oc19 kV19 dc19 pm19 cd19 ct19 oc20 kV20 dc20 pm20 cd20 ct20 oc21 kV21 dc21 pm21 cd21 ct21 oc22 kV22 dc22 pm22 cd22 ct22 : Value} {tk0 tk1 : Tok} {nmCT qCT : Str} {NCT : Addr} {bsCT bmCT : List Value} {snCT : List Str} {subCT : List Value} {abCT : Bool} {colCT : Option Bool} {ddCT : Option Addr} {e0CT e1CT e2CT e3CT e5CT : Option Value} {nmCF qCF : Str} {NCF : Addr} {bsCF bmCF : List Value} {snCF : List Str} {subCF : List Value} {abCF : Bool} {colCF : Option Bool} {ddCF : Option Addr} {e0CF e1CF e2CF e3CF e5CF : Option Value} {nmCL qCL : Str} {NCL : Addr} {bsCL bmCL : List Value} {snCL : List Str} {subCL : List Value} {abCL : Bool} {colCL : Option Bool} {ddCL : Option Addr} {e0CL e1CL e2CL e3CL e5CL : Option Value}
    (aC : PySem.W.nsIn K mainGlobals "Where" = some (some (.ref C)))
    (a0 : PySem.W.nsIn K mainGlobals "_check_truths" = some (some (.ref f0)))
    (l0 : K.lookup f0 = some ⟨oc0, od0, .func (PySem.W.fnOf "_check_truths" "_check_truths" (defArgs sCheck) (defBody sCheck) (defScope sCheck) .none kV0 dc0 pm0 an0 cd0 ct0), sl0⟩)
    (c0 : PySem.W.codeIn K cd0 "_check_truths" = true)
    (k0 : PySem.W.keepIn K (.ref f0) = true)
    (a1 : PySem.W.nsIn K mainGlobals "least_period" = some (some (.ref f1)))
    (l1 : K.lookup f1 = some ⟨oc1, od1, .func (PySem.W.fnOf "least_period" "least_period" (defArgs sLper) (defBody sLper) (defScope sLper) .none kV1 dc1 pm1 an1 cd1 ct1), sl1⟩)
    (c1 : PySem.W.codeIn K cd1 "least_period" = true)
    (k1 : PySem.W.keepIn K (.ref f1) = true)
    (a2 : PySem.W.nsIn K mainGlobals "_comes_round" = some (some (.ref f2)))
    (l2 : K.lookup f2 = some ⟨oc2, od2, .func (PySem.W.fnOf "_comes_round" "_comes_round" (defArgs sRound) (defBody sRound) (defScope sRound) .none kV2 dc2 pm2 an2 cd2 ct2), sl2⟩)
    (c2 : PySem.W.codeIn K cd2 "_comes_round" = true)
    (k2 : PySem.W.keepIn K (.ref f2) = true)
    (a3 : PySem.W.nsIn K mainGlobals "primes_of" = some (some (.ref f3)))
    (l3 : K.lookup f3 = some ⟨oc3, od3, .func (PySem.W.fnOf "primes_of" "primes_of" (defArgs sPrimes) (defBody sPrimes) (defScope sPrimes) .none kV3 dc3 pm3 an3 cd3 ct3), sl3⟩)
    (c3 : PySem.W.codeIn K cd3 "primes_of" = true)
    (k3 : PySem.W.keepIn K (.ref f3) = true)
    (a4 : PySem.W.nsIn K mainGlobals "_least_start" = some (some (.ref f4)))
    (l4 : K.lookup f4 = some ⟨oc4, od4, .func (PySem.W.fnOf "_least_start" "_least_start" (defArgs sLstart) (defBody sLstart) (defScope sLstart) .none kV4 dc4 pm4 an4 cd4 ct4), sl4⟩)
    (c4 : PySem.W.codeIn K cd4 "_least_start" = true)
    (k4 : PySem.W.keepIn K (.ref f4) = true)
    (a5 : PySem.W.nsIn K mainGlobals "_law_pen" = some (some (.ref f5)))
    (l5 : K.lookup f5 = some ⟨oc5, od5, .func (PySem.W.fnOf "_law_pen" "_law_pen" (defArgs sPen) (defBody sPen) (defScope sPen) .none kV5 dc5 pm5 an5 cd5 ct5), sl5⟩)
    (c5 : PySem.W.codeIn K cd5 "_law_pen" = true)
    (k5 : PySem.W.keepIn K (.ref f5) = true)
    (a6 : PySem.W.nsIn K mainGlobals "_law_draw" = some (some (.ref f6)))
    (l6 : K.lookup f6 = some ⟨oc6, od6, .func (PySem.W.fnOf "_law_draw" "_law_draw" (defArgs sDraw) (defBody sDraw) (defScope sDraw) .none kV6 dc6 pm6 an6 cd6 ct6), sl6⟩)
    (c6 : PySem.W.codeIn K cd6 "_law_draw" = true)
    (k6 : PySem.W.keepIn K (.ref f6) = true)
    (a7 : PySem.W.nsIn K mainGlobals "_law_pick" = some (some (.ref f7)))
    (l7 : K.lookup f7 = some ⟨oc7, od7, .func (PySem.W.fnOf "_law_pick" "_law_pick" (defArgs sPick) (defBody sPick) (defScope sPick) .none kV7 dc7 pm7 an7 cd7 ct7), sl7⟩)
    (c7 : PySem.W.codeIn K cd7 "_law_pick" = true)
    (k7 : PySem.W.keepIn K (.ref f7) = true)
    (a8 : PySem.W.nsIn K mainGlobals "_law_truths" = some (some (.ref f8)))
    (l8 : K.lookup f8 = some ⟨oc8, od8, .func (PySem.W.fnOf "_law_truths" "_law_truths" (defArgs sTruths) (defBody sTruths) (defScope sTruths) .none kV8 dc8 pm8 an8 cd8 ct8), sl8⟩)
    (c8 : PySem.W.codeIn K cd8 "_law_truths" = true)
    (k8 : PySem.W.keepIn K (.ref f8) = true)
    (a9 : PySem.W.nsIn K mainGlobals "_law_model" = some (some (.ref f9)))
    (l9 : K.lookup f9 = some ⟨oc9, od9, .func (PySem.W.fnOf "_law_model" "_law_model" (defArgs sModel) (defBody sModel) (defScope sModel) .none kV9 dc9 pm9 an9 cd9 ct9), sl9⟩)
    (c9 : PySem.W.codeIn K cd9 "_law_model" = true)
    (k9 : PySem.W.keepIn K (.ref f9) = true)
    (a10 : PySem.W.nsIn K mainGlobals "_law_truth" = some (some (.ref f10)))
    (l10 : K.lookup f10 = some ⟨oc10, od10, .func (PySem.W.fnOf "_law_truth" "_law_truth" (defArgs sTruth) (defBody sTruth) (defScope sTruth) .none kV10 dc10 pm10 an10 cd10 ct10), sl10⟩)
    (c10 : PySem.W.codeIn K cd10 "_law_truth" = true)
    (k10 : PySem.W.keepIn K (.ref f10) = true)
    (a11 : PySem.W.nsIn K mainGlobals "_law_least_model" = some (some (.ref f11)))
    (l11 : K.lookup f11 = some ⟨oc11, od11, .func (PySem.W.fnOf "_law_least_model" "_law_least_model" (defArgs sLeast) (defBody sLeast) (defScope sLeast) .none kV11 dc11 pm11 an11 cd11 ct11), sl11⟩)
    (c11 : PySem.W.codeIn K cd11 "_law_least_model" = true)
    (k11 : PySem.W.keepIn K (.ref f11) = true)
    (a12 : PySem.W.nsIn K mainGlobals "_law_is_where" = some (some (.ref f12)))
    (l12 : K.lookup f12 = some ⟨oc12, od12, .func (PySem.W.fnOf "_law_is_where" "_law_is_where" (defArgs sIsw) (defBody sIsw) (defScope sIsw) .none kV12 dc12 pm12 an12 cd12 ct12), sl12⟩)
    (c12 : PySem.W.codeIn K cd12 "_law_is_where" = true)
    (k12 : PySem.W.keepIn K (.ref f12) = true)
    (a13 : PySem.W.nsIn K mainGlobals "_law_where" = some (some (.ref f13)))
    (l13 : K.lookup f13 = some ⟨oc13, od13, .func (PySem.W.fnOf "_law_where" "_law_where" (defArgs sWhere) (defBody sWhere) (defScope sWhere) .none kV13 dc13 pm13 an13 cd13 ct13), sl13⟩)
    (c13 : PySem.W.codeIn K cd13 "_law_where" = true)
    (k13 : PySem.W.keepIn K (.ref f13) = true)
    (a14 : PySem.W.nsIn K mainGlobals "_law_longer" = some (some (.ref f14)))
    (l14 : K.lookup f14 = some ⟨oc14, od14, .func (PySem.W.fnOf "_law_longer" "_law_longer" (defArgs sLonger) (defBody sLonger) (defScope sLonger) .none kV14 dc14 pm14 an14 cd14 ct14), sl14⟩)
    (c14 : PySem.W.codeIn K cd14 "_law_longer" = true)
    (k14 : PySem.W.keepIn K (.ref f14) = true)
    (a15 : PySem.W.nsIn K mainGlobals "_law_fault" = some (some (.ref f15)))
    (l15 : K.lookup f15 = some ⟨oc15, od15, .func (PySem.W.fnOf "_law_fault" "_law_fault" (defArgs sFault) (defBody sFault) (defScope sFault) .none kV15 dc15 pm15 an15 cd15 ct15), sl15⟩)
    (c15 : PySem.W.codeIn K cd15 "_law_fault" = true)
    (k15 : PySem.W.keepIn K (.ref f15) = true)
    (a16 : PySem.W.findIn K (.ref C) "__init__" = some (some (.ref f16)))
    (i16 : PySem.W.isFn K (.ref f16) = true)
    (l16 : K.lookup f16 = some ⟨oc16, od16, .func (PySem.W.fnOf "__init__" "Where.__init__" (defArgs sInit) (defBody sInit) (defScope sInit) .none kV16 dc16 pm16 an16 cd16 ct16), sl16⟩)
    (c16 : PySem.W.codeIn K cd16 "Where.__init__" = true)
    (k16 : PySem.W.keepIn K (.ref f16) = true)
    (a17 : PySem.W.nsIn K mainGlobals "_law_bounds_kept" = some (some (.ref f17)))
    (l17 : K.lookup f17 = some ⟨oc17, od17, .func (PySem.W.fnOf "_law_bounds_kept" "_law_bounds_kept" (defArgs sBounds) (defBody sBounds) (defScope sBounds) .none kV17 dc17 pm17 an17 (.ref cB) ct17), sl17⟩)
    (c17 : PySem.W.codeIn K (.ref cB) "_law_bounds_kept" = true)
    (k17 : PySem.W.keepIn K (.ref f17) = true)
    (tPB : PySem.W.tabIn K "_law_bounds_kept" = some (cB, PB))
    (hPB : PySem.W.codeHdIn K cB PB = true)
    (nPBl : K.lookup PB = none)
    (a18 : PySem.W.nsIn K mainGlobals "law" = some (some (.ref f18)))
    (l18 : K.lookup f18 = some ⟨oc18, od18, .func (PySem.W.fnOf "law" "law" (defArgs sLaw) (defBody sLaw) (defScope sLaw) .none kV18 dc18 pm18 an18 (.ref cL) ct18), sl18⟩)
    (c18 : PySem.W.codeIn K (.ref cL) "law" = true)
    (tP : PySem.W.tabIn K "law" = some (cL, PT))
    (hP : PySem.W.codeHdIn K cL PT = true)
    (nPT : K.lookup PT = none)
    (a19 : PySem.W.findIn K (.ref C) "__eq__" = some (some (.ref f19)))
    (i19 : PySem.W.isFn K (.ref f19) = true)
    (t19 : PySem.W.typeIn K (.ref f19) = some (.type "function"))
    (l19 : K.lookup f19 = some ⟨oc19, od19, .func (PySem.W.fnOf "__eq__" "Where.__eq__" (defArgs sEq) (defBody sEq) (defScope sEq) .none kV19 dc19 pm19 an19 cd19 ct19), sl19⟩)
    (c19 : PySem.W.codeIn K cd19 "Where.__eq__" = true)
    (k19 : PySem.W.keepIn K (.ref f19) = true)
    (ne : PySem.W.findIn K (.ref C) "__ne__" = some (some (.builtin "object.__ne__")))
    (sli : PySem.W.subIn K (.type "list") (.ref C) = some false)
    (sti : PySem.W.subIn K (.type "tuple") (.ref C) = some false)
    (jC : PySem.W.isClsIn K C = true)
    (tC : PySem.W.typeIn K (.ref C) = some (.type "type"))
    (mCT : PySem.W.nsIn K mainGlobals "BadTruth" = some (some (.ref CT)))
    (oCT : K.lookup CT = some (excClassObj nmCT qCT CT NCT bsCT bmCT true snCT subCT abCT colCT ddCT e0CT e1CT e2CT e3CT e5CT "ValueError.__new__"))
    (vCT : PySem.HandSPX.refsVE bmCT = true)
    (sCT : PySem.W.findIn K (.ref CT) "__setattr__" = some (some (.builtin "object.__setattr__")))
    (xCT : PySem.W.subIn K (.ref CT) (.type "BaseException") = some true)
    (tCT : PySem.W.typeIn K (.ref CT) = some (.type "type"))
    (kCT : PySem.W.keepIn K (.ref CT) = true)
    (iCT : PySem.W.findIn K (.ref CT) "__init__" = some (some (.ref f20)))
    (uCT : PySem.W.typeIn K (.ref f20) = some (.type "function"))
    (nCT : PySem.W.findIn K (.ref CT) "index" = some none)
    (gaCT : PySem.W.findIn K (.ref CT) "__getattribute__" = some (some (.builtin "BaseException.__getattribute__")))
    (ggCT : PySem.W.findIn K (.ref CT) "__getattr__" = some none)
    (hdCT : PySem.W.hasDictIn K CT = true)
    (l20 : K.lookup f20 = some ⟨oc20, od20, .func (PySem.W.fnOf "__init__" "BadTruth.__init__" (defArgs sErrT) (defBody sErrT) (defScope sErrT) .none kV20 dc20 pm20 an20 cd20 ct20), sl20⟩)
    (c20 : PySem.W.codeIn K cd20 "BadTruth.__init__" = true)
    (k20 : PySem.W.keepIn K (.ref f20) = true)
    (mCF : PySem.W.nsIn K mainGlobals "TooFine" = some (some (.ref CF)))
    (oCF : K.lookup CF = some (excClassObj nmCF qCF CF NCF bsCF bmCF true snCF subCF abCF colCF ddCF e0CF e1CF e2CF e3CF e5CF "ValueError.__new__"))
    (vCF : PySem.HandSPX.refsVE bmCF = true)
    (sCF : PySem.W.findIn K (.ref CF) "__setattr__" = some (some (.builtin "object.__setattr__")))
    (xCF : PySem.W.subIn K (.ref CF) (.type "BaseException") = some true)
    (tCF : PySem.W.typeIn K (.ref CF) = some (.type "type"))
    (kCF : PySem.W.keepIn K (.ref CF) = true)
    (iCF : PySem.W.findIn K (.ref CF) "__init__" = some (some (.ref f21)))
    (uCF : PySem.W.typeIn K (.ref f21) = some (.type "function"))
    (nCF : PySem.W.findIn K (.ref CF) "most" = some none)
    (gaCF : PySem.W.findIn K (.ref CF) "__getattribute__" = some (some (.builtin "BaseException.__getattribute__")))
    (ggCF : PySem.W.findIn K (.ref CF) "__getattr__" = some none)
    (hdCF : PySem.W.hasDictIn K CF = true)
    (l21 : K.lookup f21 = some ⟨oc21, od21, .func (PySem.W.fnOf "__init__" "TooFine.__init__" (defArgs sErrF) (defBody sErrF) (defScope sErrF) .none kV21 dc21 pm21 an21 cd21 ct21), sl21⟩)
    (c21 : PySem.W.codeIn K cd21 "TooFine.__init__" = true)
    (k21 : PySem.W.keepIn K (.ref f21) = true)
    (mCL : PySem.W.nsIn K mainGlobals "TooLate" = some (some (.ref CL)))
    (oCL : K.lookup CL = some (excClassObj nmCL qCL CL NCL bsCL bmCL true snCL subCL abCL colCL ddCL e0CL e1CL e2CL e3CL e5CL "ValueError.__new__"))
    (vCL : PySem.HandSPX.refsVE bmCL = true)
    (sCL : PySem.W.findIn K (.ref CL) "__setattr__" = some (some (.builtin "object.__setattr__")))
    (xCL : PySem.W.subIn K (.ref CL) (.type "BaseException") = some true)
    (tCL : PySem.W.typeIn K (.ref CL) = some (.type "type"))
    (kCL : PySem.W.keepIn K (.ref CL) = true)
    (iCL : PySem.W.findIn K (.ref CL) "__init__" = some (some (.ref f22)))
    (uCL : PySem.W.typeIn K (.ref f22) = some (.type "function"))
    (nCL : PySem.W.findIn K (.ref CL) "most" = some none)
    (gaCL : PySem.W.findIn K (.ref CL) "__getattribute__" = some (some (.builtin "BaseException.__getattribute__")))
    (ggCL : PySem.W.findIn K (.ref CL) "__getattr__" = some none)
    (hdCL : PySem.W.hasDictIn K CL = true)
    (l22 : K.lookup f22 = some ⟨oc22, od22, .func (PySem.W.fnOf "__init__" "TooLate.__init__" (defArgs sErrL) (defBody sErrL) (defScope sErrL) .none kV22 dc22 pm22 an22 cd22 ct22), sl22⟩)
    (c22 : PySem.W.codeIn K cd22 "TooLate.__init__" = true)
    (k22 : PySem.W.keepIn K (.ref f22) = true)
    (jCT : PySem.W.isClsIn K CT = true)
    (jCF : PySem.W.isClsIn K CF = true)
    (jCL : PySem.W.isClsIn K CL = true)
    (xCTCT : PySem.W.subIn K (.ref CT) (.ref CT) = some true)
    (xCFCT : PySem.W.subIn K (.ref CF) (.ref CT) = some false)
    (xCLCT : PySem.W.subIn K (.ref CL) (.ref CT) = some false)
    (xCFCF : PySem.W.subIn K (.ref CF) (.ref CF) = some true)
    (xCLCF : PySem.W.subIn K (.ref CL) (.ref CF) = some false)
    (xCLCL : PySem.W.subIn K (.ref CL) (.ref CL) = some true)
    (nPB : ¬ PB = PT)
    (e0 : PySem.W.nsIn K mainGlobals "MOST_PERIOD" = some (some (.int 720 tk0)))
    (e1 : PySem.W.nsIn K mainGlobals "MOST_START" = some (some (.int 10000 tk1)))
    (pg : PySem.W.plainGet K C Str.empty = true)
    (hd : PySem.W.hasDictIn K C = true)
    (po : PySem.W.plainOver K C = true)
    (sa : PySem.W.findIn K (.ref C) "__setattr__" = some (some (.builtin "object.__setattr__")))
    (mk : PySem.W.makesIn K C = true)
    (kc : PySem.W.keepIn K (.ref C) = true)
    (cc : PySem.W.findIn K (.ref C) "__class__" = some (some (.builtin "object.__class__")))
    (cg : PySem.W.specialIn K (.builtin "object.__class__") "__get__" = some (some (.builtin "getset_descriptor.__get__")))
    (ctk : PySem.W.takesIn K (.builtin "object.__class__") = some true)
    (co : PySem.W.mroIn K C (.type "object") = some true)
    (nB : PySem.W.findIn K (.ref C) "below" = some none)
    (nR : PySem.W.findIn K (.ref C) "rests" = some none)
    (nS : PySem.W.findIn K (.ref C) "start" = some none)
    (nP : PySem.W.findIn K (.ref C) "period" = some none)
    (nE : PySem.W.findIn K (.ref C) "_early" = some none)
    (nL : PySem.W.findIn K (.ref C) "_late" = some none)
    (z0 : PySem.W.nsIn K mainGlobals "int" = some none)
    (z1 : PySem.W.nsIn K mainGlobals "len" = some none)
    (z2 : PySem.W.nsIn K mainGlobals "list" = some none)
    (z3 : PySem.W.nsIn K mainGlobals "isinstance" = some none)
    (z4 : PySem.W.nsIn K mainGlobals "bool" = some none)
    (z5 : PySem.W.nsIn K mainGlobals "enumerate" = some none)
    (z6 : PySem.W.nsIn K mainGlobals "reversed" = some none)
    (z7 : PySem.W.nsIn K mainGlobals "range" = some none)
    (z8 : PySem.W.nsIn K mainGlobals "tuple" = some none)
    (z9 : PySem.W.nsIn K mainGlobals "min" = some none)
    (Y : ∀ p : Addr, p = PT ∨ p = PB → h.get? p = some (PySem.W.tabObj #[]))
    : LamX.LawAtS l w K CX0 9 63 "script" mg fa h := by
  have e := hfa.symm.trans (PySem.W.mg_of X G a18)
  cases e
  have T : TxtL mg := { int := PySem.W.mg_none_of X G z0, len := PySem.W.mg_none_of X G z1, list := PySem.W.mg_none_of X G z2, isinstance := PySem.W.mg_none_of X G z3, bool := PySem.W.mg_none_of X G z4, enumerate := PySem.W.mg_none_of X G z5, reversed := PySem.W.mg_none_of X G z6, range := PySem.W.mg_none_of X G z7, tuple := PySem.W.mg_none_of X G z8, MOST_PERIOD := ⟨tk0, PySem.W.mg_of X G e0⟩, MOST_START := ⟨tk1, PySem.W.mg_of X G e1⟩, min := PySem.W.mg_none_of X G z9 }
  have CP : ClsW K mg C := ⟨⟨pg, hd, po, sa⟩, PySem.W.mg_of X G aC, nP, nS, nR, nB, nE, nL⟩
  have CW : ClsQ K mg C := { toClsW := CP, cc := cc, cg := cg, ct := ctk, co := co, sl := ⟨sli, sti⟩ }
  have M : Mk K C f16 := ⟨mk, a16, i16, kc⟩
  have FCT := fun_mk (st := sErrT) l20 c20 k20
  have bCT := FCT.binds (ps := ["self", "index"]) fun _ _ _ _ _ _ us hl => match us, hl with | [_, _], _ => rfl
  have ECT : ErrF K mg "BadTruth" "index" CT f20 := ⟨⟨⟨_, _, _, _, _, _, _, _, _, _, _, _, _, _, _, oCT, vCT⟩, sCT, xCT, tCT, kCT⟩, PySem.W.mg_of X G mCT, iCT, uCT, nCT, ⟨gaCT, ggCT, xCT, hdCT⟩⟩
  have FCF := fun_mk (st := sErrF) l21 c21 k21
  have bCF := FCF.binds (ps := ["self", "most"]) fun _ _ _ _ _ _ us hl => match us, hl with | [_, _], _ => rfl
  have ECF : ErrF K mg "TooFine" "most" CF f21 := ⟨⟨⟨_, _, _, _, _, _, _, _, _, _, _, _, _, _, _, oCF, vCF⟩, sCF, xCF, tCF, kCF⟩, PySem.W.mg_of X G mCF, iCF, uCF, nCF, ⟨gaCF, ggCF, xCF, hdCF⟩⟩
  have FCL := fun_mk (st := sErrL) l22 c22 k22
  have bCL := FCL.binds (ps := ["self", "most"]) fun _ _ _ _ _ _ us hl => match us, hl with | [_, _], _ => rfl
  have ECL : ErrF K mg "TooLate" "most" CL f22 := ⟨⟨⟨_, _, _, _, _, _, _, _, _, _, _, _, _, _, _, oCL, vCL⟩, sCL, xCL, tCL, kCL⟩, PySem.W.mg_of X G mCL, iCL, uCL, nCL, ⟨gaCL, ggCL, xCL, hdCL⟩⟩
  have FEq := fun_mk (st := sEq) l19 c19 k19
  have bE := FEq.binds (ps := ["self", "other"]) fun _ _ _ _ _ _ us hl => match us, hl with | [_, _], _ => rfl
  have FFa := fun_mk (st := sFault) l15 c15 k15
  have bFa := FFa.binds (ps := ["ask"]) fun _ _ _ _ _ _ us hl => match us, hl with | [_], _ => rfl
  have hti : PySem.W.kitOne K (.type "tuple") (.ref C) = some false := kit_by jC tC sti
  have FIi := fun_mk (st := sInit) l16 c16 k16
  have bI := FIi.binds (ps := ["self", "below", "rests"]) fun _ _ _ _ _ _ us hl => match us, hl with | [_, _, _], _ => rfl
  have FBo := fun_mk (st := sBounds) l17 c17 k17
  have bBo := FBo.binds (ps := ["pen"]) fun _ _ _ _ _ _ us hl => match us, hl with | [_], _ => rfl
  refine ⟨PySem.W.fnOf "law" "law" (defArgs sLaw) (defBody sLaw) (defScope sLaw) .none kV18 dc18 pm18 an18 (.ref cL) ct18, [(cL, PT), (cB, PB)], spLaw K PT PB, fun p hp => ?_, fun p hp => ?_, fun p hp => ?_, fun s u => .of_eq rfl, fun H a ns hl _ ht hS => ⟨a, ns, rfl, hS, hl, fun p hp => ?_, fun _ => rfl⟩, fun base hKb _ hTB => ?_⟩
  · rcases List.mem_cons.mp hp with z | z
    · rw [z]; exact Y _ (.inl rfl)
    · rw [List.mem_singleton.mp z]; exact Y _ (.inr rfl)
  · rcases List.mem_cons.mp hp with z | z
    · rw [z]; exact nPT
    · rw [List.mem_singleton.mp z]; exact nPBl
  · rcases List.mem_cons.mp hp with z | z
    · rw [z]; exact PySem.W.codeHd_of_K X hP
    · rw [List.mem_singleton.mp z]; exact PySem.W.codeHd_of_K X hPB
  · rcases List.mem_cons.mp hp with z | z
    · rw [z]; exact LamX.TabS.nil (ht (cL, PT) (List.Mem.head _))
    · rw [List.mem_singleton.mp z]; exact LamX.TabS.nil (ht (cB, PB) (List.Mem.tail _ (List.Mem.head _)))
  have dRound := df_round (P := l.prog) (w := w) (base := base) (at_mk X G a2 l2 c2 k2) T.toTxtW
  have dPrimes := df_primes (P := l.prog) (w := w) (base := base) (at_mk X G a3 l3 c3 k3) 
  have dLper := df_lper (P := l.prog) (w := w) (base := base) (at_mk X G a1 l1 c1 k1) T.toTxtW dPrimes dRound
  have dLstart := df_lstart (P := l.prog) (w := w) (base := base) (at_mk X G a4 l4 c4 k4) T.toTxtW
  have dPen := df_pen (P := l.prog) (w := w) (base := base) (at_mk X G a5 l5 c5 k5) T.toTxtP
  have dDraw := df_draw (P := l.prog) (w := w) (base := base) (at_mk X G a6 l6 c6 k6) T.toTxtP
  have dPick := df_pick (P := l.prog) (w := w) (base := base) (at_mk X G a7 l7 c7 k7) T.toTxtP dDraw
  have dTruths := df_truths (P := l.prog) (w := w) (base := base) (at_mk X G a8 l8 c8 k8) T.toTxtP T.range dDraw
  have dModel := df_model (P := l.prog) (w := w) (base := base) (at_mk X G a9 l9 c9 k9) dDraw dPick dTruths
  have dTruth := df_truth (P := l.prog) (w := w) (base := base) (at_mk X G a10 l10 c10 k10) T.toTxtP
  have dLeast := df_least (P := l.prog) (w := w) (base := base) (at_mk X G a11 l11 c11 k11) T.toTxtW
  have dIsw := df_isw (P := l.prog) (w := w) (base := base) (at_mk X G a12 l12 c12 k12) T.toTxtW CW dLeast
  have dLonger := df_longer (P := l.prog) (w := w) (base := base) (at_mk X G a14 l14 c14 k14) T.toTxtP T.range dDraw dTruth
  have gT := ok_errT (P := l.prog) (w := w) (base := base) FCT ECT
  have gF := ok_errF (P := l.prog) (w := w) (base := base) FCF ECF
  have gL := ok_errL (P := l.prog) (w := w) (base := base) FCL ECL
  have dCk := dx_check (P := l.prog) (w := w) (base := base) (PySem.W.mg_of X G a0) (fun_mk (st := sCheck) l0 c0 k0) T.toTxtW ECT gT bCT
  have FI := ok_init (P := l.prog) (w := w) (base := base) FIi T.toTxtI CP ECT gT bCT ECF gF bCF ECL gL bCL dCk dLper dLstart
  have gE := ok_eq (P := l.prog) (w := w) (base := base) FEq T.toTxtW CW hti
  have dWhere := df_where (P := l.prog) (w := w) (base := base) (at_mk X G a13 l13 c13 k13) T.toTxtP CP M FI bI
  have EM : ErrM K CT CF CL := ⟨exm_by xCT jCT tCT xCTCT, exm_by xCT jCT tCT xCFCT, exm_by xCT jCT tCT xCLCT, exm_by xCF jCF tCF xCFCF, exm_by xCF jCF tCF xCLCF, exm_by xCL jCL tCL xCLCL⟩
  have FA : FaultAt K mg f15 _ _ _ _ _ _ _ _ _ := ⟨PySem.W.mg_of X G a15, k15, l15, c15, bFa⟩
  have gB := ok_bounds (P := l.prog) (w := w) (base := base) l17 c17 T.toTxtW CW M FI bI FA ECT ECF ECL EM (hTB (cB, PB) (List.Mem.tail _ (List.Mem.head _))) dDraw
  have dB : Df l.prog w K mg base 8 "_law_bounds_kept" ["pen"] (spBounds K PB) := ⟨_, _, PySem.W.mg_of X G a17, k17, bBo, gB⟩
  exact ok_law l18 c18 T CW M FI bI ⟨f19, _, a19, i19, t19, k19, bE, gE⟩ ne FA ECT ECF ECL EM (hTB (cL, PT) (List.Mem.head _)) nPB dPen dDraw dPick dModel dTruth dIsw dWhere dLonger dB
end Ef
set_option Elab.async false
set_option linter.all false
open PySem PySem.W PyProof.Rows in
set_option maxRecDepth 100000 in
set_option maxHeartbeats 0 in
theorem PySem.Challenge.cw_everyfloor_k09_sets_with_their_least_dat_holds : PySem.Challenge.rw_everyfloor_k09_sets_with_their_least_dat.Holds := by
  w_on; o_law; k_head; (case hw => w_witness2)
  k_fill
  refine LamX.walk_ofTs (l := PySem.Challenge.rw_everyfloor_k09_sets_with_their_least_dat) (n := 63) (k := 9) (x := "script") (CX := fun _ => L2.CX0) rfl (by decide) rfl ⟨rfl, by decide, by decide⟩ (fun w h Y => Y.1) ?F (fun _ _ _ _ _ z => z)
  case F =>
    intro w mg fa h Y KX G hmg
    refine' Ef.all_mk (l := PySem.Challenge.rw_everyfloor_k09_sets_with_their_least_dat) KX G hmg ?aC ?a0 ?l0 ?c0 ?k0 ?a1 ?l1 ?c1 ?k1 ?a2 ?l2 ?c2 ?k2 ?a3 ?l3 ?c3 ?k3 ?a4 ?l4 ?c4 ?k4 ?a5 ?l5 ?c5 ?k5 ?a6 ?l6 ?c6 ?k6 ?a7 ?l7 ?c7 ?k7 ?a8 ?l8 ?c8 ?k8 ?a9 ?l9 ?c9 ?k9 ?a10 ?l10 ?c10 ?k10 ?a11 ?l11 ?c11 ?k11 ?a12 ?l12 ?c12 ?k12 ?a13 ?l13 ?c13 ?k13 ?a14 ?l14 ?c14 ?k14 ?a15 ?l15 ?c15 ?k15 ?a16 ?i16 ?l16 ?c16 ?k16 ?a17 ?l17 ?c17 ?k17 ?tPB ?hPB ?nPBl ?a18 ?l18 ?c18 ?tP ?hP ?nPT ?a19 ?i19 ?t19 ?l19 ?c19 ?k19 ?ne ?sli ?sti ?jC ?tC ?mCT ?oCT ?vCT ?sCT ?xCT ?tCT ?kCT ?iCT ?uCT ?nCT ?gaCT ?ggCT ?hdCT ?l20 ?c20 ?k20 ?mCF ?oCF ?vCF ?sCF ?xCF ?tCF ?kCF ?iCF ?uCF ?nCF ?gaCF ?ggCF ?hdCF ?l21 ?c21 ?k21 ?mCL ?oCL ?vCL ?sCL ?xCL ?tCL ?kCL ?iCL ?uCL ?nCL ?gaCL ?ggCL ?hdCL ?l22 ?c22 ?k22 ?jCT ?jCF ?jCL ?xCTCT ?xCFCT ?xCLCT ?xCFCF ?xCLCF ?xCLCL ?nPB ?e0 ?e1 ?pg ?hd ?po ?sa ?mk ?kc ?cc ?cg ?ctk ?co ?nB ?nR ?nS ?nP ?nE ?nL ?z0 ?z1 ?z2 ?z3 ?z4 ?z5 ?z6 ?z7 ?z8 ?z9 ?hYY
    (case aC => k_is)
    (case a0 => k_is)
    (case l0 => k_is)
    (case c0 => k_is)
    (case k0 => k_is)
    (case a1 => k_is)
    (case l1 => k_is)
    (case c1 => k_is)
    (case k1 => k_is)
    (case a2 => k_is)
    (case l2 => k_is)
    (case c2 => k_is)
    (case k2 => k_is)
    (case a3 => k_is)
    (case l3 => k_is)
    (case c3 => k_is)
    (case k3 => k_is)
    (case a4 => k_is)
    (case l4 => k_is)
    (case c4 => k_is)
    (case k4 => k_is)
    (case a5 => k_is)
    (case l5 => k_is)
    (case c5 => k_is)
    (case k5 => k_is)
    (case a6 => k_is)
    (case l6 => k_is)
    (case c6 => k_is)
    (case k6 => k_is)
    (case a7 => k_is)
    (case l7 => k_is)
    (case c7 => k_is)
    (case k7 => k_is)
    (case a8 => k_is)
    (case l8 => k_is)
    (case c8 => k_is)
    (case k8 => k_is)
    (case a9 => k_is)
    (case l9 => k_is)
    (case c9 => k_is)
    (case k9 => k_is)
    (case a10 => k_is)
    (case l10 => k_is)
    (case c10 => k_is)
    (case k10 => k_is)
    (case a11 => k_is)
    (case l11 => k_is)
    (case c11 => k_is)
    (case k11 => k_is)
    (case a12 => k_is)
    (case l12 => k_is)
    (case c12 => k_is)
    (case k12 => k_is)
    (case a13 => k_is)
    (case l13 => k_is)
    (case c13 => k_is)
    (case k13 => k_is)
    (case a14 => k_is)
    (case l14 => k_is)
    (case c14 => k_is)
    (case k14 => k_is)
    (case a15 => k_is)
    (case l15 => k_is)
    (case c15 => k_is)
    (case k15 => k_is)
    (case a16 => k_is)
    (case i16 => k_is)
    (case l16 => k_is)
    (case c16 => k_is)
    (case k16 => k_is)
    (case a17 => k_is)
    (case l17 => k_is)
    (case c17 => k_is)
    (case k17 => k_is)
    (case tPB => first | k_is | rfl | decide +kernel)
    (case hPB => first | k_is | rfl | decide +kernel)
    (case nPBl => first | k_is | decide +kernel | rfl)
    (case a18 => k_is)
    (case l18 => k_is)
    (case c18 => k_is)
    (case tP => first | k_is | rfl | decide +kernel)
    (case hP => first | k_is | rfl | decide +kernel)
    (case nPT => first | k_is | decide +kernel | rfl)
    (case a19 => k_is)
    (case i19 => k_is)
    (case t19 => k_is)
    (case l19 => k_is)
    (case c19 => k_is)
    (case k19 => k_is)
    (case ne => k_is)
    (case sli => k_is)
    (case sti => k_is)
    (case jC => k_is)
    (case tC => k_is)
    (case mCT => k_is)
    (case oCT => k_is)
    (case vCT => decide +kernel)
    (case sCT => k_is)
    (case xCT => k_is)
    (case tCT => k_is)
    (case kCT => k_is)
    (case iCT => k_is)
    (case uCT => k_is)
    (case nCT => k_is)
    (case gaCT => k_is)
    (case ggCT => k_is)
    (case hdCT => k_is)
    (case l20 => k_is)
    (case c20 => k_is)
    (case k20 => k_is)
    (case mCF => k_is)
    (case oCF => k_is)
    (case vCF => decide +kernel)
    (case sCF => k_is)
    (case xCF => k_is)
    (case tCF => k_is)
    (case kCF => k_is)
    (case iCF => k_is)
    (case uCF => k_is)
    (case nCF => k_is)
    (case gaCF => k_is)
    (case ggCF => k_is)
    (case hdCF => k_is)
    (case l21 => k_is)
    (case c21 => k_is)
    (case k21 => k_is)
    (case mCL => k_is)
    (case oCL => k_is)
    (case vCL => decide +kernel)
    (case sCL => k_is)
    (case xCL => k_is)
    (case tCL => k_is)
    (case kCL => k_is)
    (case iCL => k_is)
    (case uCL => k_is)
    (case nCL => k_is)
    (case gaCL => k_is)
    (case ggCL => k_is)
    (case hdCL => k_is)
    (case l22 => k_is)
    (case c22 => k_is)
    (case k22 => k_is)
    (case jCT => k_is)
    (case jCF => k_is)
    (case jCL => k_is)
    (case xCTCT => k_is)
    (case xCFCT => k_is)
    (case xCLCT => k_is)
    (case xCFCF => k_is)
    (case xCLCF => k_is)
    (case xCLCL => k_is)
    (case nPB => decide)
    (case e0 => k_is)
    (case e1 => k_is)
    (case pg => k_is)
    (case hd => k_is)
    (case po => k_is)
    (case sa => k_is)
    (case mk => k_is)
    (case kc => k_is)
    (case cc => k_is)
    (case cg => k_is)
    (case ctk => k_is)
    (case co => k_is)
    (case nB => k_is)
    (case nR => k_is)
    (case nS => k_is)
    (case nP => k_is)
    (case nE => k_is)
    (case nL => k_is)
    (case z0 => k_is)
    (case z1 => k_is)
    (case z2 => k_is)
    (case z3 => k_is)
    (case z4 => k_is)
    (case z5 => k_is)
    (case z6 => k_is)
    (case z7 => k_is)
    (case z8 => k_is)
    (case z9 => k_is)
    (case hYY => intro p hp; rcases hp with rfl | rfl <;> exact Y.2 _ (by decide))
#print axioms PySem.Challenge.cw_everyfloor_k09_sets_with_their_least_dat_holds
