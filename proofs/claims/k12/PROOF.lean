import PyProof.Rows.All
import Wide.All
import OpenK.AllK
import Wide.FinOn
import HandS.ForMost
import PySem.Challenge.RW_everyfloor_k12_whole_operators_of_sets
import HandS.IsInst
import KE.GoesEnum
import HandS.Style
import HandS.Walk
import HandS.TupAny
import HandS.RevRange
import HandS.Conv
import HandS.More
import HandS.ClsMeth
import HandS.OwnEq
import KE.KCallOwn
import HandS.ExcOwn
import HandS.TupMul
import HandS.Zip
import HandS.Gcd
import HandS.ForExc
import HandS.TryMany
import HandS.ExcInit
import HandS.ExcField
import HandS.Defaults
import HandS.Lambda
import HandS.Nested
import HandS.EndTab
import HandS.NoneIn
set_option Elab.async false
set_option linter.all false
set_option maxRecDepth 100000
set_option maxHeartbeats 4000000
namespace Ef
open PySem PySem.Spec PyProof.Rows L2
def top (i : Nat) : Stmt := PySem.Challenge.pw_everyfloor_k12_whole_operators_of_sets.main.body.getD i (.Pass ⟨0, 0, 0, 0⟩)
abbrev sPen : Stmt := top 27
abbrev sDraw : Stmt := top 28
abbrev sPick : Stmt := top 29
/-! ### the pen -/
def penD (l : Addr) (a b : Int) : List (Key × V) := [(.inr "cells", .ref l), (.inr "at", .int a), (.inr "left", .int b)]
theorem pen_cells (l : Addr) (a b : Int) : valV (penD l a b) (Sum.inr "cells") = some (.ref l) := by with_unfolding_all rfl
theorem pen_at (l : Addr) (a b : Int) : valV (penD l a b) (Sum.inr "at") = some (.int a) := by with_unfolding_all rfl
theorem pen_left (l : Addr) (a b : Int) : valV (penD l a b) (Sum.inr "left") = some (.int b) := by with_unfolding_all rfl
theorem put_at (l : Addr) (a b c : Int) : putK (penD l a b) (Sum.inr "at") (.int c) = penD l c b := by with_unfolding_all rfl
theorem put_left (l : Addr) (a b c : Int) : putK (penD l a b) (Sum.inr "left") (.int c) = penD l a c := by with_unfolding_all rfl
/-- at p stands the pen: its list of ints at l, its place a, what is left b -/
structure Pen (H : Hp) (p l : Addr) (ns : List Int) (a b : Int) : Prop where
  hd : H p = some (.dK (penD l a b))
  hl : H l = some (.lst (ns.map V.int))
  len : ns.length ≤ 63
  a0 : 0 ≤ a
  b0 : 0 ≤ b
/-- all that is tracked but p is as it was -/
def Kp (p : Addr) (H H' : Hp) : Prop := ∀ x o, x ≠ p → H x = some o → H' x = some o
theorem Kp.refl (p : Addr) (H : Hp) : Kp p H H := fun _ _ _ h => h
theorem Kp.trans {p : Addr} {H H1 H2 : Hp} (a : Kp p H H1) (b : Kp p H1 H2) : Kp p H H2 := fun x o n h => b x o n (a x o n h)
theorem Kp.put {p : Addr} {H : Hp} (o : HO) : Kp p H (upd H p o) := fun x u n h => by rw [upd_ne n]; exact h
theorem Kp.new {p q : Addr} {H : Hp} (o : HO) (hq : H q = none) : Kp p H (upd H q o) := fun x u n h => by rw [upd_ne (ne_of_none h hq)]; exact h
/-! ### data -/
theorem dp_ints {K : PySem.W.Frag} {H : Hp} : ∀ ns : List Int, DpAll K H (ns.map V.int) (ns.map PyData.int)
  | [] => .nil
  | n :: ns => .cons (.int n) (dp_ints ns)
theorem dp_bls {K : PySem.W.Frag} {H : Hp} : ∀ bs : List Bool, DpAll K H (bs.map V.bl) (bs.map PyData.bool)
  | [] => .nil
  | n :: ns => .cons (.bl n) (dp_bls ns)
theorem can_ints : ∀ ns : List Int, PyData.canLayAll0 (ns.map PyData.int) = true ∧ PyData.depthAll (ns.map PyData.int) = 0
  | [] => ⟨rfl, rfl⟩
  | n :: ns => by
    obtain ⟨h1, h2⟩ := can_ints ns
    constructor
    · show (PyData.canLay0 (.int n) && PyData.canLayAll0 (ns.map PyData.int)) = true
      rw [h1]; rfl
    · show max (PyData.depth (.int n)) (PyData.depthAll (ns.map PyData.int)) = 0
      rw [h2]; rfl
theorem can_bls : ∀ ns : List Bool, PyData.canLayAll0 (ns.map PyData.bool) = true ∧ PyData.depthAll (ns.map PyData.bool) = 0
  | [] => ⟨rfl, rfl⟩
  | n :: ns => by
    obtain ⟨h1, h2⟩ := can_bls ns
    constructor
    · show (PyData.canLay0 (.bool n) && PyData.canLayAll0 (ns.map PyData.bool)) = true
      rw [h1]; rfl
    · show max (PyData.depth (.bool n)) (PyData.depthAll (ns.map PyData.bool)) = 0
      rw [h2]; rfl
theorem sh_list {ds : List PyData} (h1 : PyData.canLayAll0 ds = true) (h2 : PyData.depthAll ds = 0) : SeqAt.shaped (.list ds) = true ∧ SeqAt.shaped (.tuple ds) = true := by
  constructor
  · show (PyData.canLayAll0 ds && decide (PyData.depthAll ds + 1 ≤ 64)) = true
    rw [h1, h2]; rfl
  · show (PyData.canLayAll0 ds && decide (PyData.depthAll ds + 1 ≤ 64)) = true
    rw [h1, h2]; rfl
theorem eqv_nil (ns : List Int) : PyData.eqv (.list (ns.map PyData.int)) (.list []) = ns.isEmpty := by
  cases ns with
  | nil => rfl
  | cons n ns => rfl
theorem eqv_bls : ∀ as bs : List Bool, PyData.eqvAll (as.map PyData.bool) (bs.map PyData.bool) = decide (as = bs)
  | [], [] => rfl
  | [], _ :: _ => rfl
  | _ :: _, [] => rfl
  | a :: as, b :: bs => by
    show (PyData.eqv (.bool a) (.bool b) && PyData.eqvAll (as.map PyData.bool) (bs.map PyData.bool)) = _
    rw [eqv_bls as bs]
    show ((a == b) && decide (as = bs)) = decide (a :: as = b :: bs)
    by_cases h1 : a = b <;> by_cases h2 : as = bs <;> simp [h1, h2]
end Ef
set_option Elab.async false
set_option linter.all false
set_option maxRecDepth 100000
set_option maxHeartbeats 4000000
namespace Ef
open PySem PySem.Spec PyProof.Rows L2
structure TxtP (mg : Str → Option Value) : Prop where
  int : mg "int" = none
  len : mg "len" = none
  list : mg "list" = none
/-- what a draw promises -/
def spDraw : Sp := fun vs H Q _ => ∃ (p l : Addr) (ns : List Int) (a b m : Int), vs = [.ref p, .int m] ∧ Pen H p l ns a b ∧ a ≤ 1073741824 ∧ 1 ≤ m ∧ m < 1073741824 ∧
  ∀ (d a' b' : Int) (H' : Hp), 0 ≤ d → d < m → a' ≤ a + 1 → Pen H' p l ns a' b' → Kp p H H' → Q (.int d) H'
theorem scDraw : FnScope ["pen", "many", "digit", "at", "cell", "mixed"] ["pen", "many"] (defScope sDraw) := ⟨rfl, rfl, rfl, by decide +kernel, rfl, by decide +kernel, by decide +kernel⟩
section
variable {P : Program} {w : World} {K : PySem.W.Frag} {mg : Str → Option Value} {base : Heap}
theorem Pen.ne {H : Hp} {p l : Addr} {ns : List Int} {a b : Int} (h : Pen H p l ns a b) : l ≠ p := ne_of h.hl h.hd (by intro q; cases q)
theorem Pen.put {H : Hp} {p l : Addr} {ns : List Int} {a b : Int} (h : Pen H p l ns a b) {a' b' : Int} (ha : 0 ≤ a') (hb : 0 ≤ b') : Pen (upd H p (.dK (penD l a' b'))) p l ns a' b' :=
  ⟨upd_same, by rw [upd_ne h.ne]; exact h.hl, h.len, ha, hb⟩
theorem Pen.kp {H H' : Hp} {p l : Addr} {ns : List Int} {a b : Int} (h : Pen H p l ns a b) (k : Kp p H H') (hp : H' p = H p) : Pen H' p l ns a b := ⟨hp.trans h.hd, k _ _ h.ne h.hl, h.len, h.a0, h.b0⟩
theorem emB (x k : Int) (h : 0 < k) (h2 : k < 2 ^ 64) : -(2 ^ 64) < x % k ∧ x % k < 2 ^ 64 := by
  have h1 := Int.emod_nonneg x (show k ≠ 0 by omega)
  have h3 := Int.emod_lt_of_pos x h
  omega
theorem Pen.gl {H : Hp} {p l : Addr} {ns : List Int} {a b : Int} (h : Pen H p l ns a b) : DGet H p (.str "left") (some (.int b)) := by
  have z := DGet.k (k := Sum.inr "left") h.hd
  rw [pen_left] at z
  exact z
theorem Pen.ga {H : Hp} {p l : Addr} {ns : List Int} {a b : Int} (h : Pen H p l ns a b) : DGet H p (.str "at") (some (.int a)) := by
  have z := DGet.k (k := Sum.inr "at") h.hd
  rw [pen_at] at z
  exact z
theorem Pen.gc {H : Hp} {p l : Addr} {ns : List Int} {a b : Int} (h : Pen H p l ns a b) : DGet H p (.str "cells") (some (.ref l)) := by
  have z := DGet.k (k := Sum.inr "cells") h.hd
  rw [pen_cells] at z
  exact z
theorem Pen.pl {H : Hp} {p l : Addr} {ns : List Int} {a b c : Int} (h : Pen H p l ns a b) : DPut H p (.str "left") (.int c) (upd H p (.dK (penD l a c))) := by
  have z := DPut.k (k := Sum.inr "left") (v := .int c) h.hd (by show 3 < sizeLine; decide)
  rw [put_left] at z
  exact z
theorem Pen.pa {H : Hp} {p l : Addr} {ns : List Int} {a b c : Int} (h : Pen H p l ns a b) : DPut H p (.str "at") (.int c) (upd H p (.dK (penD l c b))) := by
  have z := DPut.k (k := Sum.inr "at") (v := .int c) h.hd (by show 3 < sizeLine; decide)
  rw [put_at] at z
  exact z
theorem ok_draw {f : Addr} {fd : FuncData} (F : Fun K "_law_draw" "_law_draw" sDraw f fd) (T : TxtP mg) : FnOk P w K mg base CX0 1 f fd ["pen", "many"] spDraw := by
  refine F.ok scDraw (fun vs H Q E h => ?_) (fun cdv A outer s H vs Q E hr h => ?_)
  · obtain ⟨p, l, ns, a, b, m, rfl, _⟩ := h
    rfl
  · obtain ⟨p, l, ns, a, b, m, rfl, hP, ha, hm1, hm2, q⟩ := h
    have hu := hu_of hr
    refine ⟨_, (pss_cons (ps_if (pt_cmpR op_ge (pe_dget hu (pv 0) pe_str (fun _ _ => rfl)) (pv 1) (nomark _)) (pss_cons (ps_set (i := 2) scDraw.nd rfl (.inl rfl) (pe_op op_mod (pe_callTy call_int1 (by rfl) T.int (by decide +kernel) (pa_cons (pe_dget hu (pv 0) pe_str (fun _ _ => rfl)) pa_nil)) (pv 1)))
      (pss_cons (ps_dput hu (pv 0) pe_str (pe_op op_fdiv (pe_dget hu (pv 0) pe_str (fun _ _ => rfl)) (pv 1)) rfl)
      (pss_one (ps_ret (pv 2))))) pss_nil)
      (pss_cons (ps_set (i := 3) scDraw.nd rfl (.inl rfl) (pe_dget hu (pv 0) pe_str (fun _ _ => rfl)))
      (pss_cons (ps_dput hu (pv 0) pe_str (pe_op op_add (pv 3) pe_int) rfl)
      (pss_cons (ps_set (i := 4) scDraw.nd rfl (.inl rfl) (pe_op op_add (pe_op op_mul pe_int (pv 3)) pe_int))
      (pss_cons (ps_if (pt_cmpR (op_neD hr.units) (pe_dget hu (pv 0) pe_str (fun _ _ => rfl)) (pe_lst pa_nil) (nomark _)) (pss_one (ps_set (i := 4) scDraw.nd rfl (.inl rfl) (pe_ix ix_list (pe_dget hu (pv 0) pe_str (fun _ _ => rfl)) (pe_op op_mod (pe_callTy call_int1 (by rfl) T.int (by decide +kernel) (pa_cons (pv 3) pa_nil)) (pe_callB call_len_seq (by rfl) T.len PySem.boot_len (pa_cons (pe_dget hu (pv 0) pe_str (fun _ _ => rfl)) pa_nil))) (fun _ _ => rfl)))) pss_nil)
      (pss_cons (ps_if (pw_and (pt_cmpR op_lt (pv 3) (pe_callB call_len_seq (by rfl) T.len PySem.boot_len (pa_cons (pe_dget hu (pv 0) pe_str (fun _ _ => rfl)) pa_nil)) (nomark _)) (pw_and1 (pt_cmpR op_ge (pv 4) (pe_op op_pow pe_int pe_int) (nomark _)))).pt (pss_cons (ps_dput hu (pv 0) pe_str (pe_op op_fdiv (pe_op op_sub (pv 4) (pe_op op_pow pe_int pe_int)) (pv 1)) rfl)
      (pss_one (ps_ret (pe_op op_mod (pe_callTy call_int1 (by rfl) T.int (by decide +kernel) (pa_cons (pe_op op_sub (pv 4) (pe_op op_pow pe_int pe_int)) pa_nil)) (pv 1))))) pss_nil)
      (pss_cons (ps_set (i := 5) scDraw.nd rfl (.inl rfl) (pe_op op_add (pe_op op_add (pe_op op_add (pe_op op_mul (pe_op op_mod (pe_callTy call_int1 (by rfl) T.int (by decide +kernel) (pa_cons (pv 4) pa_nil)) pe_int) pe_int) (pe_op op_mul (pe_op op_mul pe_int (pv 3)) (pv 3))) (pe_op op_mul pe_int (pv 3))) pe_int))
      (pss_cons (ps_set (i := 5) scDraw.nd rfl (.inl rfl) (pe_op op_mod (pe_callTy call_int1 (by rfl) T.int (by decide +kernel) (pa_cons (pv 5) pa_nil)) pe_int))
      (pss_cons (ps_set (i := 5) scDraw.nd rfl (.inl rfl) (pe_op op_mod (pe_callTy call_int1 (by rfl) T.int (by decide +kernel) (pa_cons (pe_op op_mul (pv 5) (pe_op op_add (pv 5) pe_int)) pa_nil)) pe_int))
      (pss_one (ps_ret (pe_op op_mod (pe_callTy call_int1 (by rfl) T.int (by decide +kernel) (pa_cons (pe_op op_fdiv (pe_op op_mod (pe_callTy call_int1 (by rfl) T.int (by decide +kernel) (pa_cons (pe_op op_mul (pv 5) (pv 5)) pa_nil)) pe_int) pe_int) pa_nil)) (pv 1))))))))))))), ?_⟩
    -- if pen['left'] >= many
    refine ⟨_, rfl, p, _, rfl, hP.gl, _, rfl, _, _, rfl, rfl, _, rfl, ?_⟩
    refine ite2 (fun hb => ?_) (fun hb => ?_)
    · -- digit; pen['left']; return
      refine ⟨_, rfl, p, _, rfl, hP.gl, .inl ⟨_, rfl, ?_⟩⟩
      refine ⟨_, rfl, _, _, rfl, rfl, by omega, ?_⟩
      refine ⟨_, rfl, p, _, rfl, hP.gl, _, rfl, _, _, rfl, rfl, ⟨by omega, hm2⟩, _, rfl, p, _, rfl, hP.pl, ?_⟩
      refine ⟨_, rfl, ?_⟩
      exact q _ _ _ _ (Int.emod_nonneg _ (by omega)) (Int.emod_lt_of_pos _ (by omega)) (by omega) (hP.put hP.a0 (Int.ediv_nonneg hP.b0 (by omega))) (Kp.put _)
    · -- at = pen['at']; pen['at'] = at + 1
      refine ⟨_, rfl, p, _, rfl, hP.ga, ?_⟩
      refine ⟨_, rfl, _, _, rfl, rfl, _, rfl, p, _, rfl, hP.pa, ?_⟩
      have hP1 := hP.put (a' := a + 1) (b' := b) (by have := hP.a0; omega) hP.b0
      have a0 := hP.a0
      have b0 := hP.b0
      have k1 : Kp p H (upd H p (.dK (penD l (a + 1) b))) := Kp.put _
      have aE : ∀ {x : Int}, x = a → -(2 ^ 64) < x ∧ x < 2 ^ 64 := fun e => by subst e; constructor <;> omega
      -- cell = 37 * at + 11
      refine ⟨_, rfl, _, _, rfl, rfl, .inl ⟨by decide, by decide⟩, _, _, rfl, rfl, ?_⟩
      -- if pen['cells'] != []
      refine ⟨_, rfl, p, _, rfl, hP1.gc, Nat.zero_le _, fun t ht => ?_⟩
      have hP2 : Pen (upd (upd H p (.dK (penD l (a + 1) b))) t (.lst [])) p l ns (a + 1) b := hP1.kp (Kp.new _ ht) (upd_ne (ne_of_none hP1.hd ht))
      have k2 := k1.trans (Kp.new (.lst []) ht)
      have hT : SqL K (upd (upd H p (.dK (penD l (a + 1) b))) t (.lst [])) t [] := .inl (.inl upd_same)
      refine ⟨_, _, .lst (.inl (.inl hP2.hl)) (dp_ints ns), .lst hT .nil, (sh_list (can_ints ns).1 (can_ints ns).2).1, (sh_list rfl rfl).1, _, rfl, ?_⟩
      generalize upd (upd H p (.dK (penD l (a + 1) b))) t (.lst []) = H2 at hP2 k2 hT ⊢
      rw [eqv_nil]
      have hm0 : (0 : Int) < m := by omega
      refine ite2 ?g1 ?g2
      case' g1 =>
        intro he
        have hn : 0 < ns.length := by
          cases ns with
          | nil => exact absurd he (by decide)
          | cons n ns => exact Nat.succ_pos _
        have hlt : (a % (ns.length : Int)).toNat < ns.length := by
          have h1 := Int.emod_nonneg a (show (ns.length : Int) ≠ 0 by omega)
          have h2 := Int.emod_lt_of_pos a (show (0 : Int) < (ns.length : Int) by omega)
          omega
        refine ⟨_, rfl, p, _, rfl, hP2.gc, _, rfl, .inl ⟨_, rfl, _, rfl, p, _, rfl, hP2.gc, _, _, rfl, .inl (.inl (.inl hP2.hl)), _, _, rfl, rfl, by rw [List.length_map]; omega, l, _, _, .int ns[(a % (ns.length : Int)).toNat], rfl, rfl, .inl (.inl hP2.hl), ?_, ?_⟩⟩
        · rw [List.length_map]
          exact at_of (Int.toNat_of_nonneg (Int.emod_nonneg a (show (ns.length : Int) ≠ 0 by omega))).symm (by rw [List.getElem?_map, List.getElem?_eq_getElem hlt]; rfl)
        generalize ns[(a % (ns.length : Int)).toNat] = c
      case' g2 =>
        intro he
        generalize 37 * a + 11 = c
      all_goals
        refine ⟨_, rfl, _, rfl, p, _, rfl, hP2.gc, _, _, rfl, .inl (.inl (.inl hP2.hl)), _, _, rfl, rfl, _, rfl, ?_⟩
        refine ite2 ?_ ?_
      all_goals intro h1
      all_goals try
        (refine ⟨_, rfl, _, _, rfl, rfl, ⟨by decide, by decide, by decide⟩, _, _, rfl, rfl, _, rfl, ?_⟩
         refine ite2 ?_ ?_ <;> intro h2)
      all_goals try
        (refine ⟨_, rfl, _, _, rfl, rfl, ⟨by decide, by decide, by decide⟩, _, _, rfl, rfl, _, rfl, _, _, rfl, rfl, ⟨hm0, hm2⟩, _, rfl, p, _, rfl, hP2.pl, ?_⟩
         refine ⟨_, rfl, _, _, rfl, rfl, ⟨by decide, by decide, by decide⟩, _, _, rfl, rfl, .inl ⟨_, rfl, _, rfl, _, _, rfl, rfl, hm0, ?_⟩⟩
         exact q _ _ _ _ (Int.emod_nonneg _ (Int.ne_of_gt hm0)) (Int.emod_lt_of_pos _ hm0) (Int.le_refl _) (hP2.put hP2.a0 (Int.ediv_nonneg (Int.sub_nonneg_of_le (of_decide_eq_true h2)) (Int.le_of_lt hm0))) (k2.trans (Kp.put _)))
      all_goals try refine iteF ?_
      all_goals
        refine ⟨_, rfl, .inl ⟨_, rfl, _, _, rfl, rfl, (by show (0 : Int) < _; decide), _, _, rfl, rfl, .inr ⟨by decide, by decide⟩, _, rfl, _, _, rfl, rfl, .inl ⟨by decide, by decide⟩, _, rfl, _, _, rfl, rfl, .inr (aE rfl), _, _, rfl, rfl, _, rfl, _, _, rfl, rfl, .inl ⟨by decide, by decide⟩, _, _, rfl, rfl, _, _, rfl, rfl, ?_⟩⟩
        refine ⟨_, rfl, .inl ⟨_, rfl, _, _, rfl, rfl, (by show (0 : Int) < _; decide), ?_⟩⟩
        refine ⟨_, rfl, _, rfl, _, _, rfl, rfl, _, _, rfl, rfl, .inl (emB _ _ (by decide) (by decide)), .inl ⟨_, rfl, _, _, rfl, rfl, (by show (0 : Int) < _; decide), ?_⟩⟩
        refine ⟨_, rfl, _, rfl, _, _, rfl, rfl, .inl (emB _ _ (by decide) (by decide)), .inl ⟨_, rfl, _, _, rfl, rfl, (by show (0 : Int) < _; decide), _, _, rfl, rfl, ⟨by decide, by decide⟩, .inl ⟨_, rfl, _, rfl, _, _, rfl, rfl, hm0, ?_⟩⟩⟩
        exact q _ _ _ _ (Int.emod_nonneg _ (Int.ne_of_gt hm0)) (Int.emod_lt_of_pos _ hm0) (Int.le_refl _) hP2 k2
end
end Ef
set_option Elab.async false
set_option linter.all false
set_option maxRecDepth 100000
set_option maxHeartbeats 4000000
namespace Ef
open PySem PySem.Spec PyProof.Rows L2
abbrev sTruths : Stmt := top 30
abbrev sModel : Stmt := top 31
abbrev sTruth : Stmt := top 32
abbrev sWhere : Stmt := top 35
/-- a def of the text, by its name -/
structure Df (P : Program) (w : World) (K : PySem.W.Frag) (mg : Str → Option Value) (base : Heap) (k : Nat) (x : Str) (ps : List Str) (sp : Sp) : Prop where
  ex : ∃ f fd, mg x = some (.ref f) ∧ PySem.W.keepIn K (.ref f) = true ∧ Binds K fd ps [] ∧ FnOk P w K mg base CX0 k f fd ps sp
theorem Df.call {X : Cx} {k : Nat} {x : Str} {ps : List Str} {sp : Sp} {e : Expr} {es : List Expr} {t : TA} {p pos : Pos} (D : Df X.prog X.w X.K X.mg X.base k x ps sp) (hr : Room k X.A) (ha : PA X (e :: es) t) (hg : Gl X x := by rfl)
    (hdb : (x == ("__debug__" : Str)) = false := by decide) (he : starEach (e :: es) X.env = (false, eval e X.env) :: starEach es X.env := by rfl) (hpl : (backTo pos (starEach es X.env)).any (·.1) = false := by rfl) :
    PE X (.Call (.Name x p) (e :: es) [] pos) (tCall sp [] E0 t) := by
  obtain ⟨f, fd, hm, hk, hb, F⟩ := D.ex
  exact pe_call F hr hg hm hk hb .nil pass0 ha hdb he hpl
/-- where the text's def stands behind the top -/
structure At (K : PySem.W.Frag) (mg : Str → Option Value) (x : Str) (st : Stmt) : Prop where
  ex : ∃ f fd, mg x = some (.ref f) ∧ Fun K x x st f fd
section
variable {P : Program} {w : World} {K : PySem.W.Frag} {mg : Str → Option Value} {base : Heap}
theorem Kp.of_same {p : Addr} {H H' : Hp} (h : Same H H') : Kp p H H' := fun x o _ e => h x o e
theorem Kp.rd {p : Addr} {H H' : Hp} {q : Addr} {u : HO} (k : Kp p H H') (n : q ≠ p) (h : Rd H q u) : Rd H' q u := by
  rcases h with h | ⟨o, h⟩
  · exact .inl (k _ _ n h)
  · exact .inr ⟨o, k _ _ n h⟩
theorem Kp.sql {p : Addr} {H H' : Hp} {q : Addr} {xs : List V} (k : Kp p H H') (n : q ≠ p) (h : SqL K H q xs) : SqL K H' q xs := by
  rcases h with h | h
  · exact .inl (k.rd n h)
  · exact .inr h
theorem Kp.sqt {p : Addr} {H H' : Hp} {q : Addr} {xs : List V} (k : Kp p H H') (n : q ≠ p) (h : SqT K H q xs) : SqT K H' q xs := by
  rcases h with h | h
  · exact .inl (k.rd n h)
  · exact .inr h
theorem Kp.free {p : Addr} {H H' : Hp} (k : Kp p H H') {q : Addr} (n : q ≠ p) (h : H' q = none) : H q = none := by
  cases e : H q with
  | none => rfl
  | some o => rw [k q o n e] at h; cases h
theorem Kp.mut {p q : Addr} {H H' : Hp} {o : HO} (k : Kp p H H') (h : H q = none) : Kp p H (upd H' q o) := fun x u n e => by
  rw [upd_ne (ne_of_none e h)]
  exact k x u n e
theorem small1000' {n : Nat} (h : n ≤ 100000) : n < sizeLine := Nat.lt_of_le_of_lt h (by decide)
theorem df_draw (A : At K mg "_law_draw" sDraw) (T : TxtP mg) : Df P w K mg base 1 "_law_draw" ["pen", "many"] spDraw := by
  obtain ⟨f, fd, hm, F⟩ := A.ex
  exact ⟨f, fd, hm, F.kp, F.binds (fun _ _ _ _ _ _ us hl => match us, hl with | [_, _], _ => rfl), ok_draw F T⟩
/-! ### _law_pen -/
def spPen (K : PySem.W.Frag) : Sp := fun vs H Q _ => ∃ (a : Addr) (ns : List Int), vs = [.ref a] ∧ SqL K H a (ns.map V.int) ∧ ns.length ≤ 63 ∧ ∀ (p l : Addr) (H' : Hp), H p = none → Same H H' → Pen H' p l ns 0 0 → Q (.ref p) H'
theorem scPen : FnScope ["script"] ["script"] (defScope sPen) := ⟨rfl, rfl, rfl, by decide +kernel, rfl, by decide +kernel, by decide +kernel⟩
theorem cut63 (xs : List V) (h : xs.length ≤ 63) : cutV xs none (some 63) = xs := by
  unfold cutV
  rw [HT.sIx_none, show HT.sIx xs.length xs.length (some 63) = min 63 xs.length from HT.sIx_nat xs.length xs.length 63, Nat.min_eq_right h]
  simp
theorem df_pen (A : At K mg "_law_pen" sPen) (T : TxtP mg) : Df P w K mg base 1 "_law_pen" ["script"] (spPen K) := by
  obtain ⟨f, fd, hm, F⟩ := A.ex
  refine ⟨f, fd, hm, F.kp, F.binds (fun _ _ _ _ _ _ us hl => match us, hl with | [_], _ => rfl), F.ok scPen (fun vs H Q E h => ?_) (fun cdv A outer s H vs Q E hr h => ?_)⟩
  · obtain ⟨a, ns, rfl, _⟩ := h
    rfl
  · obtain ⟨a, ns, rfl, hS, hlen, q⟩ := h
    refine ⟨_, (pss_one (ps_ret (pe_disp (pps_cons pe_str (pe_callTy call_list_of (by rfl) T.list (by decide +kernel) (pa_cons (pe_slice sl_list (pv 0) po_none (po_some pe_int)) pa_nil)) (pps_cons pe_str pe_int (pps_cons pe_str pe_int pps_nil))) (by rfl) (by rfl) (fun z => by cases z) (by decide)))), ?_⟩
    intro p hp
    have s1 : Same H (upd H p (.dK [])) := fun b o e => by rw [upd_ne (ne_of_none e hp)]; exact e
    refine ⟨_, rfl, 63, rfl, a, _, rfl, s1.seq hS, fun c hc => ?_⟩
    rw [cut63 _ (by rw [List.length_map]; exact hlen)]
    have s2 : Same H (upd (upd H p (.dK [])) c (.lst (ns.map V.int))) := s1.trans fun b o e => by rw [upd_ne (ne_of_none e hc)]; exact e
    refine ⟨c, _, rfl, .inl (.inl (.inl upd_same)), fun l hl => ?_⟩
    have s3 : Same H (upd (upd (upd H p (.dK [])) c (.lst (ns.map V.int))) l (.lst (ns.map V.int))) := s2.trans fun b o e => by rw [upd_ne (ne_of_none e hl)]; exact e
    have hpc : p ≠ c := fun z => by rw [← z, upd_same] at hc; cases hc
    have hpl : p ≠ l := fun z => by rw [← z, upd_ne hpc, upd_same] at hl; cases hl
    refine ⟨by rw [upd_ne hpl, upd_ne hpc, upd_same], penD l 0 0, rfl, by show 3 ≤ 15; decide, ?_⟩
    refine q p l _ hp (fun b o e => ?_) ⟨upd_same, by rw [upd_ne hpl.symm, upd_same], hlen, Int.le_refl 0, Int.le_refl 0⟩
    rw [upd_ne (ne_of_none e hp)]
    exact s3 _ _ e
/-! ### _law_pick -/
def spPick (K : PySem.W.Frag) : Sp := fun vs H Q _ => ∃ (p l q : Addr) (ns : List Int) (a b : Int) (xs : List V), vs = [.ref p, .ref q] ∧ Pen H p l ns a b ∧ a ≤ 1073741824 ∧ SqL K H q xs ∧ q ≠ p ∧ 1 ≤ xs.length ∧ xs.length ≤ 100000 ∧
  ∀ (j : Nat) (v : V) (a' b' : Int) (H' : Hp), xs[j]? = some v → a' ≤ a + 1 → Pen H' p l ns a' b' → Kp p H H' → Q v H'
theorem scPick : FnScope ["pen", "some"] ["pen", "some"] (defScope sPick) := ⟨rfl, rfl, rfl, by decide +kernel, rfl, by decide +kernel, by decide +kernel⟩
theorem df_pick (A : At K mg "_law_pick" sPick) (T : TxtP mg) (Ddraw : Df P w K mg base 1 "_law_draw" ["pen", "many"] spDraw) : Df P w K mg base 2 "_law_pick" ["pen", "some"] (spPick K) := by
  obtain ⟨f, fd, hm, F⟩ := A.ex
  refine ⟨f, fd, hm, F.kp, F.binds (fun _ _ _ _ _ _ us hl => match us, hl with | [_, _], _ => rfl), F.ok scPick (fun vs H Q E h => ?_) (fun cdv A outer s H vs Q E hr h => ?_)⟩
  · obtain ⟨p, l, q, ns, a, b, xs, rfl, _⟩ := h
    rfl
  · obtain ⟨p, l, q, ns, a, b, xs, rfl, hP, ha, hS, hqp, h1, h2, k⟩ := h
    refine ⟨_, (pss_one (ps_ret (pe_ix ix_list (pv 1) (Ddraw.call (hr.mono (by decide)) (pa_cons (pv 0) (pa_cons (pe_callB call_len_seq (by rfl) T.len PySem.boot_len (pa_cons (pv 1) pa_nil)) pa_nil))) (fun _ _ => rfl)))), ?_⟩
    refine ⟨_, rfl, _, rfl, _, rfl, _, _, rfl, .inl hS, p, l, ns, a, b, _, rfl, hP, ha, by omega, by omega, fun d a' b' H' d0 d1 ha' hP' hK => ?_⟩
    have hd : d.toNat < xs.length := by omega
    exact ⟨q, _, _, _, rfl, rfl, hK.sql hqp hS, at_of (Int.toNat_of_nonneg d0).symm (List.getElem?_eq_getElem hd), k _ _ _ _ _ (List.getElem?_eq_getElem hd) ha' hP' hK⟩
/-! ### _law_truths -/
def spTruths : Sp := fun vs H Q _ => ∃ (p l : Addr) (ns : List Int) (a b m : Int), vs = [.ref p, .int m] ∧ Pen H p l ns a b ∧ a ≤ 1000000000 ∧ 0 ≤ m ∧ m ≤ 10000 ∧
  ∀ (r : Addr) (bs : List Bool) (a' b' : Int) (H' : Hp), H r = none → H' r = some (.lst (bs.map V.bl)) → (bs.length : Int) = m → a' ≤ a + m + 3 → Pen H' p l ns a' b' → Kp p H H' → Q (.ref r) H'
theorem scTruths : FnScope ["pen", "many", "way", "truth", "found", "k"] ["pen", "many"] (defScope sTruths) := ⟨rfl, rfl, rfl, by decide +kernel, rfl, by decide +kernel, by decide +kernel⟩
theorem df_truths (A : At K mg "_law_truths" sTruths) (T : TxtP mg) (hrg : mg "range" = none) (Ddraw : Df P w K mg base 1 "_law_draw" ["pen", "many"] spDraw) : Df P w K mg base 2 "_law_truths" ["pen", "many"] spTruths := by
  obtain ⟨f, fd, hm, F⟩ := A.ex
  refine ⟨f, fd, hm, F.kp, F.binds (fun _ _ _ _ _ _ us hl => match us, hl with | [_, _], _ => rfl), F.ok scTruths (fun vs H Q E h => ?_) (fun cdv A outer s H vs Q E hr h => ?_)⟩
  · obtain ⟨p, l, ns, a, b, m, rfl, _⟩ := h
    rfl
  · obtain ⟨p, l, ns, a, b, m, rfl, hP, ha, hm0, hm1, q⟩ := h
    refine ⟨_, (pss_cons (ps_asg (pe_tup (pa_cons (Ddraw.call (hr.mono (by decide)) (pa_cons (pv 0) (pa_cons pe_int pa_nil))) (pa_cons (pe_cmpR op_eq (Ddraw.call (hr.mono (by decide)) (pa_cons (pv 0) (pa_cons pe_int pa_nil))) pe_int (nomark _)) pa_nil))) (pg_tup (by rfl) (pgs_cons (pg_name (i := 2) scTruths.nd rfl (.inr rfl)) (pgs_cons (pg_name (i := 3) scTruths.nd rfl (.inr rfl)) pgs_nil))))
      (pss_cons (ps_setLc (i := 4) (own := [("k", 5)]) (g := gName 5) (by rfl) scTruths.nd rfl rfl (sw_true rfl rfl rfl (by decide +kernel)) (pi_range1 (by rfl) hrg (pa_cons (pv 1) pa_nil)) (blkOk_by (own := [("k", 5)]) (N := ["pen", "many", "way", "truth", "found", "k"]) (sc := defScope sTruths) (by decide +kernel)) (fun _ _ _ _ _ => pg_name (i := 5) scTruths.nd rfl (Or.inl rfl)) (fun _ _ _ _ _ => pts_nil) (fun _ _ _ _ _ => (pe_ifExp (pt_cmpR op_lt (pv 2) pe_int (nomark _)) (pe_cmpR op_eq (Ddraw.call (hr.mono (by decide)) (pa_cons (pv 0) (pa_cons pe_int pa_nil))) pe_int (nomark _)) (pv 3))))
      (pss_cons (ps_if (pw_and (pt_cmpR op_eq (pv 2) pe_int (nomark _)) (pw_and1 (pt_cmpR op_gt (pv 1) pe_int (nomark _)))).pt (pss_one (ps_asg (pe_not (pv 3)) (pg_sub (pv 4) (Ddraw.call (hr.mono (by decide)) (pa_cons (pv 0) (pa_cons (pv 1) pa_nil))) set_list))) pss_nil)
      (pss_one (ps_ret (pv 4)))))), ?_⟩
    -- way, truth
    refine ⟨_, rfl, p, l, ns, a, b, _, rfl, hP, by omega, by decide, by decide, fun d1 a1 b1 H1 d10 d11 ha1 hP1 hK1 => ?_⟩
    refine ⟨_, rfl, p, l, ns, a1, b1, _, rfl, hP1, by omega, by decide, by decide, fun d2 a2 b2 H2 d20 d21 ha2 hP2 hK2 => ?_⟩
    have hK12 := hK1.trans hK2
    refine ⟨rfl, by show 2 ≤ sizeLine; decide, fun t ht => ?_⟩
    have hP3 : Pen (upd H2 t (.tup [.int d1, .bl (decide (V.int d2 = V.int 0))])) p l ns a2 b2 := hP2.kp (Kp.new _ ht) (upd_ne (ne_of_none hP2.hd ht))
    have hK3 := hK12.trans (Kp.new (.tup [.int d1, .bl (decide (V.int d2 = V.int 0))]) ht)
    refine ⟨t, _, rfl, .inl (.inl upd_same), rfl, _, _, rfl, _, _, rfl, rfl, ?_⟩
    generalize upd H2 t (.tup [.int d1, .bl (decide (V.int d2 = V.int 0))]) = H3 at hP3 hK3 ⊢
    generalize decide (V.int d2 = V.int 0) = tr
    -- found = [..]
    refine ⟨_, rfl, _, rfl, by omega, by omega, fun D hD => ?_⟩
    have hDH : H D = none := by
      refine hK3.free (fun z => ?_) hD
      rw [z, hP3.hd] at hD
      cases hD
    refine lc_range (lo := 0) (n := m.toNat) (fun i H' => ∃ (acc : List Bool) (a' b' : Int), H' D = some (.lst (acc.map V.bl)) ∧ acc.length = i ∧ Pen H' p l ns a' b' ∧ a' ≤ a + 2 + i ∧ Kp p H H')
      ⟨[], a2, b2, upd_same, rfl, hP3.kp (Kp.new _ hD) (upd_ne (ne_of_none hP3.hd hD)), by omega, hK3.trans (Kp.new _ hD)⟩ ?_ ?_
    · rintro i H4 hi ⟨acc, a', b', hA, hl, hP4, ha4, hK4⟩
      have fin : ∀ (y : Bool) (a'' b'' : Int) (H5 : Hp), Pen H5 p l ns a'' b'' → a'' ≤ a' + 1 → Kp p H4 H5 → ∃ acc', H5 D = some (.lst acc') ∧ acc'.length < sizeLine ∧
          (∃ (acc : List Bool) (a' b' : Int), (upd H5 D (.lst (acc' ++ [.bl y]))) D = some (.lst (acc.map V.bl)) ∧ acc.length = i + 1 ∧ Pen (upd H5 D (.lst (acc' ++ [.bl y]))) p l ns a' b' ∧ a' ≤ a + 2 + ((i + 1 : Nat) : Int) ∧ Kp p H (upd H5 D (.lst (acc' ++ [.bl y])))) := by
        intro y a'' b'' H5 hP5 ha5 hK5
        have hDp : D ≠ p := fun z => by rw [z, hP.hd] at hDH; cases hDH
        have hA5 := hK5 _ _ hDp hA
        refine ⟨_, hA5, by rw [List.length_map]; exact small1000' (by omega), acc ++ [y], a'', b'', by rw [upd_same, List.map_append]; rfl, by rw [List.length_append, hl]; rfl, ?_, by omega, (hK4.trans hK5).mut hDH⟩
        exact ⟨by rw [upd_ne (Ne.symm hDp)]; exact hP5.hd, by rw [upd_ne (fun z => by rw [← z, hP.hl] at hDH; cases hDH)]; exact hP5.hl, hP5.len, hP5.a0, hP5.b0⟩
      refine ⟨rfl, ?_⟩
      refine ⟨_, rfl, _, _, rfl, rfl, _, rfl, ?_⟩
      refine ite2 (fun _ => ?_) (fun _ => ?_)
      · refine ⟨_, rfl, p, l, ns, a', b', _, rfl, hP4, by omega, by decide, by decide, fun d5 a5 b5 H5 d50 d51 ha5 hP5 hK5 => ?_⟩
        exact ⟨rfl, fin _ _ _ _ hP5 ha5 hK5⟩
      · exact ⟨_, rfl, fin _ _ _ _ hP4 (by omega) (Kp.refl _ _)⟩
    · rintro H4 ⟨acc, a', b', hA, hl, hP4, ha4, hK4⟩
      have hDp : D ≠ p := fun z => by rw [z, hP.hd] at hDH; cases hDH
      refine ⟨_, rfl, rfl, _, rfl, ?_⟩
      have done : ∀ (acc' : List Bool) (a'' b'' : Int) (H5 : Hp), H5 D = some (.lst (acc'.map V.bl)) → acc'.length = m.toNat → Pen H5 p l ns a'' b'' → a'' ≤ a' + 1 → Kp p H H5 → ∃ v, [some (.ref p), some (.int m), some (.int d1), some (.bl tr), some (.ref D), none][4]? = some (some v) ∧ Q v H5 :=
        fun acc' a'' b'' H5 hA5 hl5 hP5 ha5 hK5 => ⟨_, rfl, q D acc' a'' b'' H5 hDH hA5 (by omega) (by omega) hP5 hK5⟩
      refine ite2 ?_ ?_ <;> intro h1
      · refine ⟨_, rfl, _, _, rfl, rfl, _, rfl, ?_⟩
        refine ite2 ?_ ?_ <;> intro h2
        · have h2' := of_decide_eq_true h2
          refine ⟨_, rfl, _, rfl, _, rfl, _, rfl, _, rfl, p, l, ns, a', b', _, rfl, hP4, by omega, by omega, by omega, fun d5 a5 b5 H5 d50 d51 ha5 hP5 hK5 => ?_⟩
          have hA5 := hK5 _ _ hDp hA
          refine ⟨D, _, _, d5.toNat, rfl, rfl, hA5, ?_, ?_⟩
          · unfold ixN
            rw [if_pos d50, if_pos (by rw [List.length_map]; omega)]
          · refine done (acc.set d5.toNat (!tr)) a5 b5 _ (by rw [upd_same, List.map_set]) (by rw [List.length_set]; omega) ⟨by rw [upd_ne (Ne.symm hDp)]; exact hP5.hd, by rw [upd_ne (fun z => by rw [← z, hP.hl] at hDH; cases hDH)]; exact hP5.hl, hP5.len, hP5.a0, hP5.b0⟩ (by omega) ((hK4.trans hK5).mut hDH)
        · exact done acc a' b' H4 hA (by omega) hP4 (by omega) hK4
      · refine iteF ?_
        exact done acc a' b' H4 hA (by omega) hP4 (by omega) hK4
end
end Ef
set_option Elab.async false
set_option linter.all false
set_option maxRecDepth 100000
set_option maxHeartbeats 4000000
namespace Ef
open PySem PySem.Spec PyProof.Rows L2
/-- a drawn set: the tuple of its two lists of truths -/
def Md (H : Hp) (r : Addr) (bs rs : List Bool) : Prop := ∃ rb rr, H r = some (.tup [.ref rb, .ref rr]) ∧ H rb = some (.lst (bs.map V.bl)) ∧ H rr = some (.lst (rs.map V.bl))
theorem Md.kp {H H' : Hp} {p r : Addr} {bs rs : List Bool} {d : List (Key × V)} (h : Md H r bs rs) (k : Kp p H H') (hp : H p = some (.dK d)) : Md H' r bs rs := by
  obtain ⟨rb, rr, h1, h2, h3⟩ := h
  exact ⟨rb, rr, k _ _ (ne_of h1 hp (by intro q; cases q)) h1, k _ _ (ne_of h2 hp (by intro q; cases q)) h2, k _ _ (ne_of h3 hp (by intro q; cases q)) h3⟩
theorem Md.same {H H' : Hp} {r : Addr} {bs rs : List Bool} (h : Md H r bs rs) (k : Same H H') : Md H' r bs rs := by
  obtain ⟨rb, rr, h1, h2, h3⟩ := h
  exact ⟨rb, rr, k _ _ h1, k _ _ h2, k _ _ h3⟩
/-- is n in the set -/
def mtruth (bs rs : List Bool) (n : Int) : Bool := if n < bs.length then bs.getD n.toNat false else rs.getD (n % rs.length).toNat false
theorem inV_bls (b : Bool) : ∀ bs : List Bool, inV (.bl b) (bs.map V.bl) = bs.contains b
  | [] => rfl
  | c :: bs => by
    show (eqV (.bl c) (.bl b) || inV (.bl b) (bs.map V.bl)) = _
    rw [inV_bls b bs, List.contains_cons]
    congr 1
    cases b <;> cases c <;> rfl
theorem flat_bls : ∀ bs : List Bool, (bs.map V.bl).all flatV = true
  | [] => rfl
  | c :: bs => by
    show (flatV (.bl c) && (bs.map V.bl).all flatV) = true
    rw [flat_bls bs]; rfl
theorem get_bls {bs : List Bool} {j : Nat} (h : j < bs.length) : (bs.map V.bl)[j]? = some (.bl (bs.getD j false)) := by
  rw [List.getElem?_map, List.getElem?_eq_getElem h, List.getD_eq_getElem?_getD, List.getElem?_eq_getElem h]
  rfl
section
variable {P : Program} {w : World} {K : PySem.W.Frag} {mg : Str → Option Value} {base : Heap}
/-! ### _law_model -/
def spModel (K : PySem.W.Frag) : Sp := fun vs H Q _ => ∃ (p l q : Addr) (ns : List Int) (a b most : Int) (ms : List Int), vs = [.ref p, .int most, .ref q] ∧ Pen H p l ns a b ∧ a ≤ 900000000 ∧ 0 ≤ most ∧ most ≤ 1000 ∧ SqL K H q (ms.map V.int) ∧ q ≠ p ∧
  1 ≤ ms.length ∧ ms.length ≤ 1000 ∧ (∀ m ∈ ms, 1 ≤ m ∧ m ≤ 1000) ∧
  ∀ (r rb rr : Addr) (bs rs : List Bool) (a' b' : Int) (H' : Hp), H r = none → H rb = none → H rr = none → H' r = some (.tup [.ref rb, .ref rr]) → H' rb = some (.lst (bs.map V.bl)) → H' rr = some (.lst (rs.map V.bl)) → (bs.length : Int) ≤ most → (rs.length : Int) ∈ ms → a' ≤ a + 3000 → Pen H' p l ns a' b' → Kp p H H' → Q (.ref r) H'
theorem scModel : FnScope ["pen", "most", "periods"] ["pen", "most", "periods"] (defScope sModel) := ⟨rfl, rfl, rfl, by decide +kernel, rfl, by decide +kernel, by decide +kernel⟩
theorem df_model (A : At K mg "_law_model" sModel) (Ddraw : Df P w K mg base 1 "_law_draw" ["pen", "many"] spDraw) (Dpick : Df P w K mg base 2 "_law_pick" ["pen", "some"] (spPick K))
    (Dtruths : Df P w K mg base 2 "_law_truths" ["pen", "many"] spTruths) : Df P w K mg base 3 "_law_model" ["pen", "most", "periods"] (spModel K) := by
  obtain ⟨f, fd, hm, F⟩ := A.ex
  refine ⟨f, fd, hm, F.kp, F.binds (fun _ _ _ _ _ _ us hl => match us, hl with | [_, _, _], _ => rfl), F.ok scModel (fun vs H Q E h => ?_) (fun cdv A outer s H vs Q E hr h => ?_)⟩
  · obtain ⟨p, l, q, ns, a, b, most, ms, rfl, _⟩ := h
    rfl
  · obtain ⟨p, l, q, ns, a, b, most, ms, rfl, hP, ha, hm0, hm1, hS, hqp, h1, h2, hms, k⟩ := h
    refine ⟨_, (pss_one (ps_ret (pe_tup (pa_cons (Dtruths.call (hr.mono (by decide)) (pa_cons (pv 0) (pa_cons (Ddraw.call (hr.mono (by decide)) (pa_cons (pv 0) (pa_cons (pe_op op_add (pv 1) pe_int) pa_nil))) pa_nil))) (pa_cons (Dtruths.call (hr.mono (by decide)) (pa_cons (pv 0) (pa_cons (Dpick.call (hr.mono (by decide)) (pa_cons (pv 0) (pa_cons (pv 2) pa_nil))) pa_nil))) pa_nil))))), ?_⟩
    refine ⟨_, rfl, _, rfl, _, rfl, _, _, rfl, rfl, p, l, ns, a, b, _, rfl, hP, by omega, by omega, by omega, fun d1 a1 b1 H1 d10 d11 ha1 hP1 hK1 => ?_⟩
    refine ⟨p, l, ns, a1, b1, _, rfl, hP1, by omega, d10, by omega, fun r1 bs a2 b2 H2 hr1 hA1 hl1 ha2 hP2 hK2 => ?_⟩
    have hK12 := hK1.trans hK2
    refine ⟨_, rfl, _, rfl, _, rfl, p, l, q, ns, a2, b2, _, rfl, hP2, by omega, hK12.sql hqp hS, hqp, by rw [List.length_map]; exact h1, by rw [List.length_map]; omega, fun j v a3 b3 H3 hj ha3 hP3 hK3 => ?_⟩
    rw [List.getElem?_map] at hj
    obtain ⟨m, hm, rfl⟩ := Option.map_eq_some_iff.mp hj
    have hmem := List.mem_of_getElem? hm
    obtain ⟨m0, m1⟩ := hms m hmem
    refine ⟨p, l, ns, a3, b3, _, rfl, hP3, by omega, by omega, by omega, fun r2 rs a4 b4 H4 hr2 hA2 hl2 ha4 hP4 hK4 => ?_⟩
    have n1 : r1 ≠ p := ne_of hA1 hP2.hd (by intro q; cases q)
    have hA1' := hK4 _ _ n1 (hK3 _ _ n1 hA1)
    refine ⟨by show 2 ≤ sizeLine; decide, fun t ht => ?_⟩
    have hK14 := hK12.trans (hK3.trans hK4)
    have n2 : r2 ≠ p := ne_of hA2 hP4.hd (by intro q; cases q)
    have nt : t ≠ p := fun z => by rw [z, hP4.hd] at ht; cases ht
    have hP5 : Pen (upd H4 t (.tup [.ref r1, .ref r2])) p l ns a4 b4 := hP4.kp (Kp.new _ ht) (upd_ne (ne_of_none hP4.hd ht))
    exact k t r1 r2 bs rs a4 b4 _ (hK14.free nt ht) (hK1.free n1 hr1) ((hK12.trans hK3).free n2 hr2) upd_same (by rw [upd_ne (ne_of_none hA1' ht)]; exact hA1') (by rw [upd_ne (ne_of_none hA2 ht)]; exact hA2) (by omega) (by rw [hl2]; exact hmem) (by omega) hP5 (hK14.trans (Kp.new _ ht))
/-! ### _law_truth -/
def spTruth : Sp := fun vs H Q _ => ∃ (r : Addr) (bs rs : List Bool) (n : Int), vs = [.ref r, .int n] ∧ Md H r bs rs ∧ 0 ≤ n ∧ 1 ≤ rs.length ∧ Q (.bl (mtruth bs rs n)) H
theorem scTruth : FnScope ["model", "n", "below", "rests"] ["model", "n"] (defScope sTruth) := ⟨rfl, rfl, rfl, by decide +kernel, rfl, by decide +kernel, by decide +kernel⟩
theorem df_truth (A : At K mg "_law_truth" sTruth) (T : TxtP mg) : Df P w K mg base 1 "_law_truth" ["model", "n"] spTruth := by
  obtain ⟨f, fd, hm, F⟩ := A.ex
  refine ⟨f, fd, hm, F.kp, F.binds (fun _ _ _ _ _ _ us hl => match us, hl with | [_, _], _ => rfl), F.ok scTruth (fun vs H Q E h => ?_) (fun cdv A outer s H vs Q E hr h => ?_)⟩
  · obtain ⟨r, bs, rs, n, rfl, _⟩ := h
    rfl
  · obtain ⟨r, bs, rs, n, rfl, ⟨rb, rr, h1, h2, h3⟩, n0, hrs, q⟩ := h
    refine ⟨_, (pss_cons (ps_asg (pv 0) (pg_tup (by rfl) (pgs_cons (pg_name (i := 2) scTruth.nd rfl (.inl rfl)) (pgs_cons (pg_name (i := 3) scTruth.nd rfl (.inl rfl)) pgs_nil))))
      (pss_one (ps_ret (pe_ifExp (pt_cmpR op_lt (pv 1) (pe_callB call_len_seq (by rfl) T.len PySem.boot_len (pa_cons (pv 2) pa_nil)) (nomark _)) (pe_ix ix_list (pv 2) (pv 1) (fun _ _ => rfl)) (pe_ix ix_list (pv 3) (pe_op op_mod (pe_callTy call_int1 (by rfl) T.int (by decide +kernel) (pa_cons (pv 1) pa_nil)) (pe_callB call_len_seq (by rfl) T.len PySem.boot_len (pa_cons (pv 3) pa_nil))) (fun _ _ => rfl)))))), ?_⟩
    refine ⟨_, rfl, r, _, rfl, .inl (.inl h1), rfl, _, _, rfl, _, _, rfl, rfl, ?_⟩
    refine ⟨_, rfl, _, rfl, rb, _, rfl, .inl (.inl (.inl h2)), _, _, rfl, rfl, _, rfl, ?_⟩
    unfold mtruth at q
    refine ite2 ?_ ?_ <;> intro hn
    · have hn' : n < bs.length := by have := of_decide_eq_true hn; rw [List.length_map] at this; exact this
      rw [if_pos hn'] at q
      exact ⟨_, rfl, _, rfl, rb, _, _, _, rfl, rfl, .inl (.inl h2), at_of (Int.toNat_of_nonneg n0).symm (get_bls (by omega)), q⟩
    · have hn' : ¬ n < bs.length := fun z => hn (decide_eq_true (by rw [List.length_map]; exact z))
      rw [if_neg hn'] at q
      have e0 := Int.emod_nonneg n (show (rs.length : Int) ≠ 0 by omega)
      have e1 := Int.emod_lt_of_pos n (show (0 : Int) < (rs.length : Int) by omega)
      refine ⟨_, rfl, _, rfl, .inl ⟨_, rfl, _, rfl, rr, _, rfl, .inl (.inl (.inl h3)), _, _, rfl, rfl, by rw [List.length_map]; omega, rr, _, _, _, rfl, rfl, .inl (.inl h3), ?_, q⟩⟩
      rw [List.length_map]
      exact at_of (Int.toNat_of_nonneg e0).symm (get_bls (by omega))
end
end Ef
set_option Elab.async false
set_option linter.all false
set_option maxRecDepth 100000
set_option maxHeartbeats 2000000
/-! for i, x in enumerate(t), t a tuple -/
namespace Ef
open PySem PySem.Spec PyProof.Rows L2
def IteT (K : PySem.W.Frag) (a : Addr) : It :=
  ⟨fun i H => ∃ (xs : List V) (x : V), SqT K H a xs ∧ xs[i]? = some x, fun i H v H' => ∃ T x, v = .ref T ∧ H T = none ∧ H' = upd H T (.tup [.int (i : Nat), x]) ∧ ∀ xs, SqT K H a xs → xs[i]? = some x, fun i H => ∃ xs : List V, SqT K H a xs ∧ xs.length ≤ i⟩
/-- at vals end -/
theorem draws_end {prog : Program} {w : World} {A : Around} (hh : A.handled = none) (it t : Addr) (items : Array Value) (n : Nat) (hn : items.size ≤ n) :
    Draws prog w A it [it, t] n (fun _ _ => True) (fun i h => i = n ∧ h.IsTupleIter it t n ∧ h.IsTuple t items) where
  live := fun _ _ sta => let ⟨o, ho, _⟩ := sta.2.1; ⟨o, ho⟩
  frame := fun _ _ _ sta hk => ⟨sta.1, sta.2.1.at fun o e => hk it (by simp) o e, sta.2.2.at fun o e => hk t (by simp) o e⟩
  item := fun i s Q E hi sta hQ => absurd sta.1 (Nat.ne_of_lt hi)
  done := fun s Q E sta hE => wpAny_nextOf_tuple_end hh sta.2.1 sta.2.2 (by simp; omega) hE
theorem turn_enumT {P : Program} {w : World} {K : PySem.W.Frag} {elts : List Expr} {kk : Nat} {tpos : Pos} (a e it : Addr) :
    Turn P w K (.Tuple elts kk tpos) (IteT K a) [e, it] e (fun i h => (∃ was, IsEnum h e it (0 + ((i : Nat) : Int)) was) ∧ h.IsTupleIter it a i ∧ e ≠ it ∧ a ≠ it ∧ a ≠ e) where
  mem := by simp
  obj := fun i h sta b hb => by
    obtain ⟨⟨was, hEn⟩, ⟨o, ho, hc, hd⟩, _⟩ := sta
    have eOr : b = e ∨ b = it := by simpa using hb
    rcases eOr with z | z
    · rw [z]; exact ⟨_, hEn, fun v q => nomatch q⟩
    · rw [z]; exact ⟨o, ho, fun v q => by rw [hd] at q; cases q⟩
  keep := fun i h h' sta k => let ⟨⟨was, hEn⟩, hi, eNi⟩ := sta; ⟨⟨was, k e (by simp) _ hEn⟩, hi.at fun o q => k it (by simp) o q, eNi⟩
  item := by
    intro X hP hw hK hc i pins s σ H E I hFp sta hGo
    subst hP hw hK
    obtain ⟨⟨was, hEn⟩, hIt, eNi, aNi, aNe⟩ := sta
    obtain ⟨xs, x, hSq, hx⟩ := hGo
    obtain ⟨vals, rVs, p, zLen⟩ := I.tuple hSq
    obtain ⟨u, hu, ru⟩ := rVs.get hx
    have eIn : e < s.heap.objs.size := Heap.lt_size hEn
    have iIn : it < s.heap.objs.size := by obtain ⟨_, q, _⟩ := hIt; exact Heap.lt_size q
    have hlt : i < vals.toArray.size := by
      rcases Nat.lt_or_ge i vals.length with q | q
      · simpa using q
      · rw [List.getElem?_eq_none q] at hu; cases hu
    refine wpAny_pyNext_enum_itemC (Draws.tuple (A := X.A.in1) (I.ok.hd hc) it a aNi vals.toArray) hEn ⟨hIt, p⟩ hlt eNi (by simp [eNi, Ne.symm aNe]) fun y h' tk hy ho hit' hT zNew hk => ?_
    refine ⟨_, rfl, wpAny_letOwnedTupleGo_enum (s := { s with heap := h', toks := tk + 1 }) ho fun h'' he' sBut => ?_⟩
    have hT2 : h''.get? s.heap.objs.size = some { cls := .type "tuple", data := .seq #[.int (0 + ((i : Nat) : Int)) tk, y] } := (sBut.2 _ (Nat.ne_of_gt eIn)).trans hT
    have ey : y = u := by
      have z : vals[i]? = some y := by simpa using hy
      exact Option.some.inj (z.symm.trans hu)
    have e0 : (0 + ((i : Nat) : Int)) = (i : Int) := Int.zero_add _
    rw [e0] at hT2
    have fresh1 : ObjOk X.prog X.w (upd H s.heap.objs.size (.tup [.int (i : Nat), x])) h'' s.heap.objs.size (.tup [.int (i : Nat), x]) :=
      ⟨by show 2 ≤ sizeLine; decide, [.int i tk, y], .cons ⟨_, rfl⟩ (.cons (ey ▸ ru) .nil), ⟨_, hT2, rfl, _, rfl⟩⟩
    have J1 : Inv X pins σ (upd H s.heap.objs.size (.tup [.int (i : Nat), x])) { s with heap := h'', toks := tk + 1 } :=
      I.turnedNew (ch := [e, it]) (fun b ob hb q => (sBut.2 b (fun z => hb (by simp [z]))).trans (hk b ob (fun z => hb (by simp [z])) (fun z => hb (by simp [z])) q)) hFp (Nat.le_refl _) fresh1
    refine ⟨.ref s.heap.objs.size, _, J1, rfl, ⟨_, x, rfl, I.hok.fresh (Nat.le_refl _), rfl, fun ys hy => by rw [I.tuple_inj hy hSq]; exact hx⟩, ⟨⟨y, ?_⟩, hit'.1.at fun o q => (sBut.2 it (Ne.symm eNi)).trans q, eNi, aNi, aNe⟩, fun b hb => ?_⟩
    · have e1 : (0 + ((i + 1 : Nat) : Int)) = 0 + (i : Int) + 1 := by omega
      rw [e1]; exact he'
    · have bIn : b < s.heap.objs.size := by
        have eOr : b = e ∨ b = it := by simpa using hb
        rcases eOr with z | z
        · rw [z]; exact eIn
        · rw [z]; exact iIn
      rw [upd_ne (Nat.ne_of_lt bIn)]
      exact (hFp b hb).1
  done := by
    intro X hP hw hK hc i pins s σ H E I hFp sta hGo
    subst hP hw hK
    obtain ⟨⟨was, hEn⟩, hIt, eNi, aNi, aNe⟩ := sta
    obtain ⟨xs, hSq, hx⟩ := hGo
    obtain ⟨vals, rVs, p, zLen⟩ := I.tuple hSq
    obtain ⟨g0, g1, g2, g3, g4, g5⟩ := hFp it (by simp)
    have hl := rVs.length
    exact wpAny_pyNext_enum_endD (draws_end (A := X.A.in1) (I.ok.hd hc) it a vals.toArray i (by simp; omega)) hEn ⟨rfl, hIt, p⟩ fun h' eb => ⟨rfl, I.turned (t' := s.toks) (fun b o hb q => eb b o hb q) g0 g1 g3 g4 g5⟩
  self := fun A i s Q E sta h => let ⟨⟨_, hEn⟩, _⟩ := sta; wpAny_pyIter_enum hEn h
def iEnumT (K : PySem.W.Frag) (ta : TA) : TI := fun σ H R => ta σ H fun vs H1 => ∃ a xs, vs = [.ref a] ∧ SqT K H1 a xs ∧ R (IteT K a) H1
/-- a list or a tuple -/
def iEnumS (K : PySem.W.Frag) (ta : TA) : TI := fun σ H R => ta σ H fun vs H1 => ∃ a xs, vs = [.ref a] ∧ ((SqL K H1 a xs ∧ R (Ite K a) H1) ∨ (SqT K H1 a xs ∧ R (IteT K a) H1))
/-- enumerate(t): vals two fresh1 cells -/
theorem call_enumerate_tuple {prog : Program} {w : World} {A : Around} {E : Value → Shared → Prop} {s : Shared} {l : Addr} {items : Array Value} {Q : Value → Shared → Prop} (hL : s.heap.IsTuple l items)
    (h : ∀ h', IsEnum h' (s.heap.objs.size + 1) s.heap.objs.size (0 + ((0 : Nat) : Int)) .none → h'.IsTupleIter s.heap.objs.size l 0 → h'.objs.size = s.heap.objs.size + 2 →
      (∀ b o, s.heap.get? b = some o → h'.get? b = some o) → Q (.ref (s.heap.objs.size + 1)) { s with heap := h' }) :
    wpAny (model prog w) A (call (.type "enumerate") [.ref l]) Q E s := by
  have B := begins_tuple l items
  have M : Meets (Builtin.«enumerate.__new__» ⟨[.type "enumerate", .ref l], []⟩) (fun _ R s => s.heap.IsTuple l items ∧
      R (.ok (.ret (.ref (s.heap.push { cls := .type "tuple_iterator", data := .fields #[.ref l, .int 0 0] }).objs.size)))
        { s with heap := (s.heap.push { cls := .type "tuple_iterator", data := .fields #[.ref l, .int 0 0] }).push { cls := .type "enumerate", data := .fields #[.none, .bool false, .ref s.heap.objs.size, rawInt 0, .none, .none] } }) :=
    .of_wp fun prog w A R s h => by
      obtain ⟨heap0, g, d, tk, os⟩ := s
      obtain ⟨h1, h⟩ := h
      have subE := sub_enumerate
      have q1 : ∀ {A' : Around} {E : Value → Shared → Prop} {Q : Value → Shared → Prop}, Q (.ref heap0.objs.size) ⟨heap0.push { cls := .type "tuple_iterator", data := .fields #[.ref l, .int 0 0] }, g, d, tk, os⟩ → wpAny (model prog w) A' (pyIter (.ref l)) Q E ⟨heap0, g, d, tk, os⟩ :=
        fun q => B.iter prog w _ _ ⟨heap0, g, d, tk, os⟩ _ h1 q
      obtain ⟨oT, hoT, hcT, nT, hdT⟩ := id h1
      wp_walk using q1, AutoSeq1.wpAny_loadPart' hoT
      refine wpAny_stack_any fun sta => wpAny_pure ?_
      split
      · rename_i c _ _ _ _ _
        cases (c == Value.type "enumerate")
        · wp_walk using q1, AutoSeq1.wpAny_loadPart' hoT
          exact ⟨_, rfl, h⟩
        · wp_walk using q1, AutoSeq1.wpAny_loadPart' hoT
          exact ⟨_, rfl, h⟩
      · wp_walk using q1, AutoSeq1.wpAny_loadPart' hoT
        exact ⟨_, rfl, h⟩
  refine callType_new F.called_enumerate (by decide) (F.typeCall_enumerate_1 _) (F.newCall_enumerate_1 _) (fun obj => F.args_object_init_2 obj _) F.entry_enumerate_new M ⟨hL, ?_⟩
  have zLen : (s.heap.push { cls := .type "tuple_iterator", data := .fields #[.ref l, .int 0 0] }).objs.size = s.heap.objs.size + 1 := Heap.size_push ..
  show _ ∧ _
  rw [zLen]
  have hEn : IsEnum ((s.heap.push { cls := .type "tuple_iterator", data := .fields #[.ref l, .int 0 0] }).push
      { cls := .type "enumerate", data := .fields #[.none, .bool false, .ref s.heap.objs.size, rawInt 0, .none, .none] }) (s.heap.objs.size + 1) s.heap.objs.size 0 .none := by
    have := Heap.get?_push_size (s.heap.push { cls := .type "tuple_iterator", data := .fields #[.ref l, .int 0 0] })
      (o := { cls := .type "enumerate", data := .fields #[.none, .bool false, .ref s.heap.objs.size, rawInt 0, .none, .none] }) rfl
    rw [zLen] at this; exact this
  refine ⟨⟨_, hEn, rfl⟩, h _ hEn ⟨_, Heap.get?_push_of_some _ (Heap.get?_push_size _ rfl), rfl, rfl⟩ (by rw [Heap.size_push, zLen]) fun b o x => Heap.get?_push_of_some _ (Heap.get?_push_of_some _ x)⟩
theorem pi_enumS {X : Cx} {e : Expr} {ta : TA} {p pos tpos : Pos} {elts : List Expr} {kk : Nat} (hGo : Gl X "enumerate") (hm : X.mg "enumerate" = none) (ha : PA X [e] ta) (hs : starEach [e] X.env = [(false, eval e X.env)] := by rfl) :
    PI X (.Tuple elts kk tpos) (.Call (.Name "enumerate" p) [e] [] pos) (iEnumS X.K ta) := by
  refine ⟨fun pins s σ H R I h => ?_⟩
  refine Call_ (ld_blt I hGo hm boot_enumerate (PyProof.Rows.callWith_type1 (thn (ha.run pos pins s σ H _ I h) fun us s1 ⟨vs, H1, J1, r1, q1⟩ => ?_) hs rfl))
  obtain ⟨a, xs, ex, q⟩ := q1
  subst ex
  cases r1 with
  | cons r rr =>
    cases rr
    cases r
    have far : ∀ b, b ∈ [s1.heap.objs.size + 1, s1.heap.objs.size] → s1.heap.objs.size ≤ b := fun b hb => by
      have eOr : b = s1.heap.objs.size + 1 ∨ b = s1.heap.objs.size := by simpa using hb
      rcases eOr with z | z
      · rw [z]; exact Nat.le_add_right _ _
      · rw [z]; exact Nat.le_refl _
    rcases q with ⟨hSq, q⟩ | ⟨hSq, q⟩
    · obtain ⟨vals, rVs, pSeq, zLen⟩ := J1.list hSq
      refine call_enumerate_list pSeq.isList fun h' hEn hIt zNew hk => wpAny_pyIter_enum hEn ?_
      have J2 : Inv X pins σ H1 { s1 with heap := h' } := J1.kept (t' := s1.toks) hk
      exact ⟨s1.heap.objs.size + 1, [s1.heap.objs.size + 1, s1.heap.objs.size], _, _, H1, rfl, J2, turn_enum a (s1.heap.objs.size + 1) s1.heap.objs.size, ⟨⟨.none, hEn⟩, hIt, Nat.succ_ne_self _⟩, fun b hb => J1.fpOk (far b hb) (J1.hok.fresh (far b hb)), q⟩
    · obtain ⟨vals, rVs, pSeq, zLen⟩ := J1.tuple hSq
      have hal : a < s1.heap.objs.size := by obtain ⟨o, ho, _⟩ := (show s1.heap.IsTuple a vals.toArray from pSeq); exact Heap.lt_size ho
      refine call_enumerate_tuple (show s1.heap.IsTuple a vals.toArray from pSeq) fun h' hEn hIt zNew hk => wpAny_pyIter_enum hEn ?_
      have J2 : Inv X pins σ H1 { s1 with heap := h' } := J1.kept (t' := s1.toks) hk
      exact ⟨s1.heap.objs.size + 1, [s1.heap.objs.size + 1, s1.heap.objs.size], _, _, H1, rfl, J2, turn_enumT a (s1.heap.objs.size + 1) s1.heap.objs.size, ⟨⟨.none, hEn⟩, hIt, Nat.succ_ne_self _, Nat.ne_of_lt hal, Nat.ne_of_lt (Nat.lt_succ_of_lt hal)⟩, fun b hb => J1.fpOk (far b hb) (J1.hok.fresh (far b hb)), q⟩
end Ef
set_option Elab.async false
set_option linter.all false
set_option maxRecDepth 100000
set_option maxHeartbeats 4000000
namespace Ef
open PySem PySem.Spec PyProof.Rows L2
abbrev sIsInt : Stmt := top 15
abbrev sFrom : Stmt := top 16
abbrev sCheck : Stmt := top 21
abbrev sLper : Stmt := top 3
abbrev sRound : Stmt := top 4
abbrev sPrimes : Stmt := top 5
abbrev sLstart : Stmt := top 22
structure TxtW (mg : Str → Option Value) : Prop extends TxtP mg where
  isinstance : mg "isinstance" = none
  bool : mg "bool" = none
  enumerate : mg "enumerate" = none
  reversed : mg "reversed" = none
  range : mg "range" = none
  tuple : mg "tuple" = none
/-- no int: a value of another built-in kind, or a truth -/
def NotInt (K : PySem.W.Frag) (H : Hp) (v : V) : Prop := ∃ (n : String) (b1 b2 : Bool), TyX K H v (.type n) ∧ kitB n "int" = some b1 ∧ kitB n "bool" = some b2 ∧ (b1 && !b2) = false
section
variable {P : Program} {w : World} {K : PySem.W.Frag} {mg : Str → Option Value} {base : Heap}
def spIsInt (K : PySem.W.Frag) : Sp := fun vs H Q _ => ∃ (v : V) (n : String) (b1 b2 : Bool), vs = [v] ∧ TyX K H v (.type n) ∧ kitB n "int" = some b1 ∧ kitB n "bool" = some b2 ∧ Q (.bl (b1 && !b2)) H
theorem scIsInt : FnScope ["value"] ["value"] (defScope sIsInt) := ⟨rfl, rfl, rfl, by decide +kernel, rfl, by decide +kernel, by decide +kernel⟩
theorem df_isint (A : At K mg "is_int" sIsInt) (T : TxtW mg) : Df P w K mg base 1 "is_int" ["value"] (spIsInt K) := by
  obtain ⟨f, fd, hm, F⟩ := A.ex
  refine ⟨f, fd, hm, F.kp, F.binds (fun _ _ _ _ _ _ us hl => match us, hl with | [_], _ => rfl), F.ok scIsInt (fun vs H Q E h => ?_) (fun cdv A outer s H vs Q E hr h => ?_)⟩
  · obtain ⟨v, n, b1, b2, rfl, _⟩ := h
    rfl
  · obtain ⟨v, n, b1, b2, rfl, ht, h1, h2, q⟩ := h
    refine ⟨_, (pss_one (ps_ret (pe_and (pe_callB call_isi (by rfl) T.isinstance (by decide +kernel) (pa_cons (pv 0) (pa_cons (pe_bltn (v := .ty "int") (by rfl) T.int (by decide +kernel) rfl) pa_nil))) (pe_one (pe_not (pe_callB call_isi (by rfl) T.isinstance (by decide +kernel) (pa_cons (pv 0) (pa_cons (pe_bltn (v := .ty "bool") (by rfl) T.bool (by decide +kernel) rfl) pa_nil)))))))), ?_⟩
    refine ⟨v, rfl, _, _, _, _, _, rfl, .ty "int", ht, kit_ty h1, b1, rfl, ?_⟩
    cases b1 with
    | true =>
      refine iteT ⟨v, rfl, _, _, _, _, _, rfl, .ty "bool", ht, kit_ty h2, b2, rfl, ?_⟩
      exact q
    | false => exact iteF q
def spFrom (K : PySem.W.Frag) : Sp := fun vs H Q _ => ∃ (v : V) (low : Int), vs = [v, .int low] ∧ ((∃ i, v = .int i ∧ Q (.bl (decide (low ≤ i))) H) ∨ (NotInt K H v ∧ Q (.bl false) H))
theorem scFrom : FnScope ["value", "low"] ["value", "low"] (defScope sFrom) := ⟨rfl, rfl, rfl, by decide +kernel, rfl, by decide +kernel, by decide +kernel⟩
theorem df_from (A : At K mg "is_int_from" sFrom) (Disint : Df P w K mg base 1 "is_int" ["value"] (spIsInt K)) : Df P w K mg base 2 "is_int_from" ["value", "low"] (spFrom K) := by
  obtain ⟨f, fd, hm, F⟩ := A.ex
  refine ⟨f, fd, hm, F.kp, F.binds (fun _ _ _ _ _ _ us hl => match us, hl with | [_, _], _ => rfl), F.ok scFrom (fun vs H Q E h => ?_) (fun cdv A outer s H vs Q E hr h => ?_)⟩
  · obtain ⟨v, low, rfl, _⟩ := h
    rfl
  · obtain ⟨v, low, rfl, h⟩ := h
    refine ⟨_, (pss_one (ps_ret (pe_and (Disint.call (hr.mono (by decide)) (pa_cons (pv 0) pa_nil)) (pe_one (pe_cmpR op_ge (pv 0) (pv 1) (nomark _)))))), ?_⟩
    rcases h with ⟨i, rfl, q⟩ | ⟨⟨n, b1, b2, ht, h1, h2, hb⟩, q⟩
    · refine ⟨_, rfl, _, "int", true, false, rfl, .base (.int i), by decide +kernel, by decide +kernel, _, rfl, ?_⟩
      exact iteT ⟨_, rfl, _, rfl, _, _, rfl, rfl, q⟩
    · refine ⟨_, rfl, _, n, b1, b2, rfl, ht, h1, h2, _, rfl, ?_⟩
      rw [hb]
      exact iteF q
/-! ### _check_truths -/
/-- a list or a tuple of truths -/
def Bls (K : PySem.W.Frag) (H : Hp) (a : Addr) (bs : List Bool) : Prop := SqL K H a (bs.map V.bl) ∨ SqT K H a (bs.map V.bl)
theorem Same.tup {H H' : Hp} {a : Addr} {xs : List V} (e : Same H H') (h : SqT K H a xs) : SqT K H' a xs := by
  rcases h with (h | ⟨o, h⟩) | h
  · exact .inl (.inl (e _ _ h))
  · exact .inl (.inr ⟨o, e _ _ h⟩)
  · exact .inr h
theorem Bls.same {H H' : Hp} {a : Addr} {bs : List Bool} (h : Bls K H a bs) (e : Same H H') : Bls K H' a bs := h.elim (fun h => .inl (e.seq h)) fun h => .inr (Same.tup e h)
def spCheck (K : PySem.W.Frag) : Sp := fun vs H Q _ => ∃ (a : Addr) (bs : List Bool), vs = [.ref a] ∧ Bls K H a bs ∧ ∀ H', Same H H' → Q .non H'
theorem scCheck : FnScope ["truths", "wrong", "index", "truth"] ["truths"] (defScope sCheck) := ⟨rfl, rfl, rfl, by decide +kernel, rfl, by decide +kernel, by decide +kernel⟩
theorem walk_enumT {a : Addr} {xs : List V} : Walk (IteT K a) xs.length (fun H => SqT K H a xs) (YPair (fun i => some (.int (i : Nat))) (fun i => xs[i]?)) := by
  refine ⟨fun i _ hi q => ⟨xs, xs[i], q, by simp [hi]⟩, fun _ q => ⟨xs, q, Nat.le_refl _⟩, fun i H v H' _ q y => ?_⟩
  obtain ⟨T, x, h1, h2, h3, h4⟩ := y
  exact ⟨T, .int (i : Nat), x, h1, h2, h3, rfl, h4 xs q⟩
theorem same_mut' {H0 H : Hp} {p : Addr} {o : HO} (h : Same H0 H) (hp : H0 p = none) : Same H0 (upd H p o) := fun b x e => by rw [upd_ne (ne_of_none e hp)]; exact h b x e
theorem df_check (A : At K mg "_check_truths" sCheck) (T : TxtW mg) : Df P w K mg base 1 "_check_truths" ["truths"] (spCheck K) := by
  obtain ⟨f, fd, hm, F⟩ := A.ex
  refine ⟨f, fd, hm, F.kp, F.binds (fun _ _ _ _ _ _ us hl => match us, hl with | [_], _ => rfl), F.ok scCheck (fun vs H Q E h => ?_) (fun cdv A outer s H vs Q E hr h => ?_)⟩
  · obtain ⟨a, bs, rfl, _⟩ := h
    rfl
  · obtain ⟨a, bs, rfl, hB, q⟩ := h
    refine ⟨_, (pss_cons (ps_setLc (i := 1) (own := [("index", 2), ("truth", 3)]) (g := gTup K 2 (gCons (gName 2) (gCons (gName 3) gNil))) (by rfl) scCheck.nd rfl rfl (sw_true rfl rfl rfl (by decide +kernel)) (pi_enumS (by rfl) T.enumerate (pa_cons (pv 0) pa_nil)) (blkOk_by (own := [("index", 2), ("truth", 3)]) (N := ["truths", "wrong", "index", "truth"]) (sc := defScope sCheck) (by decide +kernel)) (fun _ _ _ _ _ => pg_tup (by rfl) (pgs_cons (pg_name (i := 2) scCheck.nd rfl (Or.inl rfl)) (pgs_cons (pg_name (i := 3) scCheck.nd rfl (Or.inl rfl)) pgs_nil))) (fun _ _ _ _ _ => (pts_one (pw_and (pt_cmpR op_notBl (pv 3) pe_bl (nomark _)) (pw_and1 (pt_cmpR op_notBl (pv 3) pe_bl (nomark _)))).pt)) (fun _ _ _ _ _ => (pv 2)))
      (pss_one (ps_if (pt_cmpR op_gt (pe_callB call_len_seq (by rfl) T.len PySem.boot_len (pa_cons (pv 1) pa_nil)) pe_int (nomark _)) (pss_one ps_never) pss_nil))), ?_⟩
    refine ⟨_, rfl, a, bs.map V.bl, rfl, ?_⟩
    have ey0 : ∀ {z : V} {i : Nat}, i < (bs.map V.bl).length → (bs.map V.bl)[i]? = some z → ∃ b, z = .bl b := fun hi e => by
      rw [get_bls (by rw [List.length_map] at hi; exact hi)] at e
      exact ⟨_, (Option.some.inj e).symm⟩
    rcases hB with hB | hB
    · refine .inl ⟨hB, fun D hD => lc_it walk_enum (fun i H' => Same H H' ∧ H' D = some (.lst [])) ⟨same_mut' (Same.refl H) hD, upd_same⟩ (fun i H' _ h => h.1.seq hB) ?_ ?_⟩
      · rintro i x H1 H2 hi ⟨s1, hx⟩ ⟨T, y, z, rfl, nT, rfl, ey, ez⟩
        obtain ⟨b, rfl⟩ := ey0 hi ez
        have sT : Same H (upd H1 T (.tup [y, .bl b])) := s1.trans fun c o e => by rw [upd_ne (ne_of_none e nT)]; exact e
        have hT : (upd H1 T (.tup [y, .bl b])) D = some (.lst []) := by rw [upd_ne (ne_of_none hx nT)]; exact hx
        refine ⟨T, _, rfl, .inl (.inl upd_same), rfl, _, _, rfl, _, _, rfl, rfl, rfl, _, rfl, _, _, rfl, rfl, _, rfl, ?_⟩
        cases b with
        | true => exact ⟨sT, hT⟩
        | false => exact iteT ⟨_, rfl, _, _, rfl, rfl, _, rfl, sT, hT⟩
      · rintro H1 ⟨s1, hx⟩
        exact ⟨_, rfl, D, [], rfl, .inl (.inl (.inl hx)), _, _, rfl, rfl, _, rfl, iteF (q _ s1)⟩
    · refine .inr ⟨hB, fun D hD => lc_it walk_enumT (fun i H' => Same H H' ∧ H' D = some (.lst [])) ⟨same_mut' (Same.refl H) hD, upd_same⟩ (fun i H' _ h => Same.tup h.1 hB) ?_ ?_⟩
      · rintro i x H1 H2 hi ⟨s1, hx⟩ ⟨T, y, z, rfl, nT, rfl, ey, ez⟩
        obtain ⟨b, rfl⟩ := ey0 hi ez
        have sT : Same H (upd H1 T (.tup [y, .bl b])) := s1.trans fun c o e => by rw [upd_ne (ne_of_none e nT)]; exact e
        have hT : (upd H1 T (.tup [y, .bl b])) D = some (.lst []) := by rw [upd_ne (ne_of_none hx nT)]; exact hx
        refine ⟨T, _, rfl, .inl (.inl upd_same), rfl, _, _, rfl, _, _, rfl, rfl, rfl, _, rfl, _, _, rfl, rfl, _, rfl, ?_⟩
        cases b with
        | true => exact ⟨sT, hT⟩
        | false => exact iteT ⟨_, rfl, _, _, rfl, rfl, _, rfl, sT, hT⟩
      · rintro H1 ⟨s1, hx⟩
        exact ⟨_, rfl, D, [], rfl, .inl (.inl (.inl hx)), _, _, rfl, rfl, _, rfl, iteF (q _ s1)⟩
end
end Ef
set_option Elab.async false
namespace Ef
/-! ### whole numbers -/
/-- ps: divisors of n from 2 on, one for each divisor of n from 2 on -/
def PrimesOk (n : Nat) (ps : List Nat) : Prop := (∀ p ∈ ps, 2 ≤ p ∧ p ∣ n) ∧ ∀ q, 2 ≤ q → q ∣ n → ∃ p ∈ ps, p ∣ q
/-- what the search for primes keeps -/
structure Seek (n left prime : Nat) (ps : List Nat) : Prop where
  l0 : 1 ≤ left
  p2 : 2 ≤ prime
  dvd : left ∣ n
  good : ∀ p ∈ ps, 2 ≤ p ∧ p ∣ n
  small : ∀ d, 2 ≤ d → d < prime → ¬ d ∣ left
  rest : ∀ q, 2 ≤ q → q ∣ n → (∃ p ∈ ps, p ∣ q) ∨ q ∣ left
theorem Seek.start {n : Nat} (h : 1 ≤ n) : Seek n n 2 [] :=
  ⟨h, Nat.le_refl 2, Nat.dvd_refl n, fun p hp => (by cases hp), fun d h2 h3 => absurd h2 (by omega), fun q _ hq => .inr hq⟩
/-- prime does not divide left -/
theorem Seek.skip {n left prime : Nat} {ps : List Nat} (h : Seek n left prime ps) (hd : ¬ prime ∣ left) : Seek n left (prime + 1) ps :=
  ⟨h.l0, by have := h.p2; omega, h.dvd, h.good, fun d h2 h3 => by
    rcases Nat.lt_or_ge d prime with z | z
    · exact h.small d h2 z
    · have : d = prime := by omega
      rw [this]; exact hd, h.rest⟩
/-- the inner loop: left' is left without some factors prime -/
structure Strip (left prime left' : Nat) : Prop where
  l0 : 1 ≤ left'
  dvd : left' ∣ left
  rest : ∀ q, ¬ prime ∣ q → q ∣ left → q ∣ left'
theorem Strip.start {left prime : Nat} (h : 1 ≤ left) : Strip left prime left := ⟨h, Nat.dvd_refl _, fun _ _ h => h⟩
/-- prime has no divisor but 1 and itself -/
def Pr (p : Nat) : Prop := 2 ≤ p ∧ ∀ d, d ∣ p → d = 1 ∨ d = p
theorem Seek.prime {n left prime : Nat} {ps : List Nat} (h : Seek n left prime ps) (hd : prime ∣ left) : Pr prime := by
  refine ⟨h.p2, fun d hdp => ?_⟩
  have hp := h.p2
  have h0 : d ≠ 0 := fun z => by
    rw [z] at hdp
    have := Nat.eq_zero_of_zero_dvd hdp
    omega
  have hle := Nat.le_of_dvd (by omega) hdp
  rcases Nat.lt_or_ge d prime with z | z
  · rcases Nat.lt_or_ge d 2 with y | y
    · left; omega
    · exact absurd (Nat.dvd_trans hdp hd) (h.small d y z)
  · right; omega
theorem Pr.coprime {p q : Nat} (h : Pr p) (hq : ¬ p ∣ q) : Nat.Coprime q p := by
  have g := h.2 (Nat.gcd q p) (Nat.gcd_dvd_right q p)
  rcases g with g | g
  · exact g
  · exact absurd (by rw [← g]; exact Nat.gcd_dvd_left q p) hq
theorem Strip.step {left prime left' : Nat} (h : Strip left prime left') (hp : Pr prime) (hd : prime ∣ left') : Strip left prime (left' / prime) := by
  obtain ⟨c, hc⟩ := hd
  have hp0 : 0 < prime := by have := hp.1; omega
  have e : left' / prime = c := by rw [hc]; exact Nat.mul_div_cancel_left c hp0
  rw [e]
  have l0 := h.l0
  refine ⟨?_, ?_, fun q hq hql => ?_⟩
  · rcases Nat.eq_zero_or_pos c with z | z
    · rw [z, Nat.mul_zero] at hc; omega
    · exact z
  · exact Nat.dvd_trans ⟨prime, by rw [hc, Nat.mul_comm]⟩ h.dvd
  · have z := h.rest q hq hql
    rw [hc] at z
    exact Nat.Coprime.dvd_of_dvd_mul_left (hp.coprime hq) z
theorem Seek.take {n left prime left' : Nat} {ps : List Nat} (h : Seek n left prime ps) (hd : prime ∣ left) (s : Strip left prime left') (hn : ¬ prime ∣ left') : Seek n left' (prime + 1) (ps ++ [prime]) := by
  refine ⟨s.l0, by have := h.p2; omega, Nat.dvd_trans s.dvd h.dvd, fun p hp => ?_, fun d h2 h3 hdl => ?_, fun q h2 hq => ?_⟩
  · rcases List.mem_append.mp hp with z | z
    · exact h.good p z
    · rw [List.mem_singleton.mp z]; exact ⟨h.p2, Nat.dvd_trans hd h.dvd⟩
  · rcases Nat.lt_or_ge d prime with z | z
    · exact h.small d h2 z (Nat.dvd_trans hdl s.dvd)
    · have : d = prime := by omega
      rw [this] at hdl; exact hn hdl
  · rcases h.rest q h2 hq with ⟨p, hp, hpq⟩ | z
    · exact .inl ⟨p, List.mem_append_left _ hp, hpq⟩
    · by_cases hpq : prime ∣ q
      · exact .inl ⟨prime, List.mem_append_right _ (List.mem_singleton.mpr rfl), hpq⟩
      · exact .inr (s.rest q hpq z)
/-- the end of the search -/
theorem Seek.fin {n left prime : Nat} {ps : List Nat} (h : Seek n left prime ps) (hb : left < prime * prime) : PrimesOk n (if 1 < left then ps ++ [left] else ps) := by
  by_cases hl : 1 < left
  · rw [if_pos hl]
    refine ⟨fun p hp => ?_, fun q h2 hq => ?_⟩
    · rcases List.mem_append.mp hp with z | z
      · exact h.good p z
      · rw [List.mem_singleton.mp z]; exact ⟨hl, h.dvd⟩
    · rcases h.rest q h2 hq with ⟨p, hp, hpq⟩ | z
      · exact ⟨p, List.mem_append_left _ hp, hpq⟩
      · refine ⟨left, List.mem_append_right _ (List.mem_singleton.mpr rfl), ?_⟩
        obtain ⟨c, hc⟩ := z
        have hqp : prime ≤ q := by
          rcases Nat.lt_or_ge q prime with y | y
          · exact absurd ⟨c, hc⟩ (h.small q h2 y)
          · exact y
        rcases Nat.lt_or_ge c 2 with y | y
        · have hc1 : c = 1 := by
            rcases Nat.eq_zero_or_pos c with x | x
            · rw [x, Nat.mul_zero] at hc; omega
            · omega
          rw [hc, hc1, Nat.mul_one]
          exact Nat.dvd_refl q
        · have hcp : prime ≤ c := by
            rcases Nat.lt_or_ge c prime with x | x
            · exact absurd ⟨q, by rw [hc, Nat.mul_comm]⟩ (h.small c y x)
            · exact x
          have := Nat.mul_le_mul hqp hcp
          omega
  · rw [if_neg hl]
    have e : left = 1 := by have := h.l0; omega
    refine ⟨h.good, fun q h2 hq => ?_⟩
    rcases h.rest q h2 hq with z | z
    · exact z
    · rw [e] at z
      have := Nat.le_of_dvd (by omega) z
      omega
/-! ### periods -/
/-- d is a period of the row f -/
def PerF (f : Nat → Bool) (d : Nat) : Prop := ∀ i, f (i + d) = f i
theorem PerF.zero (f : Nat → Bool) : PerF f 0 := fun _ => rfl
theorem PerF.mul {f : Nat → Bool} {d : Nat} (h : PerF f d) : ∀ k, PerF f (d * k)
  | 0 => fun i => rfl
  | k + 1 => fun i => by
    rw [Nat.mul_succ, ← Nat.add_assoc, h, PerF.mul h k]
theorem PerF.of_dvd {f : Nat → Bool} {d e : Nat} (h : PerF f d) (hd : d ∣ e) : PerF f e := by
  obtain ⟨k, rfl⟩ := hd
  exact h.mul k
theorem PerF.mod {f : Nat → Bool} {a b : Nat} (ha : PerF f a) (hb : PerF f b) : PerF f (a % b) := fun i => by
  have e : i + a = i + a % b + b * (a / b) := by
    have := Nat.mod_add_div a b
    omega
  rw [← (hb.mul (a / b)) (i + a % b), ← e, ha]
theorem PerF.gcd {f : Nat → Bool} : ∀ (a b : Nat), PerF f a → PerF f b → PerF f (Nat.gcd a b) := by
  intro a
  induction a using Nat.strongRecOn with
  | ind a ih =>
    intro b ha hb
    rcases Nat.eq_zero_or_pos a with z | z
    · rw [z, Nat.gcd_zero_left]; exact hb
    · rw [Nat.gcd_rec]
      exact ih (b % a) (Nat.mod_lt b z) a (hb.mod ha) ha
/-- the search has found the least period -/
theorem least_of {f : Nat → Bool} {L m : Nat} {ps : List Nat} (hp : PrimesOk L ps) (hL : 1 ≤ L) (hm : m ∣ L) (hf : PerF f m) (hn : ∀ p ∈ ps, p ∣ m → ¬ PerF f (m / p)) : ∀ d, PerF f d → m ∣ d := by
  intro d hd
  have hm0 : 1 ≤ m := by
    rcases Nat.eq_zero_or_pos m with z | z
    · rw [z] at hm
      have := Nat.eq_zero_of_zero_dvd hm
      omega
    · exact z
  have hg := PerF.gcd m d hf hd
  obtain ⟨q, hq⟩ := Nat.gcd_dvd_left m d
  rcases Nat.lt_or_ge q 2 with z | z
  · have : q = 1 := by
      rcases Nat.eq_zero_or_pos q with y | y
      · rw [y, Nat.mul_zero] at hq; omega
      · omega
    rw [this, Nat.mul_one] at hq
    rw [hq]
    exact Nat.gcd_dvd_right m d
  · have hqm : q ∣ m := ⟨Nat.gcd m d, by rw [Nat.mul_comm]; exact hq⟩
    obtain ⟨p, hpm, hpq⟩ := hp.2 q z (Nat.dvd_trans hqm hm)
    obtain ⟨c, hc⟩ := hpq
    have hp2 := (hp.1 p hpm).1
    refine absurd ?_ (hn p hpm (Nat.dvd_trans ⟨c, hc⟩ hqm))
    have e : m / p = Nat.gcd m d * c := by
      have z2 : m = p * (Nat.gcd m d * c) := by
        conv => lhs; rw [hq, hc]
        rw [Nat.mul_left_comm]
      conv => lhs; rw [z2]
      exact Nat.mul_div_cancel_left _ (by omega)
    rw [e]
    exact hg.mul c
theorem PerF.keep {f : Nat → Bool} {m m' p : Nat} (hp : 1 ≤ p) (hd : m' ∣ m) (hpm : p ∣ m') (h : PerF f (m' / p)) : PerF f (m / p) := by
  obtain ⟨k, rfl⟩ := hd
  obtain ⟨c, rfl⟩ := hpm
  rw [Nat.mul_div_cancel_left c (by omega)] at h
  rw [Nat.mul_assoc, Nat.mul_div_cancel_left _ (by omega)]
  exact h.mul k
/-- the row of truths led on for ever -/
def led (rs : List Bool) (i : Nat) : Bool := rs.getD (i % rs.length) false
theorem led_lt {rs : List Bool} {i : Nat} (h : i < rs.length) : rs[i]? = some (led rs i) := by
  unfold led
  rw [Nat.mod_eq_of_lt h, List.getD_eq_getElem?_getD, List.getElem?_eq_getElem h]
  rfl
theorem led_self (rs : List Bool) : PerF (led rs) rs.length := fun i => by
  unfold led
  rw [Nat.add_mod_right]
/-- what _comes_round asks -/
def Round (rs : List Bool) (d : Nat) : Bool := decide (rs.drop d = rs.take (rs.length - d))
theorem Round.get {rs : List Bool} {d : Nat} (h : Round rs d = true) {i : Nat} (hi : i + d < rs.length) : rs[i + d]? = rs[i]? := by
  have e := of_decide_eq_true h
  have e2 := congrArg (fun l : List Bool => l[i]?) e
  simp only [List.getElem?_drop, List.getElem?_take] at e2
  rw [if_pos (by omega), Nat.add_comm d i] at e2
  exact e2
theorem Round.get' {rs : List Bool} {d : Nat} (h : Round rs d = true) (y : Nat) : ∀ k, y + d * k < rs.length → rs[y + d * k]? = rs[y]?
  | 0, _ => rfl
  | k + 1, hk => by
    have e : y + d * (k + 1) = (y + d * k) + d := by rw [Nat.mul_succ]; omega
    rw [e] at hk ⊢
    rw [Round.get h hk]
    exact Round.get' h y k (by omega)
theorem round_per {rs : List Bool} {d : Nat} (hL : 1 ≤ rs.length) (hd : d ∣ rs.length) : Round rs d = true ↔ PerF (led rs) d := by
  have hd1 : 1 ≤ d := by
    rcases Nat.eq_zero_or_pos d with z | z
    · rw [z] at hd
      have := Nat.eq_zero_of_zero_dvd hd
      omega
    · exact z
  have hdl := Nat.le_of_dvd (by omega) hd
  constructor
  · intro h i
    unfold led
    have hx := Nat.mod_lt i (show 0 < rs.length by omega)
    have e0 : (i + d) % rs.length = (i % rs.length + d) % rs.length := by rw [Nat.mod_add_mod]
    rw [e0]
    generalize i % rs.length = x at hx
    rcases Nat.lt_or_ge (x + d) rs.length with z | z
    · rw [Nat.mod_eq_of_lt z, List.getD_eq_getElem?_getD, List.getD_eq_getElem?_getD, Round.get h z]
    · obtain ⟨c, hc⟩ := hd
      have hc1 : 1 ≤ c := by
        rcases Nat.eq_zero_or_pos c with y | y
        · rw [y, Nat.mul_zero] at hc; omega
        · exact y
      have e1 : (x + d) % rs.length = x + d - rs.length := by
        rw [Nat.mod_eq_sub_mod z, Nat.mod_eq_of_lt (by omega)]
      have e2 : x = (x + d - rs.length) + d * (c - 1) := by
        rw [Nat.mul_sub, Nat.mul_one, ← hc]; omega
      rw [e1, List.getD_eq_getElem?_getD, List.getD_eq_getElem?_getD]
      conv => rhs; rw [e2]
      rw [Round.get' h _ (c - 1) (by omega)]
  · intro h
    refine decide_eq_true (List.ext_getElem? fun i => ?_)
    rw [List.getElem?_drop, List.getElem?_take]
    rcases Nat.lt_or_ge i (rs.length - d) with z | z
    · rw [if_pos z, led_lt (show d + i < rs.length by omega), led_lt (show i < rs.length by omega), Nat.add_comm d i, h]
    · rw [if_neg (by omega), List.getElem?_eq_none (by omega)]
/-! ### the start -/
/-- s is the least start: from s on the truths below go by the rests, at s - 1 they do not -/
def StartOk (bs rs : List Bool) (s : Nat) : Prop := s ≤ bs.length ∧ (∀ n, s ≤ n → n < bs.length → bs.getD n false = led rs n) ∧ (s = 0 ∨ bs.getD (s - 1) false ≠ led rs (s - 1))
end Ef
set_option Elab.async false
set_option linter.all false
set_option maxRecDepth 100000
set_option maxHeartbeats 4000000
namespace Ef
open PySem PySem.Spec PyProof.Rows L2
/-- a tuple (t) or a list of truths -/
def BlsT (t : Bool) (K : PySem.W.Frag) (H : Hp) (a : Addr) (bs : List Bool) : Prop := if t = true then SqT K H a (bs.map V.bl) else SqL K H a (bs.map V.bl)
theorem Bls.t {K : PySem.W.Frag} {H : Hp} {a : Addr} {bs : List Bool} (h : Bls K H a bs) : ∃ t, BlsT t K H a bs := by
  rcases h with h | h
  · exact ⟨false, h⟩
  · exact ⟨true, h⟩
theorem BlsT.bls {t : Bool} {K : PySem.W.Frag} {H : Hp} {a : Addr} {bs : List Bool} (h : BlsT t K H a bs) : Bls K H a bs := by
  cases t with
  | false => exact .inl h
  | true => exact .inr h
theorem BlsT.same {t : Bool} {K : PySem.W.Frag} {H H' : Hp} {a : Addr} {bs : List Bool} (h : BlsT t K H a bs) (e : Same H H') : BlsT t K H' a bs := by
  cases t with
  | false => exact Same.seq (H := H) e h
  | true => exact Same.tup (H := H) e h
theorem same_new {H : Hp} {p : Addr} {o : HO} (h : H p = none) : Same H (upd H p o) := fun b x e => by rw [upd_ne (ne_of_none e h)]; exact e
theorem map_bl_inj {as bs : List Bool} (h : as.map V.bl = bs.map V.bl) : as = bs := by
  induction as generalizing bs with
  | nil => cases bs with
    | nil => rfl
    | cons b bs => cases h
  | cons a as ih => cases bs with
    | nil => cases h
    | cons b bs =>
      injection h with h1 h2
      injection h1 with h1
      rw [h1, ih h2]
theorem sl_bls {t : Bool} {K : PySem.W.Frag} {H : Hp} {a : Addr} {bs bs' : List Bool} {lo hi : Option Int} {Q : VK} (h : BlsT t K H a bs) (e : cutV (bs.map V.bl) lo hi = bs'.map V.bl) (q : ∀ p H', Same H H' → BlsT t K H' p bs' → Q (.ref p) H') :
    rSlL K (.ref a) lo hi H Q ∨ rSlA K (.ref a) lo hi H Q := by
  cases t with
  | false =>
    refine .inl ⟨a, _, rfl, h, fun p hp => ?_⟩
    rw [e]
    exact q p _ (same_new hp) (.inl (.inl upd_same))
  | true =>
    refine .inr ⟨a, _, rfl, h, fun hw => ?_, fun hw p hp => ?_⟩
    · refine q a H (Same.refl H) ?_
      have e2 : bs = bs' := by
        refine map_bl_inj (Eq.trans ?_ e)
        unfold cutV
        rw [hw.1, hw.2, List.drop_zero, Nat.sub_zero, List.take_length]
      rw [← e2]
      exact h
    · rw [e]
      exact q p _ (same_new hp) (.inl (.inl upd_same))
theorem eq_blsT {t : Bool} {K : PySem.W.Frag} {H : Hp} {a b : Addr} {as bs : List Bool} {Q : VK} (h1 : BlsT t K H a as) (h2 : BlsT t K H b bs) (q : Q (.bl (decide (as = bs))) H) : rEqD K (.ref a) (.ref b) H Q := by
  cases t with
  | false =>
    refine ⟨_, _, .lst h1 (dp_bls as), .lst h2 (dp_bls bs), (sh_list (can_bls as).1 (can_bls as).2).1, (sh_list (can_bls bs).1 (can_bls bs).2).1, ?_⟩
    show Q (.bl (PyData.eqvAll (as.map PyData.bool) (bs.map PyData.bool))) H
    rw [eqv_bls]
    exact q
  | true =>
    refine ⟨_, _, .tup h1 (dp_bls as), .tup h2 (dp_bls bs), (sh_list (can_bls as).1 (can_bls as).2).2, (sh_list (can_bls bs).1 (can_bls bs).2).2, ?_⟩
    show Q (.bl (PyData.eqvAll (as.map PyData.bool) (bs.map PyData.bool))) H
    rw [eqv_bls]
    exact q
theorem len_bls {K : PySem.W.Frag} {H : Hp} {a : Addr} {bs : List Bool} (h : Bls K H a bs) : SqL K H a (bs.map V.bl) ∨ SqT K H a (bs.map V.bl) := h
theorem ix_bls {K : PySem.W.Frag} {H : Hp} {a : Addr} {bs : List Bool} {i : Int} {Q : VK} (h : Bls K H a bs) (h0 : 0 ≤ i) (h1 : i < bs.length) (q : Q (.bl (bs.getD i.toNat false)) H) : rIx K (.ref a) (.int i) H Q := by
  have ha : atI (bs.map V.bl) i = some (.bl (bs.getD i.toNat false)) := at_of (Int.toNat_of_nonneg h0).symm (get_bls (by omega))
  rcases h with h | h
  · exact .inl ⟨a, _, _, _, rfl, rfl, h, ha, q⟩
  · exact .inr (.inl ⟨a, _, _, _, rfl, rfl, h, ha, q⟩)
theorem cut_lo (bs : List Bool) (k : Nat) (hk : k ≤ bs.length) : cutV (bs.map V.bl) (some (k : Int)) none = (bs.drop k).map V.bl := by
  unfold cutV
  rw [HT.sIx_none, HT.sIx_nat, List.length_map, Nat.min_eq_left hk, ← List.map_drop, ← List.map_take, List.take_of_length_le (by rw [List.length_drop]; omega)]
theorem cut_hi (bs : List Bool) (k : Nat) (hk : k ≤ bs.length) : cutV (bs.map V.bl) none (some (k : Int)) = (bs.take k).map V.bl := by
  unfold cutV
  rw [HT.sIx_none, HT.sIx_nat, List.length_map, Nat.min_eq_left hk, List.drop_zero, Nat.sub_zero, List.map_take]
section
variable {P : Program} {w : World} {K : PySem.W.Frag} {mg : Str → Option Value} {base : Heap}
/-! ### _comes_round -/
def spRound (K : PySem.W.Frag) : Sp := fun vs H Q _ => ∃ (a : Addr) (bs : List Bool) (k : Nat), vs = [.ref a, .int k] ∧ Bls K H a bs ∧ k ≤ bs.length ∧ ∀ H', Same H H' → Q (.bl (Round bs k)) H'
theorem scRound : FnScope ["row", "step"] ["row", "step"] (defScope sRound) := ⟨rfl, rfl, rfl, by decide +kernel, rfl, by decide +kernel, by decide +kernel⟩
theorem df_round (A : At K mg "_comes_round" sRound) (T : TxtW mg) : Df P w K mg base 1 "_comes_round" ["row", "step"] (spRound K) := by
  obtain ⟨f, fd, hm, F⟩ := A.ex
  refine ⟨f, fd, hm, F.kp, F.binds (fun _ _ _ _ _ _ us hl => match us, hl with | [_, _], _ => rfl), F.ok scRound (fun vs H Q E h => ?_) (fun cdv A outer s H vs Q E hr h => ?_)⟩
  · obtain ⟨a, bs, k, rfl, _⟩ := h
    rfl
  · obtain ⟨a, bs, k, rfl, hB, hk, q⟩ := h
    obtain ⟨t, hT⟩ := hB.t
    refine ⟨_, (pss_one (ps_ret (pe_cmpR (op_eqD hr.units) (pe_slice (sl_list.or sl_tupA) (pv 0) (po_some (pv 1)) po_none) (pe_slice (sl_list.or sl_tupA) (pv 0) po_none (po_some (pe_op op_sub (pe_callB call_len_seq (by rfl) T.len PySem.boot_len (pa_cons (pv 0) pa_nil)) (pv 1)))) (nomark _)))), ?_⟩
    refine ⟨_, rfl, _, rfl, _, rfl, sl_bls hT (cut_lo bs k hk) fun p H1 s1 h1 => ?_⟩
    refine ⟨_, rfl, _, rfl, a, _, rfl, len_bls (hT.same s1).bls, _, rfl, _, _, rfl, rfl, _, rfl, sl_bls (hT.same s1) (bs' := bs.take (bs.length - k)) ?_ fun p2 H2 s2 h2 => ?_⟩
    · have e : ((bs.map V.bl).length : Int) - (k : Int) = ((bs.length - k : Nat) : Int) := by rw [List.length_map]; omega
      show cutV (bs.map V.bl) none (some (((bs.map V.bl).length : Int) - (k : Int))) = _
      rw [e]
      exact cut_hi bs _ (by omega)
    · exact eq_blsT (h1.same s2) h2 (q _ (s1.trans s2))
/-! ### _primes_of -/
def spPrimes : Sp := fun vs H Q _ => ∃ (n : Nat), vs = [.int n] ∧ 1 ≤ n ∧ n ≤ 1000000 ∧ ∀ (r : Addr) (ps : List Nat) (H' : Hp), H r = none → H' r = some (.lst (ps.map fun p : Nat => V.int (p : Int))) → PrimesOk n ps → Same H H' → Q (.ref r) H'
theorem scPrimes : FnScope ["number", "primes", "left", "prime"] ["number"] (defScope sPrimes) := ⟨rfl, rfl, rfl, by decide +kernel, rfl, by decide +kernel, by decide +kernel⟩
theorem df_primes (A : At K mg "primes_of" sPrimes) : Df P w K mg base 1 "primes_of" ["number"] spPrimes := by
  obtain ⟨f, fd, hm, F⟩ := A.ex
  refine ⟨f, fd, hm, F.kp, F.binds (fun _ _ _ _ _ _ us hl => match us, hl with | [_], _ => rfl), F.ok scPrimes (fun vs H Q E h => ?_) (fun cdv A outer s H vs Q E hr h => ?_)⟩
  · obtain ⟨n, rfl, _⟩ := h
    rfl
  · obtain ⟨n, rfl, n1, n2, q⟩ := h
    refine ⟨_, (pss_cons (ps_set (i := 1) scPrimes.nd rfl (.inl rfl) (pe_lst pa_nil))
      (pss_cons (ps_set (i := 2) scPrimes.nd rfl (.inl rfl) (pv 0))
      (pss_cons (ps_set (i := 3) scPrimes.nd rfl (.inl rfl) pe_int)
      (pss_cons (ps_while PassesOwn.never (pt_cmpR op_le (pe_op op_mul (pv 3) (pv 3)) (pv 2) (nomark _))
      (pss_cons (ps_if (pt_cmpR op_eq (pe_op op_mod (pv 2) (pv 3)) pe_int (nomark _)) (pss_one (ps_expr (pe_bm PySem.F.plainAttrs_list PySem.F.slot_list_append PySem.F.type_list_append mt_append (pv 1) (pa_cons (pv 3) pa_nil)))) pss_nil)
      (pss_cons (ps_while PassesOwn.never (pt_cmpR op_eq (pe_op op_mod (pv 2) (pv 3)) pe_int (nomark _))
      (pss_one (ps_set (i := 2) scPrimes.nd rfl (.inl rfl) (pe_op op_fdiv (pv 2) (pv 3)))))
      (pss_one (ps_set (i := 3) scPrimes.nd rfl (.inl rfl) (pe_op op_add (pv 3) pe_int))))))
      (pss_cons (ps_if (pt_cmpR op_gt (pv 2) pe_int (nomark _)) (pss_one (ps_expr (pe_bm PySem.F.plainAttrs_list PySem.F.slot_list_append PySem.F.type_list_append mt_append (pv 1) (pa_cons (pv 2) pa_nil)))) pss_nil)
      (pss_one (ps_ret (pv 1)))))))), ?_⟩
    refine ⟨Nat.zero_le _, fun r hr0 => ?_⟩
    refine ⟨_, rfl, ?_⟩
    refine ⟨fun m σ H' => ∃ (ps : List Nat) (left prime : Nat), σ = [some (.int n), some (.ref r), some (.int left), some (.int prime)] ∧ m = n + 2 - prime ∧ prime ≤ n + 1 ∧ ps.length < prime ∧ Seek n left prime ps ∧ H' r = some (.lst (ps.map fun p : Nat => V.int (p : Int))) ∧ Same H H',
      ⟨_, [], n, 2, rfl, rfl, by omega, by decide, Seek.start n1, upd_same, same_new hr0⟩, fun m σ H' hW => ?_⟩
    obtain ⟨ps, left, prime, rfl, em, hpn, hpl, hS, hL, sm⟩ := hW
    have hln : left ≤ n := Nat.le_of_dvd (by omega) hS.dvd
    refine ⟨_, rfl, _, rfl, _, _, rfl, rfl, .inl ⟨by omega, by omega⟩, _, rfl, _, _, rfl, rfl, _, rfl, ?_⟩
    have hp2 := hS.p2
    have hpos : (0 : Int) < (prime : Int) := by omega
    have hmod : ∀ x : Nat, decide (V.int ((x : Int) % (prime : Int)) = V.int 0) = decide (prime ∣ x) := fun x => by
      by_cases hx : prime ∣ x
      · rw [decide_eq_true hx]
        obtain ⟨c, rfl⟩ := hx
        refine decide_eq_true ?_
        rw [Int.natCast_mul, Int.mul_emod_right]
      · rw [decide_eq_false hx]
        refine decide_eq_false fun z => hx ?_
        injection z with z
        exact Int.natCast_dvd_natCast.mp (Int.dvd_of_emod_eq_zero z)
    have hlt : ∀ ps' : List Nat, ps'.length ≤ n + 2 → (ps'.map fun p : Nat => V.int (p : Int)).length < sizeLine := fun ps' hz => by
      rw [List.length_map]
      exact Nat.lt_of_le_of_lt (show ps'.length ≤ 1000010 by omega) (by decide)
    by_cases hc : prime * prime ≤ left
    · have hcI : (prime : Int) * (prime : Int) ≤ (left : Int) := by
        have := Int.ofNat_le.mpr hc
        rw [Int.natCast_mul] at this
        exact this
      have hpn' : prime ≤ n := by
        have := Nat.mul_le_mul_right prime hp2
        omega
      have hN : ∀ (ps' : List Nat) (left' : Nat) (H' : Hp), Seek n left' (prime + 1) ps' → ps'.length < prime + 1 → H' r = some (.lst (ps'.map fun p : Nat => V.int (p : Int))) → Same H H' →
          ∃ v, [some (V.int n), some (V.ref r), some (V.int left'), some (V.int prime)][3]? = some (some v) ∧ ∃ i j, v = V.int i ∧ V.int 1 = V.int j ∧
            (fun (σ' : L2.St) (H' : Hp) => ∃ (ps : List Nat) (left : Nat), σ' = [some (.int n), some (.ref r), some (.int left), some (.int ((prime : Int) + 1))] ∧ ps.length < prime + 1 ∧ Seek n left (prime + 1) ps ∧ H' r = some (.lst (ps.map fun p : Nat => V.int (p : Int))) ∧ Same H H')
              [some (V.int n), some (V.ref r), some (V.int left'), some (V.int (i + j))] H' :=
        fun ps' left' H' h1 h2 h3 h4 => ⟨_, rfl, _, _, rfl, rfl, ps', left', rfl, h2, h1, h3, h4⟩
      refine (show ite _ _ _ from ?_)
      rw [decide_eq_true hcI, if_pos rfl]
      refine ⟨fun σ' H' => ∃ (ps : List Nat) (left : Nat), σ' = [some (.int n), some (.ref r), some (.int left), some (.int ((prime : Int) + 1))] ∧ ps.length < prime + 1 ∧ Seek n left (prime + 1) ps ∧ H' r = some (.lst (ps.map fun p : Nat => V.int (p : Int))) ∧ Same H H', fun σ' H' hz => ?_, ?_⟩
      · obtain ⟨ps', left', e, h1, h2, h3, h4⟩ := hz
        exact ⟨n + 2 - (prime + 1), by omega, ps', left', prime + 1, e, rfl, by omega, h1, h2, h3, h4⟩
      · refine ⟨_, rfl, _, rfl, _, _, rfl, rfl, hpos, rfl, _, rfl, ?_⟩
        rw [hmod left]
        by_cases hd : prime ∣ left
        · rw [decide_eq_true hd]
          refine iteT ?_
          refine ⟨_, rfl, .inl ⟨rfl, _, .inl (.inl hL)⟩, _, rfl, r, _, _, rfl, rfl, hL, hlt _ (by omega), ?_⟩
          have hL2 : (upd H' r (.lst ((ps.map fun p : Nat => V.int (p : Int)) ++ [V.int prime]))) r = some (.lst ((ps ++ [prime]).map fun p : Nat => V.int (p : Int))) := by rw [upd_same, List.map_append]; rfl
          have sm2 : Same H (upd H' r (.lst ((ps.map fun p : Nat => V.int (p : Int)) ++ [V.int prime]))) := fun b o e => by rw [upd_ne (ne_of_none e hr0)]; exact sm b o e
          generalize upd H' r (.lst ((ps.map fun p : Nat => V.int (p : Int)) ++ [V.int prime])) = H2 at hL2 sm2 ⊢
          refine ⟨fun m σ H3 => ∃ left' : Nat, σ = [some (.int n), some (.ref r), some (.int left'), some (.int prime)] ∧ m = left' ∧ Strip left prime left' ∧ H3 = H2, ⟨left, left, rfl, rfl, Strip.start hS.l0, rfl⟩, fun m σ H3 hW => ?_⟩
          obtain ⟨left', rfl, rfl, hT, rfl⟩ := hW
          refine ⟨_, rfl, _, rfl, _, _, rfl, rfl, hpos, rfl, _, rfl, ?_⟩
          rw [hmod m]
          by_cases hd' : prime ∣ m
          · refine (show ite _ _ _ from ?_)
            rw [decide_eq_true hd', if_pos rfl]
            refine ⟨fun σ' H' => σ' = [some (.int n), some (.ref r), some (.int ((m / prime : Nat) : Int)), some (.int prime)] ∧ H' = H3, fun σ' H' hz => ?_, ?_⟩
            · obtain ⟨rfl, rfl⟩ := hz
              exact ⟨m / prime, Nat.div_lt_self hT.l0 hp2, _, rfl, rfl, hT.step (hS.prime hd) hd', rfl⟩
            · refine ⟨_, rfl, _, rfl, _, _, rfl, rfl, ⟨hpos, by omega⟩, rfl, rfl⟩
          · refine (show ite _ _ _ from ?_)
            rw [decide_eq_false hd', if_neg Bool.false_ne_true]
            exact hN _ m H3 (hS.take hd hT hd') (by rw [List.length_append, List.length_singleton]; omega) hL2 sm2
        · rw [decide_eq_false hd]
          refine iteF ?_
          refine ⟨fun m σ H3 => σ = [some (.int n), some (.ref r), some (.int left), some (.int prime)] ∧ H3 = H', ⟨0, rfl, rfl⟩, fun m σ H3 hW => ?_⟩
          obtain ⟨rfl, rfl⟩ := hW
          refine ⟨_, rfl, _, rfl, _, _, rfl, rfl, hpos, rfl, _, rfl, ?_⟩
          rw [hmod left]
          refine (show ite _ _ _ from ?_)
          rw [decide_eq_false hd, if_neg Bool.false_ne_true]
          exact hN ps left H3 (hS.skip hd) (by omega) hL sm
    · have hcI : ¬ (prime : Int) * (prime : Int) ≤ (left : Int) := fun z => by
        rw [← Int.natCast_mul] at z
        exact hc (Int.ofNat_le.mp z)
      refine (show ite _ _ _ from ?_)
      rw [decide_eq_false hcI, if_neg Bool.false_ne_true]
      have fin := hS.fin (by omega)
      refine ⟨_, rfl, _, _, rfl, rfl, _, rfl, ?_⟩
      by_cases h1 : 1 < left
      · rw [if_pos h1] at fin
        rw [decide_eq_true (show (1 : Int) < (left : Int) by omega), if_pos rfl]
        refine ⟨_, rfl, .inl ⟨rfl, _, .inl (.inl hL)⟩, _, rfl, r, _, _, rfl, rfl, hL, hlt _ (by omega), ?_⟩
        exact ⟨_, rfl, q r _ _ hr0 (by rw [upd_same, List.map_append]; rfl) fin (fun b o e => by rw [upd_ne (ne_of_none e hr0)]; exact sm b o e)⟩
      · rw [if_neg h1] at fin
        rw [decide_eq_false (show ¬ (1 : Int) < (left : Int) by omega), if_neg Bool.false_ne_true]
        exact ⟨_, rfl, q r _ _ hr0 hL fin sm⟩
end
end Ef
set_option Elab.async false
set_option linter.all false
/-! a list told by its first round again and again -/
namespace Ef
theorem rep_get {α : Type} (xs : List α) (hx : 0 < xs.length) : ∀ (k i : Nat), i < xs.length * k → (List.replicate k xs).flatten[i]? = xs[i % xs.length]?
  | 0, i, h => absurd h (by rw [Nat.mul_zero]; exact Nat.not_lt_zero i)
  | k + 1, i, h => by
    rw [List.replicate_succ, List.flatten_cons]
    rcases Nat.lt_or_ge i xs.length with z | z
    · rw [List.getElem?_append_left z, Nat.mod_eq_of_lt z]
    · rw [List.getElem?_append_right z, rep_get xs hx k (i - xs.length) (by rw [Nat.mul_succ] at h; omega), Nat.mod_eq_sub_mod z]
theorem rep_len {α : Type} (xs : List α) (k : Nat) : (List.replicate k xs).flatten.length = xs.length * k := by
  induction k with
  | zero => rfl
  | succ k ih => rw [List.replicate_succ, List.flatten_cons, List.length_append, ih, Nat.mul_succ, Nat.add_comm]
/-- by d again and again, exactly if it comes round by d -/
theorem rep_per {rs : List Bool} {d : Nat} (hL : 1 ≤ rs.length) (h1 : 1 ≤ d) (hd : d ∣ rs.length) : rs = (List.replicate (rs.length / d) (rs.take d)).flatten ↔ PerF (led rs) d := by
  have hle := Nat.le_of_dvd hL hd
  have hlen : (rs.take d).length = d := by rw [List.length_take]; omega
  have hm : d * (rs.length / d) = rs.length := Nat.mul_div_cancel' hd
  have get : ∀ i, i < rs.length → (List.replicate (rs.length / d) (rs.take d)).flatten[i]? = some (led rs (i % d)) := fun i hi => by
    have hid := Nat.mod_lt i (show 0 < d by omega)
    rw [rep_get (rs.take d) (by omega) _ i (by rw [hlen, hm]; exact hi), hlen, List.getElem?_take, if_pos hid]
    exact led_lt (by omega)
  constructor
  · intro h
    have key : ∀ i, i < rs.length → led rs i = led rs (i % d) := fun i hi => by
      have a := led_lt hi
      have b := get i hi
      rw [← h] at b
      rw [a] at b
      injection b
    intro i
    have e1 : led rs (i + d) = led rs ((i + d) % rs.length) := by unfold led; rw [Nat.mod_mod]
    have e2 : led rs i = led rs (i % rs.length) := by unfold led; rw [Nat.mod_mod]
    rw [e1, e2, key _ (Nat.mod_lt _ (by omega)), key _ (Nat.mod_lt _ (by omega)), Nat.mod_mod_of_dvd _ hd, Nat.mod_mod_of_dvd _ hd, Nat.add_mod_right]
  · intro h
    refine List.ext_getElem? fun i => ?_
    rcases Nat.lt_or_ge i rs.length with z | z
    · rw [get i z, led_lt z]
      have e : i = i % d + d * (i / d) := (Nat.mod_add_div i d).symm
      conv => lhs; rw [e, h.mul (i / d)]
    · rw [List.getElem?_eq_none z, List.getElem?_eq_none (by rw [rep_len, hlen, hm]; exact z)]
end Ef
set_option Elab.async false
set_option linter.all false
/-! the least start, found by halving -/
namespace Ef
/-- from n on the truths below are those of the rounds -/
def Agree (bs rs : List Bool) (n : Nat) : Prop := ∀ k, n ≤ k → k < bs.length → bs.getD k false = led rs k
theorem start_ex (bs rs : List Bool) : ∀ n, n ≤ bs.length → Agree bs rs n → ∃ s, s ≤ n ∧ StartOk bs rs s
  | 0, h, a => ⟨0, Nat.le_refl _, h, a, .inl rfl⟩
  | n + 1, h, a => by
    by_cases e : bs.getD n false = led rs n
    · obtain ⟨s, h1, h2⟩ := start_ex bs rs n (by omega) fun k hk hl => by
        rcases Nat.lt_or_ge n k with z | z
        · exact a k z hl
        · rw [show k = n by omega]; exact e
      exact ⟨s, by omega, h2⟩
    · exact ⟨n + 1, Nat.le_refl _, h, a, .inr (by rw [Nat.add_sub_cancel]; exact e)⟩
theorem start_agree {bs rs : List Bool} {s n : Nat} (h : StartOk bs rs s) (hn : n ≤ bs.length) : Agree bs rs n ↔ s ≤ n := by
  constructor
  · intro a
    rcases Nat.lt_or_ge n s with z | z
    · rcases h.2.2 with e | e
      · omega
      · exact absurd (a (s - 1) (by omega) (by have := h.1; omega)) e
    · exact z
  · exact fun z k hk hl => h.2.1 k (by omega) hl
theorem rep_take {rs : List Bool} {n : Nat} (hr : 1 ≤ rs.length) : (List.replicate (n / rs.length + 1) rs).flatten.take n = (List.range n).map (led rs) := by
  refine List.ext_getElem? fun i => ?_
  rw [List.getElem?_take, List.getElem?_map]
  rcases Nat.lt_or_ge i n with z | z
  · have h1 : n < rs.length * (n / rs.length + 1) := by
      have := Nat.div_add_mod n rs.length
      have := Nat.mod_lt n (show 0 < rs.length by omega)
      rw [Nat.mul_succ]
      omega
    rw [if_pos z, rep_get rs (by omega) _ i (by omega), List.getElem?_range z, led_lt (Nat.mod_lt _ (by omega))]
    show some _ = some (led rs i)
    unfold led
    rw [Nat.mod_mod]
  · rw [if_neg (by omega), List.getElem?_eq_none (by rw [List.length_range]; exact z)]
    rfl
theorem drop_agree {bs rs : List Bool} {n : Nat} : bs.drop n = ((List.range bs.length).map (led rs)).drop n ↔ Agree bs rs n := by
  have g : ∀ k, k < bs.length → bs[k]? = some (bs.getD k false) := fun k hk => by
    rw [List.getD_eq_getElem?_getD, List.getElem?_eq_getElem hk]; rfl
  have g2 : ∀ k, k < bs.length → ((List.range bs.length).map (led rs))[k]? = some (led rs k) := fun k hk => by
    rw [List.getElem?_map, List.getElem?_range hk]; rfl
  constructor
  · intro h k hk hl
    have e := congrArg (fun l : List Bool => l[k - n]?) h
    simp only [List.getElem?_drop] at e
    rw [show n + (k - n) = k by omega, g k hl, g2 k hl] at e
    exact Option.some.inj e
  · intro a
    refine List.ext_getElem? fun i => ?_
    rw [List.getElem?_drop, List.getElem?_drop]
    rcases Nat.lt_or_ge (n + i) bs.length with z | z
    · rw [g _ z, g2 _ z, a _ (by omega) z]
    · rw [List.getElem?_eq_none z, List.getElem?_eq_none (by rw [List.length_map, List.length_range]; exact z)]
end Ef
set_option Elab.async false
set_option linter.all false
set_option maxRecDepth 100000
set_option maxHeartbeats 4000000
namespace Ef
open PySem PySem.Spec PyProof.Rows L2
theorem hmod_nat {prime x : Nat} (hpos : 0 < prime) : decide (V.int ((x : Int) % (prime : Int)) = V.int 0) = decide (prime ∣ x) := by
  by_cases hx : prime ∣ x
  · rw [decide_eq_true hx]
    obtain ⟨c, rfl⟩ := hx
    refine decide_eq_true ?_
    rw [Int.natCast_mul, Int.mul_emod_right]
  · rw [decide_eq_false hx]
    refine decide_eq_false fun z => hx ?_
    injection z with z
    exact Int.natCast_dvd_natCast.mp (Int.dvd_of_emod_eq_zero z)
section
variable {P : Program} {w : World} {K : PySem.W.Frag} {mg : Str → Option Value} {base : Heap}
/-! ### _least_period -/
def spLper (K : PySem.W.Frag) : Sp := fun vs H Q _ => ∃ (a : Addr) (bs : List Bool), vs = [.ref a] ∧ Bls K H a bs ∧ 1 ≤ bs.length ∧ bs.length ≤ 1000000 ∧
  ∀ (m : Nat) (H' : Hp), 1 ≤ m → m ∣ bs.length → PerF (led bs) m → (∀ d, PerF (led bs) d → m ∣ d) → Same H H' → Q (.int m) H'
theorem scLper : FnScope ["row", "period", "prime"] ["row"] (defScope sLper) := ⟨rfl, rfl, rfl, by decide +kernel, rfl, by decide +kernel, by decide +kernel⟩
theorem df_lper (A : At K mg "least_period" sLper) (T : TxtW mg) (Dprimes : Df P w K mg base 1 "primes_of" ["number"] spPrimes) (Dround : Df P w K mg base 1 "_comes_round" ["row", "step"] (spRound K)) : Df P w K mg base 2 "least_period" ["row"] (spLper K) := by
  obtain ⟨f, fd, hm, F⟩ := A.ex
  refine ⟨f, fd, hm, F.kp, F.binds (fun _ _ _ _ _ _ us hl => match us, hl with | [_], _ => rfl), F.ok scLper (fun vs H Q E h => ?_) (fun cdv A outer s H vs Q E hr h => ?_)⟩
  · obtain ⟨a, bs, rfl, _⟩ := h
    rfl
  · obtain ⟨a, bs, rfl, hB, hL1, hL2, q⟩ := h
    refine ⟨_, (pss_cons (ps_set (i := 1) scLper.nd rfl (.inl rfl) (pe_callB call_len_seq (by rfl) T.len PySem.boot_len (pa_cons (pv 0) pa_nil)))
      (pss_cons (ps_for PassesOwn.never rfl (pi_list (Dprimes.call (hr.mono (by decide)) (pa_cons (pv 1) pa_nil))) (pg_name (i := 2) scLper.nd rfl (.inl rfl))
      (pss_one (ps_while PassesOwn.never (pw_and (pt_cmpR op_eq (pe_op op_mod (pv 1) (pv 2)) pe_int (nomark _)) (pw_and1 (pt_val (Dround.call (hr.mono (by decide)) (pa_cons (pv 0) (pa_cons (pe_op op_fdiv (pv 1) (pv 2)) pa_nil)))))).pt
      (pss_one (ps_set (i := 1) scLper.nd rfl (.inl rfl) (pe_op op_fdiv (pv 1) (pv 2)))))))
      (pss_one (ps_ret (pv 1))))), ?_⟩
    refine ⟨_, rfl, a, _, rfl, len_bls hB, ?_⟩
    refine ⟨_, rfl, bs.length, by rw [List.length_map]; rfl, hL1, hL2, fun r ps H1 hr0 hA hok sm => ?_⟩
    refine ⟨r, rfl, ⟨_, .inl (.inl hA)⟩, for_list (K := K) (a := r) (xs := ps.map fun p : Nat => V.int (p : Int)) (fun i σ H' => ∃ (m : Nat) (y : Option V), σ = [some (.ref a), some (.int m), y] ∧ H' r = some (.lst (ps.map fun p : Nat => V.int (p : Int))) ∧ Same H H' ∧ 1 ≤ m ∧ m ∣ bs.length ∧ PerF (led bs) m ∧
      ∀ (j p : Nat), j < i → ps[j]? = some p → p ∣ m → ¬ PerF (led bs) (m / p)) ⟨bs.length, none, by rw [List.length_map]; rfl, hA, sm, hL1, Nat.dvd_refl _, led_self bs, fun j p hj => absurd hj (Nat.not_lt_zero j)⟩ (fun i σ H' _ ⟨m, y, _, h, _⟩ => .inl (.inl h)) ?_ ?_⟩
    · rintro i x σ H2 hi ⟨m, y, rfl, hA2, sm2, m1, mL, hper, hn⟩
      rw [List.getElem?_map] at hi
      obtain ⟨p, hp, rfl⟩ := Option.map_eq_some_iff.mp hi
      obtain ⟨p2, pL⟩ := hok.1 p (List.mem_of_getElem? hp)
      have pl : p ≤ bs.length := Nat.le_of_dvd (by omega) pL
      refine ⟨fun k σ H' => ∃ m' : Nat, k = m' ∧ σ = [some (.ref a), some (.int m'), some (.int p)] ∧ H' r = some (.lst (ps.map fun p : Nat => V.int (p : Int))) ∧ Same H H' ∧ 1 ≤ m' ∧ m' ∣ m ∧ PerF (led bs) m', ⟨m, m, rfl, rfl, hA2, sm2, m1, Nat.dvd_refl _, hper⟩, fun k σ H3 hW => ?_⟩
      obtain ⟨m', rfl, rfl, hA3, sm3, m1', md, hper'⟩ := hW
      have fin : ∀ H4, H4 r = some (.lst (ps.map fun p : Nat => V.int (p : Int))) → Same H H4 → (p ∣ k → ¬ PerF (led bs) (k / p)) → ∃ (m : Nat) (y : Option V), [some (V.ref a), some (V.int k), some (V.int p)] = [some (.ref a), some (.int m), y] ∧ H4 r = some (.lst (ps.map fun p : Nat => V.int (p : Int))) ∧ Same H H4 ∧ 1 ≤ m ∧ m ∣ bs.length ∧ PerF (led bs) m ∧
          ∀ (j p : Nat), j < i + 1 → ps[j]? = some p → p ∣ m → ¬ PerF (led bs) (m / p) := fun H4 h4 s4 hpk => by
        refine ⟨k, _, rfl, h4, s4, m1', Nat.dvd_trans md mL, hper', fun j p' hj hp' hpd hper2 => ?_⟩
        rcases Nat.lt_or_ge j i with z | z
        · exact hn j p' z hp' (Nat.dvd_trans hpd md) (hper2.keep (by have := (hok.1 p' (List.mem_of_getElem? hp')).1; omega) md hpd)
        · have e : j = i := by omega
          rw [e, hp] at hp'
          injection hp' with hp'
          subst hp'
          exact hpk hpd hper2
      refine ⟨_, rfl, _, rfl, _, _, rfl, rfl, show (0 : Int) < (p : Int) by omega, rfl, _, rfl, ?_⟩
      rw [hmod_nat (by omega)]
      by_cases hd : p ∣ k
      · rw [decide_eq_true hd]
        have kp : k / p ≤ bs.length := Nat.le_trans (Nat.div_le_self _ _) (Nat.le_of_dvd (by omega) (Nat.dvd_trans md mL))
        have kd : k / p ∣ bs.length := Nat.dvd_trans ⟨p, (Nat.div_mul_cancel hd).symm⟩ (Nat.dvd_trans md mL)
        refine iteT ⟨_, rfl, _, rfl, _, rfl, _, _, rfl, rfl, ⟨show (0 : Int) < (p : Int) by omega, show (p : Int) < 1073741824 by omega⟩, a, bs, k / p, rfl, hB.same sm3, kp, fun H4 s4 => ⟨_, rfl, ?_⟩⟩
        have sm4 := sm3.trans s4
        have hA4 := s4 _ _ hA3
        by_cases hrd : Round bs (k / p) = true
        · rw [hrd]
          have hk1 : 1 ≤ k / p := Nat.div_pos (Nat.le_of_dvd (by omega) hd) (by omega)
          refine iteT ⟨fun σ' H' => σ' = [some (.ref a), some (.int ((k / p : Nat) : Int)), some (.int p)] ∧ H' r = some (.lst (ps.map fun p : Nat => V.int (p : Int))) ∧ Same H H', fun σ' H' hz => ?_, ?_⟩
          · obtain ⟨rfl, h5, s5⟩ := hz
            exact ⟨k / p, Nat.div_lt_self (by omega) (by omega), _, rfl, rfl, h5, s5, hk1, Nat.dvd_trans ⟨p, (Nat.div_mul_cancel hd).symm⟩ md, (round_per hL1 kd).mp hrd⟩
          · exact ⟨_, rfl, _, rfl, _, _, rfl, rfl, ⟨show (0 : Int) < (p : Int) by omega, show (p : Int) < 1073741824 by omega⟩, rfl, hA4, sm4⟩
        · rw [Bool.eq_false_iff.mpr hrd]
          exact iteF (fin _ hA4 sm4 fun _ hz => hrd ((round_per hL1 kd).mpr hz))
      · rw [decide_eq_false hd]
        refine iteF ?_
        exact fin _ hA3 sm3 fun z => absurd z hd
    · rintro σ H2 ⟨m, y, rfl, hA2, sm2, m1, mL, hper, hn⟩
      refine ⟨_, rfl, q m H2 m1 mL hper (least_of hok hL1 mL hper fun p hp => ?_) sm2⟩
      obtain ⟨j, hj, rfl⟩ := List.getElem_of_mem hp
      exact hn j _ (by rw [List.length_map]; exact hj) (List.getElem?_eq_getElem hj)
/-! ### _least_start -/
def spLstart (K : PySem.W.Frag) : Sp := fun vs H Q _ => ∃ (a b : Addr) (bs rs : List Bool), vs = [.ref a, .ref b] ∧ Bls K H a bs ∧ Bls K H b rs ∧ 1 ≤ rs.length ∧ bs.length ≤ 1000000 ∧ rs.length ≤ 1000000 ∧ ∀ (s : Nat) H', Same H H' → StartOk bs rs s → Q (.int s) H'
theorem scLstart : FnScope ["below", "rests", "size", "truths", "later", "low", "high", "middle"] ["below", "rests"] (defScope sLstart) := ⟨rfl, rfl, rfl, by decide +kernel, rfl, by decide +kernel, by decide +kernel⟩
theorem df_lstart (A : At K mg "_least_start" sLstart) (T : TxtW mg) : Df P w K mg base 1 "_least_start" ["below", "rests"] (spLstart K) := by
  obtain ⟨f, fd, hm, F⟩ := A.ex
  refine ⟨f, fd, hm, F.kp, F.binds (fun _ _ _ _ _ _ us hl => match us, hl with | [_, _], _ => rfl), F.ok scLstart (fun vs H Q E h => ?_) (fun cdv A outer s H vs Q E hr h => ?_)⟩
  · obtain ⟨a, b, bs, rs, rfl, _⟩ := h
    rfl
  · obtain ⟨a, b, bs, rs, rfl, hB, hR, hr1, hb1, hr2, q⟩ := h
    refine ⟨_, (pss_cons (ps_set (i := 2) scLstart.nd rfl (.inl rfl) (pe_callB call_len_seq (by rfl) T.len PySem.boot_len (pa_cons (pv 0) pa_nil)))
      (pss_cons (ps_if (pw_or (pt_cmpR op_eq (pv 2) pe_int (nomark _)) (pw_or1 (pt_cmpR op_ne (pe_ix ix_seq (pv 0) (pe_op op_sub (pv 2) pe_int) (fun _ _ => rfl)) (pe_ix ix_seq (pv 1) (pe_op op_mod (pe_op op_sub (pv 2) pe_int) (pe_callB call_len_seq (by rfl) T.len PySem.boot_len (pa_cons (pv 1) pa_nil))) (fun _ _ => rfl)) (nomark _)))).pt (pss_one (ps_ret (pv 2))) pss_nil)
      (pss_cons (ps_set (i := 3) scLstart.nd rfl (.inl rfl) (pe_callTy call_list_of (by rfl) T.list (by decide +kernel) (pa_cons (pv 0) pa_nil)))
      (pss_cons (ps_set (i := 4) scLstart.nd rfl (.inl rfl) (pe_slice sl_list (pe_op op_rep (pe_callTy call_list_of (by rfl) T.list (by decide +kernel) (pa_cons (pv 1) pa_nil)) (pe_op op_add (pe_op op_fdiv (pv 2) (pe_callB call_len_seq (by rfl) T.len PySem.boot_len (pa_cons (pv 1) pa_nil))) pe_int)) po_none (po_some (pv 2))))
      (pss_cons (ps_par (i := 5) (j := 6) (by rfl) scLstart.nd rfl rfl (by decide) rfl rfl (pa_cons pe_int (pa_cons (pv 2) pa_nil)) (by rfl))
      (pss_cons (ps_while PassesOwn.never (pt_cmpR op_lt (pv 5) (pv 6) (nomark _))
      (pss_cons (ps_set (i := 7) scLstart.nd rfl (.inl rfl) (pe_op op_fdiv (pe_op op_add (pv 5) (pv 6)) pe_int))
      (pss_one (ps_if (pt_cmpR (op_eqD hr.units) (pe_slice sl_list (pv 3) (po_some (pv 7)) po_none) (pe_slice sl_list (pv 4) (po_some (pv 7)) po_none) (nomark _)) (pss_one (ps_set (i := 6) scLstart.nd rfl (.inl rfl) (pv 7))) (pss_one (ps_set (i := 5) scLstart.nd rfl (.inl rfl) (pe_op op_add (pv 7) pe_int)))))))
      (pss_one (ps_ret (pv 5))))))))), ?_⟩
    refine ⟨_, rfl, a, _, rfl, len_bls hB, ?_⟩
    rw [List.length_map]
    obtain ⟨s0, hs0, hS⟩ := start_ex bs rs bs.length (Nat.le_refl _) (fun k h1 h2 => absurd h2 (by omega))
    refine ⟨_, rfl, rfl, _, rfl, ?_⟩
    by_cases hz : bs.length = 0
    · rw [decide_eq_true (show V.int (bs.length : Int) = V.int 0 by rw [hz]; rfl)]
      refine iteT ⟨_, rfl, ?_⟩
      have e : s0 = bs.length := by omega
      exact q bs.length H (Same.refl H) (e ▸ hS)
    rw [decide_eq_false (show ¬ V.int (bs.length : Int) = V.int 0 from fun z => by injection z with z; omega)]
    refine iteF ?_
    obtain ⟨n, hn⟩ : ∃ n, bs.length = n + 1 := ⟨bs.length - 1, by omega⟩
    have en : ((bs.length : Nat) : Int) - 1 = (n : Int) := by omega
    have h0 := Int.emod_nonneg (n : Int) (show (rs.length : Int) ≠ 0 by omega)
    have h1 := Int.emod_lt_of_pos (n : Int) (show (0 : Int) < (rs.length : Int) by omega)
    have em : ((n : Int) % (rs.length : Int)).toNat = n % rs.length := by rw [← Int.natCast_emod]; rfl
    refine ⟨_, rfl, _, rfl, _, _, rfl, rfl, ix_bls hB (by omega) (by omega) ?_⟩
    refine ⟨_, rfl, _, rfl, _, _, rfl, rfl, _, rfl, b, _, rfl, len_bls hR, _, _, rfl, rfl, by rw [List.length_map]; omega, ?_⟩
    dsimp only
    rw [List.length_map, en]
    refine ix_bls hR h0 h1 ⟨rfl, _, rfl, ?_⟩
    rw [em, show ((n : Nat) : Int).toNat = n from rfl, show rs.getD (n % rs.length) false = led rs n from rfl]
    by_cases hx : ¬ bs.getD n false = led rs n
    · rw [decide_eq_false (fun z => hx (by injection z))]
      refine iteT ⟨_, rfl, q bs.length H (Same.refl H) ⟨Nat.le_refl _, fun k h1 h2 => absurd h2 (by omega), .inr (by rw [hn, Nat.add_sub_cancel]; exact hx)⟩⟩
    rw [decide_eq_true (congrArg V.bl (Classical.not_not.mp hx))]
    refine iteF ?_
    -- truths
    refine ⟨_, rfl, a, _, rfl, hB, fun l1 hl1 => ?_⟩
    have s1 := same_new (o := .lst (bs.map V.bl)) hl1
    have e1 : (upd H l1 (.lst (bs.map V.bl))) l1 = some (.lst (bs.map V.bl)) := upd_same
    generalize upd H l1 (.lst (bs.map V.bl)) = H1 at s1 e1 ⊢
    -- later
    refine ⟨_, rfl, b, _, rfl, hR.same s1, fun l2 hl2 => ?_⟩
    have s2 := s1.trans (same_new (o := .lst (rs.map V.bl)) hl2)
    have e1 := same_new (o := .lst (rs.map V.bl)) hl2 _ _ e1
    have e2 : (upd H1 l2 (.lst (rs.map V.bl))) l2 = some (.lst (rs.map V.bl)) := upd_same
    generalize upd H1 l2 (.lst (rs.map V.bl)) = H2 at s2 e1 e2 ⊢
    refine ⟨_, rfl, _, rfl, b, _, rfl, hR.same s2, ?_⟩
    rw [List.length_map]
    have ek : ((bs.length : Int) / (rs.length : Int) + 1) = ((bs.length / rs.length + 1 : Nat) : Int) := rfl
    have hrep : rs.length * (bs.length / rs.length + 1) ≤ 2000000 := by
      have := Nat.div_mul_le_self bs.length rs.length
      rw [Nat.mul_comm] at this
      rw [Nat.mul_succ]
      omega
    have hdiv : bs.length / rs.length ≤ bs.length := Nat.div_le_self _ _
    refine ⟨_, _, rfl, rfl, ⟨by omega, by omega⟩, _, _, rfl, rfl, ?_⟩
    dsimp only
    rw [ek]
    have hk0 := Int.natCast_nonneg (bs.length / rs.length + 1)
    have hk1 : ((bs.length / rs.length + 1 : Nat) : Int) ≤ 1000001 := Int.ofNat_le.mpr (show bs.length / rs.length + 1 ≤ 1000001 by omega)
    refine ⟨l2, _, _, rfl, rfl, e2, Int.le_trans (by decide) hk0, Int.lt_of_le_of_lt hk1 (by decide), ?_, fun l3 hl3 => ?_⟩
    · rw [List.length_map, Int.toNat_natCast]
      exact Nat.le_trans hrep (by decide)
    have ef : (List.replicate ((bs.length / rs.length + 1 : Nat) : Int).toNat (rs.map V.bl)).flatten = ((List.replicate (bs.length / rs.length + 1) rs).flatten).map V.bl := by
      rw [List.map_flatten, List.map_replicate]; rfl
    rw [ef]
    have s3 := s2.trans (same_new (o := .lst (((List.replicate (bs.length / rs.length + 1) rs).flatten).map V.bl)) hl3)
    have e1 := same_new (o := .lst (((List.replicate (bs.length / rs.length + 1) rs).flatten).map V.bl)) hl3 _ _ e1
    have e3 : (upd H2 l3 (.lst (((List.replicate (bs.length / rs.length + 1) rs).flatten).map V.bl))) l3 = some (.lst (((List.replicate (bs.length / rs.length + 1) rs).flatten).map V.bl)) := upd_same
    generalize upd H2 l3 (.lst (((List.replicate (bs.length / rs.length + 1) rs).flatten).map V.bl)) = H3 at s3 e1 e3 ⊢
    have hlen : bs.length ≤ (List.replicate (bs.length / rs.length + 1) rs).flatten.length := by
      rw [rep_len, Nat.mul_succ]
      have := Nat.div_add_mod bs.length rs.length
      have := Nat.mod_lt bs.length (show 0 < rs.length by omega)
      omega
    refine ⟨_, rfl, _, rfl, l3, _, rfl, .inl (.inl e3), fun l4 hl4 => ?_⟩
    rw [cut_hi _ _ hlen, rep_take hr1]
    have s4 := s3.trans (same_new (o := .lst (((List.range bs.length).map (led rs)).map V.bl)) hl4)
    have e1 := same_new (o := .lst (((List.range bs.length).map (led rs)).map V.bl)) hl4 _ _ e1
    have e4 : (upd H3 l4 (.lst (((List.range bs.length).map (led rs)).map V.bl))) l4 = some (.lst (((List.range bs.length).map (led rs)).map V.bl)) := upd_same
    generalize upd H3 l4 (.lst (((List.range bs.length).map (led rs)).map V.bl)) = H4 at s4 e1 e4 ⊢
    refine ⟨_, rfl, _, _, rfl, ?_⟩
    refine ⟨fun d σ H' => Same H H' ∧ H' l1 = some (.lst (bs.map V.bl)) ∧ H' l4 = some (.lst (((List.range bs.length).map (led rs)).map V.bl)) ∧ ∃ (lo hi : Nat) (y : Option V), σ = [some (.ref a), some (.ref b), some (.int (bs.length : Int)), some (.ref l1), some (.ref l4), some (.int (lo : Int)), some (.int (hi : Int)), y] ∧ lo ≤ s0 ∧ s0 ≤ hi ∧ hi ≤ bs.length ∧ d = hi - lo,
      ⟨bs.length, s4, e1, e4, 0, bs.length, none, rfl, Nat.zero_le _, hs0, Nat.le_refl _, rfl⟩, fun d σ H' hW => ?_⟩
    obtain ⟨s5, e1, e4, lo, hi, y, rfl, h1, h2, h3, rfl⟩ := hW
    refine ⟨_, rfl, _, rfl, _, _, rfl, rfl, _, rfl, ?_⟩
    by_cases hlt : lo < hi
    · rw [decide_eq_true (show (lo : Int) < (hi : Int) by omega)]
      refine iteT ⟨fun σ' H2 => ∃ d', d' < hi - lo ∧ (Same H H2 ∧ H2 l1 = some (.lst (bs.map V.bl)) ∧ H2 l4 = some (.lst (((List.range bs.length).map (led rs)).map V.bl)) ∧ ∃ (lo' hi' : Nat) (y : Option V), σ' = [some (.ref a), some (.ref b), some (.int (bs.length : Int)), some (.ref l1), some (.ref l4), some (.int (lo' : Int)), some (.int (hi' : Int)), y] ∧ lo' ≤ s0 ∧ s0 ≤ hi' ∧ hi' ≤ bs.length ∧ d' = hi' - lo'), fun σ' H2 h => h, ?_⟩
      refine ⟨_, rfl, _, rfl, _, _, rfl, rfl, _, _, rfl, rfl, ⟨by decide, by decide⟩, ?_⟩
      have emid : (((lo : Int) + (hi : Int)) / 2) = (((lo + hi) / 2 : Nat) : Int) := by omega
      dsimp only
      rw [emid]
      obtain ⟨mid, hmid⟩ : ∃ mid, (lo + hi) / 2 = mid := ⟨_, rfl⟩
      rw [hmid]
      have m1 : lo ≤ mid := by omega
      have m2 : mid < hi := by omega
      refine ⟨_, rfl, _, rfl, _, rfl, l1, _, rfl, .inl (.inl e1), fun l5 hl5 => ?_⟩
      rw [cut_lo bs mid (by omega)]
      have s6 := s5.trans (same_new (o := .lst ((bs.drop mid).map V.bl)) hl5)
      have e1 := same_new (o := .lst ((bs.drop mid).map V.bl)) hl5 _ _ e1
      have e4 := same_new (o := .lst ((bs.drop mid).map V.bl)) hl5 _ _ e4
      have e5 : (upd H' l5 (.lst ((bs.drop mid).map V.bl))) l5 = some (.lst ((bs.drop mid).map V.bl)) := upd_same
      generalize upd H' l5 (.lst ((bs.drop mid).map V.bl)) = H5 at s6 e1 e4 e5 ⊢
      refine ⟨_, rfl, _, rfl, _, rfl, l4, _, rfl, .inl (.inl e4), fun l6 hl6 => ?_⟩
      rw [cut_lo ((List.range bs.length).map (led rs)) mid (by rw [List.length_map, List.length_range]; omega)]
      have s7 := s6.trans (same_new (o := .lst ((((List.range bs.length).map (led rs)).drop mid).map V.bl)) hl6)
      have e1 := same_new (o := .lst ((((List.range bs.length).map (led rs)).drop mid).map V.bl)) hl6 _ _ e1
      have e4 := same_new (o := .lst ((((List.range bs.length).map (led rs)).drop mid).map V.bl)) hl6 _ _ e4
      have e5 := same_new (o := .lst ((((List.range bs.length).map (led rs)).drop mid).map V.bl)) hl6 _ _ e5
      have e6 : (upd H5 l6 (.lst ((((List.range bs.length).map (led rs)).drop mid).map V.bl))) l6 = some (.lst ((((List.range bs.length).map (led rs)).drop mid).map V.bl)) := upd_same
      generalize upd H5 l6 (.lst ((((List.range bs.length).map (led rs)).drop mid).map V.bl)) = H6 at s7 e1 e4 e5 e6 ⊢
      refine ⟨_, _, .lst (.inl (.inl e5)) (dp_bls _), .lst (.inl (.inl e6)) (dp_bls _), (sh_list (can_bls _).1 (can_bls _).2).1, (sh_list (can_bls _).1 (can_bls _).2).1, _, rfl, ?_⟩
      rw [show PyData.eqv (.list ((bs.drop mid).map PyData.bool)) (.list ((((List.range bs.length).map (led rs)).drop mid).map PyData.bool)) = decide (bs.drop mid = ((List.range bs.length).map (led rs)).drop mid) from eqv_bls _ _]
      by_cases hc : s0 ≤ mid
      · rw [decide_eq_true (drop_agree.mpr ((start_agree hS (by omega)).mpr hc))]
        exact iteT ⟨_, rfl, mid - lo, by omega, s7, e1, e4, lo, mid, _, rfl, h1, hc, by omega, rfl⟩
      · rw [decide_eq_false (fun z => hc ((start_agree hS (by omega)).mp (drop_agree.mp z)))]
        exact iteF ⟨_, rfl, _, _, rfl, rfl, hi - (mid + 1), by omega, s7, e1, e4, mid + 1, hi, _, rfl, by omega, h2, h3, rfl⟩
    · rw [decide_eq_false (show ¬ (lo : Int) < (hi : Int) by omega)]
      have e : lo = s0 := by omega
      subst e
      exact iteF ⟨_, rfl, q _ _ s5 hS⟩
end
end Ef
set_option Elab.async false
set_option linter.all false
set_option maxRecDepth 100000
set_option maxHeartbeats 4000000
namespace Ef
open PySem PySem.Spec PyProof.Rows L2
abbrev sInit : Stmt := inClass (top 20) 0
/-- the least period and the least start -/
structure Canon (bs rs : List Bool) (m s : Nat) : Prop where
  m1 : 1 ≤ m
  dvd : m ∣ rs.length
  per : PerF (led rs) m
  least : ∀ d, PerF (led rs) d → m ∣ d
  start : StartOk bs rs s
/-- the attributes -/
def wf (m s : Int) (ra ba ea la : Addr) : List (Str × V) :=
  putF "_late" (.ref la) (putF "_early" (.ref ea) (putF "below" (.ref ba) (putF "rests" (.ref ra) (putF "start" (.int s) (putF "period" (.int m) [])))))
def earlyL (bs : List Bool) (s : Nat) : List Nat := (List.range s).filter fun n => bs.getD n false
def lateL (rs : List Bool) (m s : Nat) : List Nat := ((List.range m).map fun i => s + i).filter fun n => led rs n
/-- at p a Where of the period m, the start s, the truths bs below and rs -/
def WAt (K : PySem.W.Frag) (C : Addr) (H : Hp) (p : Addr) (m s : Nat) (bs rs : List Bool) : Prop := ∃ dx ra ba ea la : Addr,
  H p = some (.ins C dx (wf m s ra ba ea la)) ∧ SqT K H ra ((rs.take m).map V.bl) ∧ SqT K H ba ((bs.take s).map V.bl) ∧ SqT K H ea ((earlyL bs s).map fun n : Nat => V.int (n : Int)) ∧ SqT K H la ((lateL rs m s).map fun n : Nat => V.int (n : Int))
theorem WAt.same {K : PySem.W.Frag} {C : Addr} {H H' : Hp} {p : Addr} {m s : Nat} {bs rs : List Bool} (h : WAt K C H p m s bs rs) (e : Same H H') : WAt K C H' p m s bs rs := by
  obtain ⟨dx, ra, ba, ea, la, h1, h2, h3, h4, h5⟩ := h
  exact ⟨dx, ra, ba, ea, la, e _ _ h1, Same.tup e h2, Same.tup e h3, Same.tup e h4, Same.tup e h5⟩
theorem nm1 : ¬ (("start" : Str) = "period") := by decide +kernel
theorem nm2 : ¬ (("rests" : Str) = "period") := by decide +kernel
theorem nm3 : ¬ (("rests" : Str) = "start") := by decide +kernel
/-- the class, what the text has of it -/
structure ClsW (K : PySem.W.Frag) (mg : Str → Option Value) (C : Addr) : Prop where
  cl : Cls K C
  mgC : mg "Where" = some (.ref C)
  nP : NoAttr K C "period"
  nS : NoAttr K C "start"
  nR : NoAttr K C "rests"
  nB : NoAttr K C "below"
  nE : NoAttr K C "_early"
  nL : NoAttr K C "_late"
structure TxtI (mg : Str → Option Value) : Prop extends TxtW mg where
  MOST_PERIOD : ∃ t, mg "MOST_PERIOD" = some (.int 720 t)
  MOST_START : ∃ t, mg "MOST_START" = some (.int 10000 t)
section
variable {P : Program} {w : World} {K : PySem.W.Frag} {mg : Str → Option Value} {base : Heap}
theorem same_mut {H0 H : Hp} {p : Addr} {o : HO} (h : Same H0 H) (hp : H0 p = none) : Same H0 (upd H p o) := fun b x e => by rw [upd_ne (ne_of_none e hp)]; exact h b x e
/-- tuple(xs[:k]) -/
theorem rd_tup {K : PySem.W.Frag} {σ : L2.St} {H : Hp} {Q : VK} {i j k : Nat} {a : Addr} {bs : List Bool} (hi : σ[i]? = some (some (.ref a))) (hj : σ[j]? = some (some (.int k))) (hB : Bls K H a bs) (hk : k ≤ bs.length)
    (q : ∀ l H', Same H H' → SqT K H' l ((bs.take k).map V.bl) → Q (.ref l) H') :
    tCB (fun xs H Q => ∃ p ys, xs = [V.ref p] ∧ ((SqL K H p ys ∧ ∀ l, H l = none → Q (.ref l) (upd H l (.tup ys))) ∨ (SqT K H p ys ∧ Q (.ref p) H)))
      (tCons (tSl (fun x lo hi H Q => rSlL K x lo hi H Q ∨ rSlA K x lo hi H Q) (tVar i) tNoPart (tPart (tVar j))) tNil) σ H Q := by
  obtain ⟨t, hT⟩ := hB.t
  refine ⟨_, hi, _, hj, _, rfl, sl_bls hT (cut_hi bs k hk) fun p H5 s5 h5 => ?_⟩
  cases t with
  | false => exact ⟨p, _, rfl, .inl ⟨h5, fun l hl => q l _ (s5.trans (same_new hl)) (.inl (.inl upd_same))⟩⟩
  | true => exact ⟨p, _, rfl, .inr ⟨h5, q p H5 s5 h5⟩⟩
theorem early_succ (bs : List Bool) (i : Nat) : (earlyL bs (i + 1)).map (fun n : Nat => V.int (n : Int)) = (earlyL bs i).map (fun n : Nat => V.int (n : Int)) ++ (if bs.getD i false = true then [V.int (i : Int)] else []) := by
  unfold earlyL
  rw [List.range_succ, List.filter_append, List.map_append]
  congr 1
  by_cases h : bs.getD i false = true
  · rw [if_pos h, show List.filter (fun n => bs.getD n false) [i] = [i] by simp only [List.filter, h]]; rfl
  · rw [if_neg h, show List.filter (fun n => bs.getD n false) [i] = [] by simp only [List.filter, Bool.eq_false_iff.mpr h]]; rfl
theorem late_succ (rs : List Bool) (m s : Nat) : (lateL rs (m + 1) s).map (fun n : Nat => V.int (n : Int)) = (lateL rs m s).map (fun n : Nat => V.int (n : Int)) ++ (if led rs (s + m) = true then [V.int ((s + m : Nat) : Int)] else []) := by
  unfold lateL
  rw [List.range_succ, List.map_append, List.filter_append, List.map_append]
  congr 1
  show List.map _ (List.filter _ [s + m]) = _
  by_cases h : led rs (s + m) = true
  · rw [if_pos h, show List.filter (fun n => led rs n) [s + m] = [s + m] by simp only [List.filter, h]]; rfl
  · rw [if_neg h, show List.filter (fun n => led rs n) [s + m] = [] by simp only [List.filter, Bool.eq_false_iff.mpr h]]; rfl
theorem early_len (bs : List Bool) (s : Nat) : (earlyL bs s).length ≤ s := by
  unfold earlyL
  refine Nat.le_trans (List.length_filter_le _ _) ?_
  rw [List.length_range]; exact Nat.le_refl s
theorem late_len (rs : List Bool) (m s : Nat) : (lateL rs m s).length ≤ m := by
  unfold lateL
  refine Nat.le_trans (List.length_filter_le _ _) ?_
  rw [List.length_map, List.length_range]; exact Nat.le_refl m
theorem led_mod {rs : List Bool} {m : Nat} (h : PerF (led rs) m) (h1 : 1 ≤ m) (hm : m ≤ rs.length) (n : Nat) : rs.getD (n % m) false = led rs n := by
  have e : n = n % m + m * (n / m) := (Nat.mod_add_div n m).symm
  conv => rhs; rw [e, h.mul (n / m)]
  unfold led
  rw [Nat.mod_eq_of_lt (Nat.lt_of_lt_of_le (Nat.mod_lt n h1) hm)]
theorem sqt_upd {K : PySem.W.Frag} {H : Hp} {a p C dx : Addr} {fs : List (Str × V)} {xs : List V} {o : HO} (h : SqT K H a xs) (hp : H p = some (.ins C dx fs)) : SqT K (upd H p o) a xs := by
  rcases h with (h | ⟨z, h⟩) | h
  · exact .inl (.inl (by rw [upd_ne (ne_of h hp (by intro q; cases q))]; exact h))
  · exact .inl (.inr ⟨z, by rw [upd_ne (ne_of h hp (by intro q; cases q))]; exact h⟩)
  · exact .inr h
def spInit (K : PySem.W.Frag) (C : Addr) : Sp := fun vs H Q _ => ∃ (H0 : Hp) (p dx a b : Addr) (bs rs : List Bool), vs = [.ref p, .ref a, .ref b] ∧ Same H0 H ∧ H0 p = none ∧ H p = some (.ins C dx []) ∧ Bls K H0 a bs ∧ Bls K H0 b rs ∧ 1 ≤ rs.length ∧ rs.length ≤ 720 ∧ bs.length ≤ 10000 ∧
  ∀ (m s : Nat) (H' : Hp), Canon bs rs m s → Same H0 H' → WAt K C H' p m s bs rs → Q .non H'
theorem scInit : FnScope ["self", "below", "rests", "period", "start", "n", "truth"] ["self", "below", "rests"] (defScope sInit) := ⟨rfl, rfl, rfl, by decide +kernel, rfl, by decide +kernel, by decide +kernel⟩
theorem lkB {m s : Int} {ra ba : Addr} : (putF "below" (V.ref ba) (putF "rests" (.ref ra) (putF "start" (.int s) (putF "period" (.int m) [])))).lookup ("below" : Str) = some (.ref ba) := by with_unfolding_all rfl
theorem ok_init {f C : Addr} {fd : FuncData} (F : Fun K "__init__" "Where.__init__" sInit f fd) (T : TxtI mg) (CW : ClsW K mg C)
    (Dcheck : Df P w K mg base 1 "_check_truths" ["truths"] (spCheck K)) (Dlper : Df P w K mg base 2 "least_period" ["row"] (spLper K)) (Dlstart : Df P w K mg base 1 "_least_start" ["below", "rests"] (spLstart K)) :
    FnOk P w K mg base CX0 3 f fd ["self", "below", "rests"] (spInit K C) := by
  refine F.ok scInit (fun vs H Q E h => ?_) (fun cdv A outer s H vs Q E hr h => ?_)
  · obtain ⟨H0, p, dx, a, b, bs, rs, rfl, _⟩ := h
    rfl
  · obtain ⟨H0, p, dx, a, b, bs, rs, rfl, s0, p0, hp, hB, hR, hr1, hr2, hb2, q⟩ := h
    obtain ⟨tMP, eMP⟩ := T.MOST_PERIOD
    obtain ⟨tMS, eMS⟩ := T.MOST_START
    refine ⟨_, (pss_cons (ps_expr (Dcheck.call (hr.mono (by decide)) (pa_cons (pv 1) pa_nil)))
      (pss_cons (ps_expr (Dcheck.call (hr.mono (by decide)) (pa_cons (pv 2) pa_nil)))
      (pss_cons (ps_if (pt_cmpR op_eq (pe_callB call_len_seq (by rfl) T.len PySem.boot_len (pa_cons (pv 2) pa_nil)) pe_int (nomark _)) (pss_one ps_never) pss_nil)
      (pss_cons (ps_set (i := 3) scInit.nd rfl (.inr rfl) (Dlper.call (hr.mono (by decide)) (pa_cons (pv 2) pa_nil)))
      (pss_cons (ps_set (i := 4) scInit.nd rfl (.inl rfl) (Dlstart.call (hr.mono (by decide)) (pa_cons (pv 1) (pa_cons (pv 2) pa_nil))))
      (pss_cons (ps_if (pt_cmpR op_gt (pv 3) (pe_glob (v := .int 720) rfl eMP ⟨_, rfl⟩) (nomark _)) (pss_one ps_never) pss_nil)
      (pss_cons (ps_if (pt_cmpR op_gt (pv 4) (pe_glob (v := .int 10000) rfl eMS ⟨_, rfl⟩) (nomark _)) (pss_one ps_never) pss_nil)
      (pss_cons (ps_fld (pv 0) (pv 3) rfl)
      (pss_cons (ps_fld (pv 0) (pv 4) rfl)
      (pss_cons (ps_fld (pv 0) (pe_callTy call_tuple_of (by rfl) T.tuple (by decide +kernel) (pa_cons (pe_slice (sl_list.or sl_tupA) (pv 2) po_none (po_some (pv 3))) pa_nil)) rfl)
      (pss_cons (ps_fld (pv 0) (pe_callTy call_tuple_of (by rfl) T.tuple (by decide +kernel) (pa_cons (pe_slice (sl_list.or sl_tupA) (pv 1) po_none (po_some (pv 4))) pa_nil)) rfl)
      (pss_cons (ps_fld (pv 0) (pe_callTy call_tuple_of (by rfl) T.tuple (by decide +kernel) (pa_cons (pe_lc (own := [("n", 5), ("truth", 6)]) (g := gTup K 2 (gCons (gName 5) (gCons (gName 6) gNil))) (by rfl) scInit.nd (pi_enumS (by rfl) T.enumerate (pa_cons (pe_fld (pv 0) rfl) pa_nil)) (blkOk_by (own := [("n", 5), ("truth", 6)]) (N := ["self", "below", "rests", "period", "start", "n", "truth"]) (sc := defScope sInit) (by decide +kernel)) (fun _ _ _ _ _ => pg_tup (by rfl) (pgs_cons (pg_name (i := 5) scInit.nd rfl (Or.inl rfl)) (pgs_cons (pg_name (i := 6) scInit.nd rfl (Or.inl rfl)) pgs_nil))) (fun _ _ _ _ _ => (pts_one (pt_val (pv 6)))) (fun _ _ _ _ _ => (pv 5))) pa_nil)) rfl)
      (pss_one (ps_fld (pv 0) (pe_callTy call_tuple_of (by rfl) T.tuple (by decide +kernel) (pa_cons (pe_lc (own := [("n", 5)]) (g := gName 5) (by rfl) scInit.nd (pi_range2 (by rfl) T.range (pa_cons (pv 4) (pa_cons (pe_op op_add (pv 4) (pv 3)) pa_nil))) (blkOk_by (own := [("n", 5)]) (N := ["self", "below", "rests", "period", "start", "n", "truth"]) (sc := defScope sInit) (by decide +kernel)) (fun _ _ _ _ _ => pg_name (i := 5) scInit.nd rfl (Or.inl rfl)) (fun _ _ _ _ _ => (pts_one (pt_val (pe_ix (show IxR _ (rIx K) from ix_seq) (pv 2) (pe_op op_mod (pv 5) (pv 3)) (fun _ _ => rfl))))) (fun _ _ _ _ _ => (pv 5))) pa_nil)) rfl)))))))))))))), ?_⟩
    refine ⟨_, rfl, a, bs, rfl, hB.same s0, fun H1 s1 => ?_⟩
    have s01 := s0.trans s1
    refine ⟨_, rfl, b, rs, rfl, hR.same s01, fun H2 s2 => ?_⟩
    have s02 := s01.trans s2
    refine ⟨_, rfl, b, _, rfl, len_bls (hR.same s02), rfl, _, rfl, ?_⟩
    rw [decide_eq_false (show ¬ V.int ((rs.map V.bl).length : Int) = V.int 0 from fun z => by
      injection z with z
      rw [List.length_map] at z
      omega)]
    refine iteF ?_
    refine ⟨_, rfl, b, rs, rfl, hR.same s02, hr1, by omega, fun m H3a m1 md mper mleast s3a => ?_⟩
    have s03a := s02.trans s3a
    refine ⟨_, rfl, _, rfl, a, b, bs, rs, rfl, hB.same s03a, hR.same s03a, hr1, by omega, by omega, fun s H3 s3b hs => ?_⟩
    have s3 := s3a.trans s3b
    have s03 := s02.trans s3
    have hm : m ≤ rs.length := Nat.le_of_dvd (by omega) md
    have hsb := hs.1
    refine ⟨_, rfl, _, _, rfl, rfl, _, rfl, ?_⟩
    rw [decide_eq_false (show ¬ (720 : Int) < (m : Int) by omega)]
    refine iteF ?_
    refine ⟨_, rfl, _, _, rfl, rfl, _, rfl, ?_⟩
    rw [decide_eq_false (show ¬ (10000 : Int) < (s : Int) by omega)]
    refine iteF ?_
    have hp3 : H3 p = some (.ins C dx []) := s3 _ _ (s2 _ _ (s1 _ _ hp))
    -- self.period, self.start
    refine ⟨_, rfl, _, rfl, p, C, dx, _, rfl, hp3, CW.cl, CW.nP, (by show 0 < 1000; decide), ?_⟩
    refine ⟨_, rfl, _, rfl, p, C, dx, _, rfl, upd_same, CW.cl, CW.nS, (by show 1 < 1000; decide), ?_⟩
    rw [upd_upd]
    have s04 : Same H0 (upd H3 p (.ins C dx (putF "start" (.int s) (putF "period" (.int m) [])))) := same_mut s03 p0
    have hp4 : (upd H3 p (.ins C dx (putF "start" (.int s) (putF "period" (.int m) [])))) p = some (.ins C dx (putF "start" (.int s) (putF "period" (.int m) []))) := upd_same
    generalize upd H3 p (.ins C dx (putF "start" (.int s) (putF "period" (.int m) []))) = H4 at s04 hp4 ⊢
    -- self.rests
    dsimp only [tSeq, sFld]
    refine rd_tup (k := m) (by rfl) (by rfl) (hR.same s04) hm fun ra H6 s6 h6 => ?_
    have s06 := s04.trans s6
    have hp6 := s6 _ _ hp4
    refine ⟨_, rfl, p, C, dx, _, rfl, hp6, CW.cl, CW.nR, (by show 2 < 1000; decide), ?_⟩
    have hra := sqt_upd (o := .ins C dx (putF "rests" (.ref ra) (putF "start" (.int s) (putF "period" (.int m) [])))) h6 hp6
    have s07 : Same H0 (upd H6 p (.ins C dx (putF "rests" (.ref ra) (putF "start" (.int s) (putF "period" (.int m) []))))) := same_mut s06 p0
    have hp7 : (upd H6 p (.ins C dx (putF "rests" (.ref ra) (putF "start" (.int s) (putF "period" (.int m) []))))) p = some (.ins C dx (putF "rests" (.ref ra) (putF "start" (.int s) (putF "period" (.int m) [])))) := upd_same
    generalize upd H6 p (.ins C dx (putF "rests" (.ref ra) (putF "start" (.int s) (putF "period" (.int m) [])))) = H7 at s07 hp7 hra ⊢
    -- self.below
    refine rd_tup (k := s) (by rfl) (by rfl) (hB.same s07) hsb fun ba H9 s79 h9 => ?_
    have hp9 := s79 _ _ hp7
    refine ⟨_, rfl, p, C, dx, _, rfl, hp9, CW.cl, CW.nB, (by show 3 < 1000; decide), ?_⟩
    have hra := sqt_upd (o := .ins C dx (putF "below" (.ref ba) (putF "rests" (.ref ra) (putF "start" (.int s) (putF "period" (.int m) []))))) (Same.tup s79 hra) hp9
    have hba := sqt_upd (o := .ins C dx (putF "below" (.ref ba) (putF "rests" (.ref ra) (putF "start" (.int s) (putF "period" (.int m) []))))) h9 hp9
    have s10 : Same H0 (upd H9 p (.ins C dx (putF "below" (.ref ba) (putF "rests" (.ref ra) (putF "start" (.int s) (putF "period" (.int m) [])))))) := same_mut (s07.trans s79) p0
    have hp10 : (upd H9 p (.ins C dx (putF "below" (.ref ba) (putF "rests" (.ref ra) (putF "start" (.int s) (putF "period" (.int m) [])))))) p = some (.ins C dx (putF "below" (.ref ba) (putF "rests" (.ref ra) (putF "start" (.int s) (putF "period" (.int m) []))))) := upd_same
    generalize upd H9 p (.ins C dx (putF "below" (.ref ba) (putF "rests" (.ref ra) (putF "start" (.int s) (putF "period" (.int m) []))))) = H10 at s10 hp10 hra hba ⊢
    -- self._early
    refine ⟨_, rfl, p, C, dx, _, _, rfl, hp10, CW.cl, CW.nB, lkB, ba, _, rfl, .inr ⟨hba, fun D hD => ?_⟩⟩
    refine lc_it walk_enumT (fun i H' => Same H10 H' ∧ H' D = some (.lst ((earlyL bs i).map fun n : Nat => V.int (n : Int)))) ⟨same_new hD, upd_same⟩ (fun i H' _ h => Same.tup h.1 hba) ?_ ?_
    · rintro i x Hx H2 hi ⟨sx, hx⟩ ⟨T, y, z, rfl, nT, rfl, ey, ez⟩
      have ei : y = .int (i : Nat) := (Option.some.inj ey).symm
      subst ei
      rw [List.length_map, List.length_take] at hi
      have his : i < s := by omega
      have ez2 : ((bs.take s).map V.bl)[i]? = some (.bl (bs.getD i false)) := by rw [List.map_take, List.getElem?_take, if_pos his, get_bls (by omega)]
      have ez3 : z = .bl (bs.getD i false) := (Option.some.inj (ez2.symm.trans ez)).symm
      subst ez3
      have sT : Same H10 (upd Hx T (.tup [.int (i : Nat), .bl (bs.getD i false)])) := sx.trans (same_new nT)
      have hT : (upd Hx T (.tup [.int (i : Nat), .bl (bs.getD i false)])) D = some (.lst ((earlyL bs i).map fun n : Nat => V.int (n : Int))) := by rw [upd_ne (ne_of_none hx nT)]; exact hx
      refine ⟨T, _, rfl, .inl (.inl upd_same), rfl, _, _, rfl, _, _, rfl, rfl, rfl, _, rfl, _, rfl, ?_⟩
      refine ite2 (fun hb => ?_) (fun hb => ?_)
      · refine ⟨_, rfl, _, hT, by rw [List.length_map]; exact small1000' (Nat.le_trans (early_len bs i) (by omega)), same_mut sT hD, ?_⟩
        rw [upd_same, early_succ, if_pos hb]
      · refine ⟨sT, ?_⟩
        rw [hT, early_succ, if_neg hb, List.append_nil]
    · rintro H11 ⟨s11, h11⟩
      rw [List.length_map, List.length_take, Nat.min_eq_left hsb] at h11
      refine ⟨D, _, rfl, .inl ⟨.inl (.inl h11), fun ea hea => ?_⟩⟩
      have s12 := s11.trans (same_new (o := .tup ((earlyL bs s).map fun n : Nat => V.int (n : Int))) hea)
      have hea2 : SqT K (upd H11 ea (.tup ((earlyL bs s).map fun n : Nat => V.int (n : Int)))) ea ((earlyL bs s).map fun n : Nat => V.int (n : Int)) := .inl (.inl upd_same)
      generalize upd H11 ea (.tup ((earlyL bs s).map fun n : Nat => V.int (n : Int))) = H12 at s12 hea2 ⊢
      have hp12 := s12 _ _ hp10
      refine ⟨_, rfl, p, C, dx, _, rfl, hp12, CW.cl, CW.nE, (by show 4 < 1000; decide), ?_⟩
      have hra := sqt_upd (o := .ins C dx (putF "_early" (.ref ea) (putF "below" (.ref ba) (putF "rests" (.ref ra) (putF "start" (.int s) (putF "period" (.int m) [])))))) (Same.tup s12 hra) hp12
      have hba := sqt_upd (o := .ins C dx (putF "_early" (.ref ea) (putF "below" (.ref ba) (putF "rests" (.ref ra) (putF "start" (.int s) (putF "period" (.int m) [])))))) (Same.tup s12 hba) hp12
      have hea := sqt_upd (o := .ins C dx (putF "_early" (.ref ea) (putF "below" (.ref ba) (putF "rests" (.ref ra) (putF "start" (.int s) (putF "period" (.int m) [])))))) hea2 hp12
      have s13 : Same H0 (upd H12 p (.ins C dx (putF "_early" (.ref ea) (putF "below" (.ref ba) (putF "rests" (.ref ra) (putF "start" (.int s) (putF "period" (.int m) []))))))) := same_mut (s10.trans s12) p0
      have hp13 : (upd H12 p (.ins C dx (putF "_early" (.ref ea) (putF "below" (.ref ba) (putF "rests" (.ref ra) (putF "start" (.int s) (putF "period" (.int m) []))))))) p = some (.ins C dx (putF "_early" (.ref ea) (putF "below" (.ref ba) (putF "rests" (.ref ra) (putF "start" (.int s) (putF "period" (.int m) [])))))) := upd_same
      generalize upd H12 p (.ins C dx (putF "_early" (.ref ea) (putF "below" (.ref ba) (putF "rests" (.ref ra) (putF "start" (.int s) (putF "period" (.int m) [])))))) = H13 at s13 hp13 hra hba hea ⊢
      -- self._late
      refine ⟨_, rfl, _, rfl, _, rfl, _, _, rfl, rfl, _, _, rfl, ⟨by omega, by omega, by omega, by omega⟩, fun D2 hD2 => ?_⟩
      have en : ((((s : Nat) : Int) + ((m : Nat) : Int)) - ((s : Nat) : Int)).toNat = m := by omega
      rw [en]
      refine lc_range (lo := (s : Int)) (n := m) (fun i H' => Same H13 H' ∧ H' D2 = some (.lst ((lateL rs i s).map fun n : Nat => V.int (n : Int)))) ⟨same_new hD2, upd_same⟩ ?_ ?_
      · rintro i Hx hi ⟨sx, hx⟩
        have e0 : (((s : Nat) : Int) + ((i : Nat) : Int)) = ((s + i : Nat) : Int) := rfl
        have em : (((s : Int) + (i : Int)) % ((m : Nat) : Int)).toNat = (s + i) % m := by rw [← Int.natCast_add, ← Int.natCast_emod]; rfl
        have h0 := Int.emod_nonneg ((s : Int) + (i : Int)) (show (m : Int) ≠ 0 by omega)
        have h1 := Int.emod_lt_of_pos ((s : Int) + (i : Int)) (show (0 : Int) < (m : Int) by omega)
        refine ⟨rfl, _, rfl, _, rfl, _, rfl, _, _, rfl, rfl, show (0 : Int) < (m : Int) by omega, ix_bls (hR.same (s13.trans sx)) h0 (by omega) ⟨_, rfl, ?_⟩⟩
        rw [em, led_mod mper m1 hm]
        refine ite2 (fun hb => ?_) (fun hb => ?_)
        · refine ⟨_, rfl, _, hx, by rw [List.length_map]; exact small1000' (Nat.le_trans (late_len rs i s) (by omega)), same_mut sx hD2, ?_⟩
          rw [upd_same, late_succ, if_pos hb]
          rfl
        · refine ⟨sx, ?_⟩
          rw [hx, late_succ, if_neg hb, List.append_nil]
      · rintro H14 ⟨s14, h14⟩
        refine ⟨D2, _, rfl, .inl ⟨.inl (.inl h14), fun la hla => ?_⟩⟩
        have s15 := s14.trans (same_new (o := .tup ((lateL rs m s).map fun n : Nat => V.int (n : Int))) hla)
        have hla2 : SqT K (upd H14 la (.tup ((lateL rs m s).map fun n : Nat => V.int (n : Int)))) la ((lateL rs m s).map fun n : Nat => V.int (n : Int)) := .inl (.inl upd_same)
        generalize upd H14 la (.tup ((lateL rs m s).map fun n : Nat => V.int (n : Int))) = H15 at s15 hla2 ⊢
        have hp15 := s15 _ _ hp13
        refine ⟨_, rfl, p, C, dx, _, rfl, hp15, CW.cl, CW.nL, (by show 5 < 1000; decide), ?_⟩
        exact q m s _ ⟨m1, md, mper, mleast, hs⟩ (same_mut (s13.trans s15) p0) ⟨dx, ra, ba, ea, la, upd_same, sqt_upd (Same.tup s15 hra) hp15, sqt_upd (Same.tup s15 hba) hp15, sqt_upd (Same.tup s15 hea) hp15, sqt_upd hla2 hp15⟩
end
end Ef
set_option Elab.async false
set_option linter.all false
set_option maxRecDepth 100000
set_option maxHeartbeats 2000000
/-! in, not, bool(..) by a class's own methods; a class that a local name holds, called -/
namespace Ef
open PySem PySem.Spec PyProof.Rows L2
/-- the class at C has its own method m: the def at f, which keeps sp -/
structure Own (P : Program) (w : World) (K : PySem.W.Frag) (mg : Str → Option Value) (base : Heap) (k : Nat) (C : Addr) (m : Str) (ps : List Str) (sp : Sp) : Prop where
  ex : ∃ f fd, PySem.W.findIn K (.ref C) m = some (some (.ref f)) ∧ PySem.W.isFn K (.ref f) = true ∧ PySem.W.typeIn K (.ref f) = some (.type "function") ∧ PySem.W.keepIn K (.ref f) = true ∧ Binds K fd ps [] ∧ FnOk P w K mg base CX0 k f fd ps sp
section
variable {X : Cx} {pins : List (Addr × Obj)} {σ : L2.St} {H : Hp} {s : Shared} {Q : VK} {k : Nat} {C a dx : Addr} {fs : List (Str × V)} {m : Str} {ps : List Str} {sp : Sp} {A : Around} {E' : Value → Shared → Prop}
/-- the call of a def from below the body that runs -/
theorem run_low {f : Addr} {fd : FuncData} {us : List Value} {vs : List V} (F : FnOk X.prog X.w X.K X.mg X.base CX0 k f fd ps sp) (hr : Room k A) (hfr : A.frames = X.A.frames) (hb : Binds X.K fd ps []) (I : Inv X pins σ H s) (r : Vals vs us) (h : sp vs H Q E0) :
    wpAny (model X.prog X.w) A (call (.ref f) us) (EP X pins σ Q) E' s := by
  have e0 : Env0 X.prog X.w X.K X.mg X.base A X.stack s H := by
    have e := I.env0
    exact ⟨hfr.trans e.frames, e.mod, e.bs, e.bsz, e.funs, e.frf, e.hok, e.bare⟩
  have hl : (us ++ []).length = ps.length := by rw [List.append_nil, ← r.length]; exact F.len _ _ _ _ h
  have hbt := hb s us I.kIn hl
  rw [List.append_nil] at hbt
  refine wpAny_call (codeAny_mono (F.run A X.stack s H ⟨us, []⟩ us vs Q E0 hr e0 hbt r h) fun res s' hq => ?_)
  cases res with
  | error e => exact False.elim hq
  | ok fl =>
    cases fl with
    | ret u => exact I.after hq
    | next => exact False.elim hq
    | brk => exact False.elim hq
    | cont => exact False.elim hq
/-- callSpecial? of such a method -/
theorem own_special {args : List Value} {vs : List V} {R : Option Value → Shared → Prop} (O : Own X.prog X.w X.K X.mg X.base k C m ps sp) (hr : Room k A) (hfr : A.frames = X.A.frames) (I : Inv X pins σ H s) (ea : H a = some (.ins C dx fs)) (r : Vals vs args)
    (h : sp (.ref a :: vs) H Q E0) (hR : ∀ u s', EP X pins σ Q u s' → R (some u) s') : wpAny (model X.prog X.w) A (callSpecial? (.ref a) m args) R E' s := by
  obtain ⟨f, fd, hf, hi, ht, hk, hb, F⟩ := O.ex
  obtain ⟨mA, OM, _⟩ := ins_get I.hok ea
  obtain ⟨od, J, _⟩ := OM.look
  refine PySem.W.special_fn I.kIn J hf ht ?_
  exact wpAny_mono (run_low (us := .ref a :: args) (vs := .ref a :: vs) F hr hfr hb I (.cons rfl r) h) (fun u s' z => hR u s' z) fun _ _ z => z
theorem own_unless {args : List Value} {vs : List V} {refuse : Sem Value} {R : Option Value → Shared → Prop} (O : Own X.prog X.w X.K X.mg X.base k C m ps sp) (hr : Room k A) (hfr : A.frames = X.A.frames) (I : Inv X pins σ H s) (ea : H a = some (.ins C dx fs)) (r : Vals vs args)
    (h : sp (.ref a :: vs) H Q E0) (hR : ∀ u s', EP X pins σ Q u s' → R (some u) s') : wpAny (model X.prog X.w) A (callSpecialUnlessNone? (.ref a) m args refuse) R E' s := by
  obtain ⟨f, fd, hf, hi, ht, hk, hb, F⟩ := O.ex
  obtain ⟨mA, OM, _⟩ := ins_get I.hok ea
  obtain ⟨od, J, _⟩ := OM.look
  unfold callSpecialUnlessNone? specialOf
  refine wpAny_bind (wpAny_bind (J.type.here ((PySem.W.looks_findIn I.kIn hf).here ?_)))
  refine wpAny_holding (wpAny_bind ((PySem.W.bind_fn I.kIn _ ht).here ?_))
  show wpAny _ _ (if (Value.ref f == Value.none) = true then _ else _) _ _ _
  rw [if_neg (show ¬ ((Value.ref f == Value.none) = true) from Bool.false_ne_true)]
  refine wpAny_bind (wpAny_mono (run_low (us := .ref a :: args) (vs := .ref a :: vs) F hr hfr hb I (.cons rfl r) h) (fun u s' z => wpAny_pure (hR u s' z)) fun _ _ z => z)
/-- x in o, x not in o, by o's own __contains__ -/
def rOwnIn (C : Addr) (sp : Sp) (neg : Bool) : R2 := fun x y H Q => ∃ (a dx : Addr) (fs : List (Str × V)), y = .ref a ∧ H a = some (.ins C dx fs) ∧ sp [.ref a, x] H (fun v H' => ∃ b, v = .bl b ∧ Q (.bl (if neg = true then !b else b)) H') E0
theorem contains_own {x : V} {u : Value} {R : Bool → Shared → Prop} {Qb : Bool → Hp → Prop} (O : Own X.prog X.w X.K X.mg X.base k C "__contains__" ps sp) (hr : Room k A) (hfr : A.frames = X.A.frames) (I : Inv X pins σ H s) (ea : H a = some (.ins C dx fs)) (r : RelV x u)
    (h : sp [.ref a, x] H (fun v H' => ∃ b, v = .bl b ∧ Qb b H') E0) (hR : ∀ b H' s', Inv X pins σ H' s' → Qb b H' → R b s') : wpAny (model X.prog X.w) A (contains (.ref a) u) R E' s := by
  obtain ⟨f, fd, hf, _⟩ := id O.ex
  obtain ⟨mA, OM, _⟩ := ins_get I.hok ea
  obtain ⟨od, J, _⟩ := OM.look
  unfold contains
  refine wpAny_holding ?_
  have e1 : stdlibNamesSay? (.ref a) u = none := by cases u <;> rfl
  rw [e1]
  dsimp only
  refine wpAny_bind ?_
  unfold specialOf
  refine wpAny_bind (J.type.here ((PySem.W.looks_findIn I.kIn hf).here ?_))
  show wpAny _ _ (if (some (Value.ref f) == some Value.none) = true then _ else _) _ _ _
  rw [if_neg (show ¬ ((some (Value.ref f) == some Value.none) = true) from Bool.false_ne_true)]
  refine wpAny_bind (own_unless (vs := [x]) O hr hfr I ea (.cons r .nil) h fun w' s' hz => ?_)
  obtain ⟨v, H', I', rv, b, rfl, q⟩ := hz
  cases rv
  exact wpAny_truthy_bool (hR b H' s' I' q)
theorem op_in_own (O : Own X.prog X.w X.K X.mg X.base k C "__contains__" ps sp) (hr : Room k X.A) : OpR X (compareOp .In) (rOwnIn C sp false) := by
  intro pins s σ H x y v u Q I rx ry h
  obtain ⟨a, dx, fs, rfl, ea, q⟩ := h
  cases ry
  show wpAny _ _ (contains (.ref a) v >>= fun z => pure (Value.bool z)) _ _ _
  exact wpAny_bind (contains_own O hr rfl I ea rx q fun b H' s' I' z => wpAny_pure ⟨.bl b, H', I', rfl, z⟩)
theorem op_notin_own (O : Own X.prog X.w X.K X.mg X.base k C "__contains__" ps sp) (hr : Room k X.A) : OpR X (compareOp .NotIn) (rOwnIn C sp true) := by
  intro pins s σ H x y v u Q I rx ry h
  obtain ⟨a, dx, fs, rfl, ea, q⟩ := h
  cases ry
  show wpAny _ _ (contains (.ref a) v >>= fun z => pure (Value.bool (!z))) _ _ _
  exact wpAny_bind (contains_own O hr rfl I ea rx q fun b H' s' I' z => wpAny_pure ⟨.bl (!b), H', I', rfl, z⟩)
/-- truth by an own __bool__ -/
theorem truthy_own {R : Bool → Shared → Prop} {Qb : Bool → Hp → Prop} (O : Own X.prog X.w X.K X.mg X.base k C "__bool__" ps sp) (hr : Room k A) (hfr : A.frames = X.A.frames) (I : Inv X pins σ H s) (ea : H a = some (.ins C dx fs))
    (h : sp [.ref a] H (fun v H' => ∃ b, v = .bl b ∧ Qb b H') E0) (hR : ∀ b H' s', Inv X pins σ H' s' → Qb b H' → R b s') : wpAny (model X.prog X.w) A (truthy (.ref a)) R E' s := by
  unfold truthy
  refine wpAny_bind (own_special (vs := []) (args := []) O hr hfr I ea .nil h fun w' s' hz => ?_)
  obtain ⟨v, H', I', rv, b, rfl, q⟩ := hz
  cases rv
  exact wpAny_pure (hR b H' s' I' q)
def rOwnTr (C : Addr) (sp : Sp) : V → Hp → (Bool → Hp → Prop) → Prop := fun x H Q => ∃ (a dx : Addr) (fs : List (Str × V)), x = .ref a ∧ H a = some (.ins C dx fs) ∧ sp [.ref a] H (fun v H' => ∃ b, v = .bl b ∧ Q b H') E0
/-- not o -/
theorem un_not_own (O : Own X.prog X.w X.K X.mg X.base k C "__bool__" ps sp) (hr : Room k X.A) : UnR X (unaryOp .Not) (fun x H Q => rOwnTr C sp x H fun b H' => Q (.bl (!b)) H') := by
  intro pins s σ H x v Q I rx h
  obtain ⟨a, dx, fs, rfl, ea, q⟩ := h
  cases rx
  unfold unaryOp
  refine wpAny_holding ?_
  show wpAny _ _ (truthy (.ref a) >>= fun z => pure (Value.bool (!z))) _ _ _
  exact wpAny_bind (truthy_own O hr rfl I ea q fun b H' s' I' z => wpAny_pure ⟨.bl (!b), H', I', rfl, z⟩)
theorem mono_truthy {M : Model} {E1 : Value → Shared → Prop} {x : Value} {R R' : Bool → Shared → Prop} (h : wpAny M A (truthy x) R E1 s) (hR : ∀ b s', R b s' → R' b s') : wpAny M A (truthy x) R' E1 s := wpAny_mono h (fun b s' z => hR b s' z) fun _ _ z => z
theorem bool_new_in (prog : Program) (w : World) (a : Addr) : MeetsIn prog w (Builtin.«bool.__new__» ⟨[.type "bool", .ref a], []⟩)
    (fun A R s => wpAny (model prog w) A.in1 (truthy (.ref a)) (fun b s' => R (.ok (.ret (.bool b))) s') (fun e s' => R (.error e) s') s) :=
  MeetsIn.of_wp fun A R s hs => by
    have f1 := F.conv_sub_bool
    repeat (any_goals (first | (with_reducible refine mono_truthy hs fun b s' hz => ?_) | wp_step))
    all_goals first | exact ⟨_, rfl, by assumption⟩ | skip
/-- bool(o) -/
theorem call_bool_own (O : Own X.prog X.w X.K X.mg X.base k C "__bool__" ps sp) (hr : Room (k + 2) X.A) : CallR X (.type "bool") (fun xs H Q => ∃ x, xs = [x] ∧ rOwnTr C sp x H fun b H' => Q (.bl b) H') := by
  intro pins s σ H xs us Q I r h
  obtain ⟨x, rfl, a, dx, fs, rfl, ea, q⟩ := h
  obtain rfl := Vals.ref1 r
  refine callType_newIn F.called_bool F.newNe_bool (F.typeCall_bool_1 _) (F.newCall_bool_1 _) (fun obj => F.args_object_init_2 obj _) F.entry_bool_new (bool_new_in X.prog X.w a) ?_
  exact truthy_own O hr.in1.in1 rfl I ea q fun b H' s' I' z => ⟨rfl, .bl b, H', I', rfl, z⟩
/-- C(e, ..) by a local name that holds the class -/
def tMakeL (i : Nat) (C : Addr) (sp : Sp) (t : TA) : TE := fun σ H Q => σ[i]? = some (some (.ref C)) ∧ tMake C sp [] E0 t σ H Q
theorem pe_makeL {f : Addr} {fd : FuncData} {i : Nat} {x : Str} {p pos : Pos} {e : Expr} {es : List Expr} {t : TA} (M : Mk X.K C f) (F : FnOk X.prog X.w X.K X.mg X.base CX0 k f fd ps sp) (hr : Room (k + 1) X.A) (hb : Binds X.K fd ps []) (ha : PA X (e :: es) t)
    (hN : X.N[i]? = some x := by rfl) (hv : Vis X.env.scope x := by first | exact Or.inl rfl | exact Or.inr (Or.inl rfl) | exact Or.inr (Or.inr rfl))
    (hdb : (x == ("__debug__" : Str)) = false := by decide) (hcd : (x == ("__classdict__" : Str)) = false := by decide)
    (hst : starEach (e :: es) X.env = (false, eval e X.env) :: starEach es X.env := by rfl) (hpl : (backTo pos (starEach es X.env)).any (·.1) = false := by rfl) : PE X (.Call (.Name x p) (e :: es) [] pos) (tMakeL i C sp t) := by
  refine ⟨fun pins s σ H Q I h => ?_⟩
  obtain ⟨hs, ht⟩ := h
  have hx := pe_var (X := X) (pos := p) hN hv hdb hcd
  refine wpAny_Call_Name_kw (thn (hx.run pins s σ H (fun v H1 => v = .ref C ∧ H1 = H) I ⟨.ref C, hs, rfl, rfl⟩) fun u s1 ⟨v, H1, I1, r1, q1⟩ => ?_)
  obtain ⟨rfl, rfl⟩ := q1
  cases r1
  exact PySem.W.callWith_K (h₀ := X.base) I.ok.mod.kin M.kp (thn (ha.run pos pins s1 σ _ _ I1 ht) fun us s2 ⟨vs, H2, I2, r, q⟩ => ⟨I2.kIn, run_make M F hr hb .nil pass0 I2 r q⟩) hst hpl
end
end Ef
set_option Elab.async false
set_option linter.all false
set_option maxRecDepth 100000
set_option maxHeartbeats 2000000
/-! | & - ^ and ~ by a class's own methods -/
namespace Ef
open PySem PySem.Spec PyProof.Rows L2
/-- the class at C has its own method m, which may raise -/
structure OwnG (P : Program) (w : World) (K : PySem.W.Frag) (mg : Str → Option Value) (base : Heap) (CXg : CXT) (k : Nat) (C : Addr) (m : Str) (ps : List Str) (sp : Sp) : Prop where
  ex : ∃ f fd, PySem.W.findIn K (.ref C) m = some (some (.ref f)) ∧ PySem.W.typeIn K (.ref f) = some (.type "function") ∧ Binds K fd ps [] ∧ FnOk P w K mg base CXg k f fd ps sp
/-- the class stands first among those that it looks names up in -/
def hdIn (K : PySem.W.Frag) (C : Addr) : Bool := match PySem.W.clsIn K C with
  | some cd => cd.mro.head? == some (.ref C)
  | none => false
section
variable {X : Cx} {pins : List (Addr × Obj)} {σ : L2.St} {H : Hp} {s : Shared} {Q : VK} {k : Nat} {C a dx : Addr} {fs : List (Str × V)} {m : Str} {ps : List Str} {sp : Sp} {A : Around} {E' : Value → Shared → Prop} {CXg : CXT} {E : XK}
theorem anyM_first {α : Type} {M : Model} {h : Heap} {f : α → Sem Bool} {x : α} {xs : List α} (hf : PySem.W.Looks M h (f x) true) : PySem.W.Looks M h ((x :: xs).anyM f) true := fun A Q E s e q => by
  show wpAny _ _ (f x >>= fun b => _) _ _ _
  exact wpAny_bind (hf A _ E s e (wpAny_pure q))
theorem looks_fills {K : PySem.W.Frag} {M : Model} {h : Heap} {nm : String} {f : Addr} (x : K.In h) (hd : hdIn K C = true) (hf : PySem.W.findIn K (.ref C) (dunder nm) = some (some (.ref f))) : PySem.W.Looks M h (fillsNumberSlot (.ref C) nm) true := by
  unfold hdIn at hd
  cases hc : PySem.W.clsIn K C with
  | none => rw [hc] at hd; cases hd
  | some cd =>
    rw [hc] at hd
    have hm : PySem.W.Looks M h (mroOf (.ref C)) cd.mro := (PySem.W.looks_clsIn x hc).andThen .now
    have hh : cd.mro.head? = some (.ref C) := by simpa using hd
    cases hl : cd.mro with
    | nil => rw [hl] at hh; cases hh
    | cons c r =>
      rw [hl] at hh hm
      have hc2 : c = .ref C := Option.some.inj hh
      subst hc2
      unfold fillsNumberSlot
      dsimp only
      refine hm.andThen (anyM_first ?_)
      dsimp only
      refine anyM_first ?_
      refine (PySem.W.looks_findIn x hf).andThen ?_
      dsimp only
      exact PySem.W.Looks.now
/-- a op b of two instances by the left one's own method: what it gives is an instance again -/
def rOwnBin (C : Addr) (sp : Sp) (E : XK) : R2 := fun x y H Q => ∃ (a dx b dy : Addr) (fs gs : List (Str × V)), x = .ref a ∧ y = .ref b ∧ H a = some (.ins C dx fs) ∧ H b = some (.ins C dy gs) ∧ sp [.ref a, .ref b] H (fun v H' => (∃ p, v = .ref p) ∧ Q v H') E
theorem op_bin_own {op : Operator} {sym nm : String} {f : Str} (hop : op.info = (sym, nm)) (hn : dunder nm = f) (O : OwnG X.prog X.w X.K X.mg X.base CXg k C f ps sp) (hd : hdIn X.K C = true) (hr : Room k X.A) (hx : Passes CXg X E) : OpR X (binaryOp op) (rOwnBin C sp E) := by
  intro pins s σ H x y v u Q I rx ry h
  obtain ⟨a, dx, b, dy, fs, gs, rfl, rfl, ea, eb, q⟩ := h
  cases rx
  cases ry
  subst hn
  obtain ⟨f, fd, hf, ht, hb, F⟩ := O.ex
  obtain ⟨mA, OM, _⟩ := ins_get I.hok ea
  obtain ⟨od, J, _⟩ := OM.look
  obtain ⟨mB, OMb, _⟩ := ins_get I.hok eb
  obtain ⟨odb, Jb, _⟩ := OMb.look
  have fin : wpAny (model X.prog X.w) X.A (tryMethod (.ref a) (dunder nm) (.ref b)) (fun o s' => ∃ p, o = some (.ref p) ∧ EP X pins σ Q (.ref p) s') X.xe s := by
    unfold tryMethod
    refine wpAny_bind (PySem.W.special_fn I.kIn J hf ht ?_)
    refine wpAny_mono (run_fn (us := [.ref a, .ref b]) (vs := [.ref a, .ref b]) F hr hb .nil hx I (.cons rfl (.cons rfl .nil)) q) (fun u s' hz => ?_) fun _ _ z => z
    obtain ⟨v, H', I', rv, ⟨p, rfl⟩, q'⟩ := hz
    obtain rfl : u = Value.ref p := rv
    exact wpAny_pure ⟨p, rfl, .ref p, H', I', rfl, q'⟩
  unfold binaryOp
  refine wpAny_holding ?_
  rw [hop]
  dsimp only
  refine wpAny_bind ?_
  unfold binaryOp1
  dsimp only
  refine wpAny_bind (J.type.here (wpAny_bind (Jb.type.here (wpAny_bind ((looks_fills I.kIn hd hf).here ?_)))))
  rw [if_pos (by simp)]
  refine wpAny_bind (wpAny_pure ?_)
  simp only [Bool.and_false, Bool.false_and, Bool.true_and, Bool.false_eq_true, if_false, if_true, ite_false, ite_true, pure_bind, bind_pure_comp]
  refine wpAny_bind (wpAny_mono fin (fun o s' ⟨p, e, z⟩ => ?_) fun _ _ z => z)
  subst e
  exact wpAny_pure (wpAny_pure z)
/-- ~o by an own __invert__ that gives an instance -/
def rOwnUn (C : Addr) (sp : Sp) (E : XK) : V → Hp → VK → Prop := fun x H Q => ∃ (a dx : Addr) (fs : List (Str × V)), x = .ref a ∧ H a = some (.ins C dx fs) ∧ sp [.ref a] H Q E
theorem un_inv_own (O : OwnG X.prog X.w X.K X.mg X.base CXg k C "__invert__" ps sp) (hr : Room k X.A) (hx : Passes CXg X E) : UnR X (unaryOp .Invert) (rOwnUn C sp E) := by
  intro pins s σ H x v Q I rx h
  obtain ⟨a, dx, fs, rfl, ea, q⟩ := h
  cases rx
  obtain ⟨f, fd, hf, ht, hb, F⟩ := O.ex
  obtain ⟨mA, OM, _⟩ := ins_get I.hok ea
  obtain ⟨od, J, _⟩ := OM.look
  unfold unaryOp
  refine wpAny_holding ?_
  dsimp only
  rw [if_neg (by decide)]
  refine wpAny_bind (PySem.W.special_fn I.kIn J hf ht ?_)
  refine wpAny_mono (run_fn (us := [.ref a]) (vs := [.ref a]) F hr hb .nil hx I (.cons rfl .nil) q) (fun u s' hz => ?_) fun _ _ z => z
  exact wpAny_pure hz
theorem un_neg_own (O : OwnG X.prog X.w X.K X.mg X.base CXg k C "__neg__" ps sp) (hr : Room k X.A) (hx : Passes CXg X E) : UnR X (unaryOp .USub) (rOwnUn C sp E) := by
  intro pins s σ H x v Q I rx h
  obtain ⟨a, dx, fs, rfl, ea, q⟩ := h
  cases rx
  obtain ⟨f, fd, hf, ht, hb, F⟩ := O.ex
  obtain ⟨mA, OM, _⟩ := ins_get I.hok ea
  obtain ⟨od, J, _⟩ := OM.look
  unfold unaryOp
  refine wpAny_holding ?_
  dsimp only
  rw [if_neg (by decide)]
  refine wpAny_bind (PySem.W.special_fn I.kIn J hf ht ?_)
  refine wpAny_mono (run_fn (us := [.ref a]) (vs := [.ref a]) F hr hb .nil hx I (.cons rfl .nil) q) (fun u s' hz => ?_) fun _ _ z => z
  exact wpAny_pure hz
end
end Ef
set_option Elab.async false
set_option linter.all false
set_option maxRecDepth 100000
set_option maxHeartbeats 2000000
/-! comparisons by a class's own methods -/
namespace Ef
open PySem PySem.Spec PyProof.Rows L2
section
variable {X : Cx} {pins : List (Addr × Obj)} {σ : L2.St} {H : Hp} {s : Shared} {Q : VK} {k : Nat} {C a dx : Addr} {fs : List (Str × V)} {m : Str} {ps : List Str} {sp : Sp} {A : Around} {E' : Value → Shared → Prop}
/-- a slot of the class that holds a def: its call as a special one -/
theorem own_ifBoundT {args : List Value} {vs : List V} {R : Option Value → Shared → Prop} (O : Own X.prog X.w X.K X.mg X.base k C m ps sp) (hr : Room k A) (hfr : A.frames = X.A.frames) (I : Inv X pins σ H s) (ea : H a = some (.ins C dx fs)) (r : Vals vs args)
    (h : sp (.ref a :: vs) H Q E0) (hR : ∀ u s', EP X pins σ Q u s' → R (some u) s') : wpAny (model X.prog X.w) A (callSpecialIfBound? (.ref a) m args) R E' s := by
  obtain ⟨f, fd, hf, hi, ht, hk, hb, F⟩ := O.ex
  obtain ⟨mA, OM, _⟩ := ins_get I.hok ea
  obtain ⟨od, J, _⟩ := OM.look
  exact PySem.W.ifBound_K I.kIn J hf hi (wpAny_mono (run_low (us := .ref a :: args) (vs := .ref a :: vs) F hr hfr hb I (.cons rfl r) h) (fun u s' z => hR u s' z) fun _ _ z => z)
/-- what stands on the other side: of the same class, or a value of a built-in type -/
def SideT (K : PySem.W.Frag) (C : Addr) (H : Hp) (y : V) : Prop := (∃ b dx fs, y = .ref b ∧ H b = some (.ins C dx fs)) ∨ (∃ b xs, y = .ref b ∧ H b = some (.lst xs)) ∨ (∃ b xs, y = .ref b ∧ H b = some (.tup xs))
/-- its type, and whether that is below the class -/
theorem side_typeT {y : V} {u : Value} {M : Model} (I : Inv X pins σ H s) (r : RelV y u) (h : SideT X.K C H y) (hsub : (PySem.W.subIn X.K (.type "list") (.ref C) = some false ∧ PySem.W.subIn X.K (.type "tuple") (.ref C) = some false)) : ∃ t : Value, PySem.W.Looks M s.heap (typeOf u) t ∧ ((t = .ref C) ∨ ((t != .ref C) = true ∧ PySem.W.Looks M s.heap (isSubtype t (.ref C)) false)) := by
  rcases h with ⟨b, dx, fs, rfl, e⟩ | ⟨b, xs, rfl, e⟩ | ⟨b, xs, rfl, e⟩
  · cases r
    obtain ⟨mA, OM, _⟩ := ins_get I.hok e
    obtain ⟨od, J, _⟩ := OM.look
    exact ⟨.ref C, J.type, .inl rfl⟩
  · cases r
    obtain ⟨its, _, ht, _⟩ := I.list (.inl (.inl e))
    obtain ⟨o, ho, hc, _⟩ := ht.isList
    exact ⟨.type "list", fun A Q E s k q => wpAny_typeOf_ref (k b o ho) (by rw [hc]; exact q), .inr ⟨rfl, PySem.W.looks_subIn I.kIn hsub.1⟩⟩
  · cases r
    obtain ⟨_, _, _, o, ho, hc, _⟩ := (show ObjOk X.prog X.w H s.heap b (.tup xs) from I.hok b _ e)
    exact ⟨.type "tuple", fun A Q E s k q => wpAny_typeOf_ref (k b o ho) (by rw [hc]; exact q), .inr ⟨rfl, PySem.W.looks_subIn I.kIn hsub.2⟩⟩
def rOwnCmpT (C : Addr) (sp : Sp) (K : PySem.W.Frag) (neg : Bool) : R2 := fun x y H Q => ∃ (a dx : Addr) (fs : List (Str × V)), x = .ref a ∧ H a = some (.ins C dx fs) ∧ SideT K C H y ∧ sp [.ref a, y] H (fun v H' => ∃ b, v = .bl b ∧ Q (.bl (if neg = true then !b else b)) H') E0
/-- a op y by the left one's own method -/
theorem rich_ownT {op : CmpOp} {sym : String} {f r : Str} {y : V} {u : Value} {R : Value → Shared → Prop} {Qb : Bool → Hp → Prop} (hop : cmpInfo op = (sym, f, r)) (O : Own X.prog X.w X.K X.mg X.base k C f ps sp) (hr : Room k A) (hfr : A.frames = X.A.frames) (hsub : (PySem.W.subIn X.K (.type "list") (.ref C) = some false ∧ PySem.W.subIn X.K (.type "tuple") (.ref C) = some false))
    (I : Inv X pins σ H s) (ea : H a = some (.ins C dx fs)) (ry : RelV y u) (hs : SideT X.K C H y) (h : sp [.ref a, y] H (fun v H' => ∃ b, v = .bl b ∧ Qb b H') E0) (hR : ∀ b H' s', Inv X pins σ H' s' → Qb b H' → R (.bool b) s') :
    wpAny (model X.prog X.w) A (richCompare op (.ref a) u) R E' s := by
  obtain ⟨mA, OM, _⟩ := ins_get I.hok ea
  obtain ⟨od, J, _⟩ := OM.look
  obtain ⟨t, Lt, ht⟩ := side_typeT (M := model X.prog X.w) I ry hs hsub
  have fin : wpAny (model X.prog X.w) A (tryCompare (.ref a) f u) (fun o s' => ∃ b H', o = some (.bool b) ∧ Inv X pins σ H' s' ∧ Qb b H') E' s := by
    unfold tryCompare
    refine wpAny_bind (own_ifBoundT (vs := [y]) O hr hfr I ea (.cons ry .nil) h fun w' s' hz => ?_)
    obtain ⟨v, H', I', rv, b, rfl, q⟩ := hz
    cases rv
    exact wpAny_pure ⟨b, H', rfl, I', q⟩
  unfold richCompare
  refine wpAny_holding (wpAny_bind (wpAny_cRoomFor (by have := hr.un; omega) ?_))
  rw [oneThing_ref]
  dsimp only
  rw [hop]
  dsimp only
  refine wpAny_bind (J.type.here (wpAny_bind (Lt.here ?_)))
  rcases ht with rfl | ⟨hne, Ls⟩
  · rw [if_neg (by simp)]
    refine wpAny_bind (wpAny_pure ?_)
    rw [if_neg (by decide)]
    refine wpAny_bind (wpAny_mono fin (fun o s' ⟨b, H', e, I', q⟩ => ?_) fun _ _ z => z)
    subst e
    exact wpAny_pure (hR b H' s' I' q)
  · have hne' : (Value.ref C != t) = true := by
      rw [bne_iff_ne] at hne ⊢
      exact fun z => hne z.symm
    rw [if_pos hne']
    refine wpAny_bind (Ls.here ?_)
    rw [if_neg (by decide)]
    refine wpAny_bind (wpAny_mono fin (fun o s' ⟨b, H', e, I', q⟩ => ?_) fun _ _ z => z)
    subst e
    exact wpAny_pure (hR b H' s' I' q)
/-- a op b by the left one's own method -/
theorem op_ownT {op : CmpOp} {sym : String} {f r : Str} (hop : cmpInfo op = (sym, f, r)) (hc : compareOp op = richCompare op) (O : Own X.prog X.w X.K X.mg X.base k C f ps sp) (hr : Room k X.A) (hsub : (PySem.W.subIn X.K (.type "list") (.ref C) = some false ∧ PySem.W.subIn X.K (.type "tuple") (.ref C) = some false)) : OpR X (compareOp op) (rOwnCmpT C sp X.K false) := by
  intro pins s σ H x y v u Q I rx ry h
  obtain ⟨a, dx, fs, rfl, ea, hs, q⟩ := h
  cases rx
  rw [hc]
  exact rich_ownT hop O hr rfl hsub I ea ry hs q fun b H' s' I' z => ⟨.bl b, H', I', rfl, z⟩
/-- a != b by the left one's own __eq__, where the class has no own __ne__ -/
theorem try_neT {y : V} {u : Value} {Qb : Bool → Hp → Prop} (O : Own X.prog X.w X.K X.mg X.base k C "__eq__" ps sp) (hr : Room (k + 1) A) (hfr : A.frames = X.A.frames) (hne : PySem.W.findIn X.K (.ref C) "__ne__" = some (some (.builtin "object.__ne__"))) (hmro : PySem.W.mroIn X.K C (.type "object") = some true)
    (I : Inv X pins σ H s) (ea : H a = some (.ins C dx fs)) (ry : RelV y u) (h : sp [.ref a, y] H (fun v H' => ∃ b, v = .bl b ∧ Qb b H') E0) :
    wpAny (model X.prog X.w) A (tryCompare (.ref a) "__ne__" u) (fun o s' => ∃ b H', o = some (.bool (!b)) ∧ Inv X pins σ H' s' ∧ Qb b H') E' s := by
  obtain ⟨mA, OM, _⟩ := ins_get I.hok ea
  obtain ⟨od, J, _⟩ := OM.look
  have body : wpAny (model X.prog X.w) A.in1 (Builtin.«object.__ne__» ⟨[.ref a, u], []⟩) (fun fin s' => ∃ b H', fin = Fin.done (Flow.ret (.bool (!b))) ∧ Inv X pins σ H' s' ∧ Qb b H') E' s := by
    unfold Builtin.«object.__ne__»
    refine wpAny_bind ?_
    unfold slotArgs
    refine wpAny_ite_false rfl (wpAny_ite_false rfl (wpAny_pure ?_))
    refine wpAny_bind (wpAny_cRoomFor (by have := hr.in1.un; omega) ?_)
    refine wpAny_bind (own_ifBoundT (vs := [y]) O hr.in1 (hfr) I ea (.cons ry .nil) h fun w' s' hz => ?_)
    obtain ⟨v, H', I', rv, b, rfl, q⟩ := hz
    cases rv
    refine wpAny_bind (wpAny_truthy_bool ?_)
    exact wpAny_pure ⟨b, H', rfl, I', q⟩
  have cl : wpAny (model X.prog X.w) A (call (.builtin "object.__ne__") [.ref a, u]) (fun v s' => ∃ b H', v = .bool (!b) ∧ Inv X pins σ H' s' ∧ Qb b H') E' s := by
    refine wpAny_call (codeAny_call_builtin F.cmp_object.ne.plain F.cmpEntry_ne (PySem.W.check_slot F.cmpKind_ne F.cmpSplit_ne (PySem.W.Looks.andThen J.type (PySem.W.looks_mroIn I.kIn hmro)) (F.cmpArgs_ne (.ref a) u) (wpAny_mono body (fun fin s' ⟨b, H', e, I', q⟩ => ?_) fun _ _ z => z)))
    subst e
    exact ⟨b, H', rfl, I', q⟩
  unfold tryCompare callSpecialIfBound? bindSpecialIfBound?
  refine wpAny_bind (wpAny_holding (wpAny_bind (wpAny_bind (wpAny_bind (J.type.here ((PySem.W.looks_findIn I.kIn hne).here ?_))))))
  have fin : wpAny (model X.prog X.w) A (do let r ← call (.builtin "object.__ne__") [.ref a, u]; pure (some r)) (fun o s' => wpAny (model X.prog X.w) A (match o with | some Value.notImplemented => pure none | none => pure none | some v => pure (some v)) (fun o s' => ∃ b H', o = some (.bool (!b)) ∧ Inv X pins σ H' s' ∧ Qb b H') E' s') E' s := by
    refine wpAny_bind (wpAny_mono cl (fun v s' ⟨b, H', e, I', q⟩ => wpAny_pure ?_) fun _ _ z => z)
    subst e
    exact wpAny_pure ⟨b, H', rfl, I', q⟩
  refine wpAny_bind (wpAny_askSetting (wpAny_ite ?_))
  split
  · exact wpAny_bind (wpAny_of_eq (F.cmp_object.ne.bind (.ref a)) (wpAny_pure fin))
  · exact wpAny_tryCatch (wpAny_bind (wpAny_of_eq (F.cmp_object.ne.bind (.ref a)) (wpAny_pure fin)))
theorem op_ne_ownT (O : Own X.prog X.w X.K X.mg X.base k C "__eq__" ps sp) (hr : Room (k + 1) X.A) (hsub : (PySem.W.subIn X.K (.type "list") (.ref C) = some false ∧ PySem.W.subIn X.K (.type "tuple") (.ref C) = some false)) (hne : PySem.W.findIn X.K (.ref C) "__ne__" = some (some (.builtin "object.__ne__"))) (hmro : PySem.W.mroIn X.K C (.type "object") = some true) : OpR X (compareOp .NotEq) (rOwnCmpT C sp X.K true) := by
  intro pins s σ H x y v u Q I rx ry h
  obtain ⟨a, dx, fs, rfl, ea, hs, q⟩ := h
  cases rx
  show wpAny _ _ (richCompare .NotEq (.ref a) u) _ _ _
  obtain ⟨mA, OM, _⟩ := ins_get I.hok ea
  obtain ⟨od, J, _⟩ := OM.look
  obtain ⟨t, Lt, ht⟩ := side_typeT (M := model X.prog X.w) I ry hs hsub
  have fin := try_neT (E' := X.xe) O hr rfl hne hmro I ea ry q
  unfold richCompare
  refine wpAny_holding (wpAny_bind (wpAny_cRoomFor (by have := hr.un; omega) ?_))
  rw [oneThing_ref]
  dsimp only [cmpInfo]
  refine wpAny_bind (J.type.here (wpAny_bind (Lt.here ?_)))
  rcases ht with rfl | ⟨hne, Ls⟩
  · rw [if_neg (by simp)]
    refine wpAny_bind (wpAny_pure ?_)
    rw [if_neg (by decide)]
    refine wpAny_bind (wpAny_mono fin (fun o s' ⟨b, H', e, I', q⟩ => ?_) fun _ _ z => z)
    subst e
    exact wpAny_pure ⟨.bl (!b), H', I', rfl, q⟩
  · have hne' : (Value.ref C != t) = true := by
      rw [bne_iff_ne] at hne ⊢
      exact fun z => hne z.symm
    rw [if_pos hne']
    refine wpAny_bind (Ls.here ?_)
    rw [if_neg (by decide)]
    refine wpAny_bind (wpAny_mono fin (fun o s' ⟨b, H', e, I', q⟩ => ?_) fun _ _ z => z)
    subst e
    exact wpAny_pure ⟨.bl (!b), H', I', rfl, q⟩
end
end Ef
set_option Elab.async false
set_option linter.all false
namespace Ef
/-- how many n below k there are with f n -/
def cntF (f : Nat → Bool) (k : Nat) : Nat := ((List.range k).filter f).length
theorem cntF_zero (f : Nat → Bool) : cntF f 0 = 0 := rfl
theorem cntF_succ (f : Nat → Bool) (k : Nat) : cntF f (k + 1) = cntF f k + if f k = true then 1 else 0 := by
  unfold cntF
  rw [List.range_succ, List.filter_append, List.length_append]
  congr 1
  by_cases h : f k = true
  · rw [if_pos h, List.filter_cons_of_pos h]; rfl
  · rw [if_neg h, List.filter_cons_of_neg h]; rfl
theorem cntF_mono {f : Nat → Bool} {a b : Nat} (h : a ≤ b) : cntF f a ≤ cntF f b := by
  induction b with
  | zero => have : a = 0 := by omega
            rw [this]; exact Nat.le_refl _
  | succ b ih =>
    rcases Nat.lt_or_ge b a with z | z
    · have : a = b + 1 := by omega
      rw [this]; exact Nat.le_refl _
    · rw [cntF_succ]; exact Nat.le_trans (ih z) (Nat.le_add_right _ _)
theorem cntF_lt {f : Nat → Bool} {a b : Nat} (h : a < b) (ha : f a = true) : cntF f a < cntF f b := by
  have h1 := cntF_succ f a
  rw [if_pos ha] at h1
  have h2 := cntF_mono (f := f) (show a + 1 ≤ b by omega)
  omega
theorem cntF_inj {f : Nat → Bool} {a b : Nat} (ha : f a = true) (hb : f b = true) (h : cntF f a = cntF f b) : a = b := by
  rcases Nat.lt_trichotomy a b with z | z | z
  · have := cntF_lt z ha; omega
  · exact z
  · have := cntF_lt z hb; omega
/-- the members from a on, b of them looked at -/
def memL (f : Nat → Bool) (a b : Nat) : List Nat := ((List.range b).map fun i => a + i).filter f
theorem memL_append (f : Nat → Bool) (a b : Nat) : (List.range a).filter f ++ memL f a b = (List.range (a + b)).filter f := by
  unfold memL
  rw [← List.filter_append, List.range_add]
theorem memL_len (f : Nat → Bool) (a b : Nat) : cntF f (a + b) = cntF f a + (memL f a b).length := by
  unfold cntF
  rw [← memL_append, List.length_append]
/-- the k-th member of a row of places -/
theorem nth_range (f : Nat → Bool) (n : Nat) : ∀ (k j : Nat), ((List.range n).filter f)[k]? = some j → j < n ∧ f j = true ∧ cntF f j = k := by
  induction n with
  | zero => intro k j h; cases h
  | succ n ih =>
    intro k j h
    rw [List.range_succ, List.filter_append] at h
    rcases Nat.lt_or_ge k (cntF f n) with z | z
    · rw [List.getElem?_append_left z] at h
      obtain ⟨a, b, c⟩ := ih k j h
      exact ⟨by omega, b, c⟩
    · rw [List.getElem?_append_right z] at h
      by_cases hf : f n = true
      · rw [List.filter_cons_of_pos hf] at h
        cases hk : k - ((List.range n).filter f).length with
        | zero =>
          rw [hk] at h
          injection h with h
          rw [← h]
          refine ⟨by omega, hf, ?_⟩
          have : cntF f n = ((List.range n).filter f).length := rfl
          omega
        | succ i => rw [hk] at h; cases h
      · rw [List.filter_cons_of_neg hf] at h
        cases h
theorem nth_mem {f : Nat → Bool} {a b k j : Nat} (h : (memL f a b)[k]? = some j) : a ≤ j ∧ j < a + b ∧ f j = true ∧ cntF f j = cntF f a + k := by
  have h2 : ((List.range (a + b)).filter f)[cntF f a + k]? = some j := by
    rw [← memL_append, List.getElem?_append_right (show ((List.range a).filter f).length ≤ cntF f a + k from Nat.le_add_right _ _), show cntF f a + k - ((List.range a).filter f).length = k from Nat.add_sub_cancel_left _ _]
    exact h
  obtain ⟨h3, h4, h5⟩ := nth_range f (a + b) _ _ h2
  refine ⟨?_, h3, h4, h5⟩
  have hm := List.mem_of_getElem? h
  unfold memL at hm
  rw [List.mem_filter, List.mem_map] at hm
  obtain ⟨⟨i, _, e⟩, _⟩ := hm
  omega
/-- f comes round by m from s on -/
def RoundF (f : Nat → Bool) (s m : Nat) : Prop := ∀ n, s ≤ n → f (n + m) = f n
theorem RoundF.mul {f : Nat → Bool} {s m : Nat} (h : RoundF f s m) (n q : Nat) (hn : s ≤ n) : f (n + q * m) = f n := by
  induction q with
  | zero => rw [Nat.zero_mul]; rfl
  | succ q ih => rw [Nat.succ_mul, ← Nat.add_assoc, h _ (by omega), ih]
theorem cntF_round {f : Nat → Bool} {s m : Nat} (h : RoundF f s m) : ∀ d, cntF f (s + d + m) = cntF f (s + d) + (memL f s m).length := by
  intro d
  induction d with
  | zero => exact memL_len f s m
  | succ d ih =>
    rw [show s + (d + 1) + m = (s + d + m) + 1 by omega, cntF_succ, ih, h _ (by omega), ← Nat.add_assoc s d 1, cntF_succ]
    omega
theorem cntF_rounds {f : Nat → Bool} {s m : Nat} (h : RoundF f s m) (d q : Nat) : cntF f (s + d + q * m) = cntF f (s + d) + q * (memL f s m).length := by
  induction q with
  | zero => rw [Nat.zero_mul, Nat.zero_mul]; rfl
  | succ q ih =>
    rw [Nat.succ_mul, Nat.succ_mul, show s + d + (q * m + m) = s + (d + q * m) + m by omega, cntF_round h, show s + (d + q * m) = s + d + q * m by omega, ih]
    omega
/-- a row is parted at k by x -/
def Spl (P : List Nat) (x : Int) (k : Nat) : Prop := k ≤ P.length ∧ (∀ i p, i < k → P[i]? = some p → (p : Int) < x) ∧ ∀ i p, k ≤ i → P[i]? = some p → x ≤ (p : Int)
theorem spl_range {f : Nat → Bool} {s n : Nat} (h : n ≤ s) : Spl ((List.range s).filter f) (n : Int) (cntF f n) := by
  have hL := memL_append f n (s - n)
  rw [show n + (s - n) = s by omega] at hL
  refine ⟨cntF_mono h, fun i p hi hp => ?_, fun i p hi hp => ?_⟩
  · obtain ⟨a, b, c⟩ := nth_range f s i p hp
    rcases Nat.lt_or_ge p n with z | z
    · omega
    · have := cntF_mono (f := f) z; omega
  · obtain ⟨a, b, c⟩ := nth_range f s i p hp
    rcases Nat.lt_or_ge p n with z | z
    · have := cntF_lt (f := f) z b; omega
    · omega
theorem spl_neg {f : Nat → Bool} {s : Nat} {n : Int} (h : n ≤ 0) : Spl ((List.range s).filter f) n 0 :=
  ⟨Nat.zero_le _, fun i p hi => absurd hi (Nat.not_lt_zero i), fun i p _ _ => by omega⟩
theorem spl_mem {f : Nat → Bool} {s m r : Nat} (h : r ≤ m) : Spl (memL f s m) ((s : Int) + (r : Int)) (memL f s r).length := by
  have e1 := memL_len f s m
  have e2 := memL_len f s r
  have e3 := cntF_mono (f := f) (show s + r ≤ s + m by omega)
  refine ⟨by omega, fun i p hi hp => ?_, fun i p hi hp => ?_⟩
  · obtain ⟨a, b, c, d⟩ := nth_mem hp
    rcases Nat.lt_or_ge p (s + r) with z | z
    · omega
    · have := cntF_mono (f := f) z; omega
  · obtain ⟨a, b, c, d⟩ := nth_mem hp
    rcases Nat.lt_or_ge p (s + r) with z | z
    · have := cntF_lt (f := f) z c; omega
    · omega
theorem count_filter (f : Nat → Bool) (xs : List Nat) : (xs.map f).count true = (xs.filter f).length := by
  induction xs with
  | nil => rfl
  | cons a xs ih =>
    rw [List.map_cons, List.count_cons, ih]
    by_cases h : f a = true
    · rw [List.filter_cons_of_pos h, if_pos (by rw [h]; rfl)]; rfl
    · rw [List.filter_cons_of_neg h, if_neg (by simpa using h)]; rfl
end Ef
set_option Elab.async false
set_option linter.all false
set_option maxRecDepth 100000
set_option maxHeartbeats 2000000
/-! t[::-1] of a tuple; o(..) by the class's own __call__ -/
namespace Ef
open PySem PySem.Spec PyProof.Rows L2
theorem pick_back (its : Array Value) : (List.filterMap (fun k : Nat => its[((its.size : Int) - 1 + (k : Int) * (-1)).toNat]?) (List.range its.size)).toArray = its.toList.reverse.toArray := by
  congr 1
  have e : ∀ (l : List Nat), (∀ k ∈ l, k < its.size) → List.filterMap (fun k : Nat => its[((its.size : Int) - 1 + (k : Int) * (-1)).toNat]?) l = List.filterMap (fun x : Nat => its[x]?) (l.map fun k => its.size - 1 - k) := by
    intro l hl
    induction l with
    | nil => rfl
    | cons k l ih =>
      have := hl k (List.mem_cons_self)
      have q : ((its.size : Int) - 1 + (k : Int) * (-1)).toNat = its.size - 1 - k := by omega
      rw [List.map_cons, List.filterMap_cons, List.filterMap_cons, q, ih fun k hk => hl k (List.mem_cons_of_mem _ hk)]
  rw [e _ (fun k hk => List.mem_range.mp hk), PySem.W.krv_range, List.filterMap_reverse] 
  congr 1
  exact PySem.W.krv_all its
theorem places_back (n : Nat) : Builtin.Slice.slicePlaces ((n : Int) - 1) (-1) (-1) = n := by
  unfold Builtin.Slice.slicePlaces
  rw [if_neg (by decide)]
  split
  · have : ((n : Int) - 1 - -1 - 1) / -(-1 : Int) = (n : Int) - 1 := by
      rw [Int.neg_neg, Int.ediv_one]; omega
    rw [this]; omega
  · omega
theorem sliceApplied_back {prog : Program} {w : World} {A : Around} {E : Value → Shared → Prop} {s : Shared} {sl : Addr} {vl vu vs : Value} {n : Nat} {Q : Int × Int × Nat → Shared → Prop} (hs : s.heap.IsSliceOf sl vl vu vs) (pl : IsPart vl none) (pu : IsPart vu none) (ps : IsPart vs (some (-1)))
    (h : Q ((n : Int) - 1, -1, n) s) : wpAny (model prog w) A (Builtin.Slice.sliceApplied (.ref sl) (pure ↑n)) Q E s := by
  obtain ⟨os, hos, hcs, hds⟩ := id hs
  unfold Builtin.Slice.sliceApplied
  refine wpAny_bind ?_
  unfold Builtin.Slice.sliceFields
  refine wpAny_bind (wpAny_field hos hds rfl (wpAny_bind (wpAny_field hos hds rfl (wpAny_bind (wpAny_field hos hds rfl (wpAny_pure ?_))))))
  refine wpAny_bind (HT.slicePart_ ps ?_)
  dsimp only [Option.getD]
  rw [if_neg (by decide)]
  refine wpAny_bind (HT.slicePart_ pl (wpAny_bind (HT.slicePart_ pu (wpAny_bind (wpAny_pure ?_)))))
  have e : Builtin.Slice.sliceAdjust none none (-1) (n : Int) = ((n : Int) - 1, -1) := by
    unfold Builtin.Slice.sliceAdjust
    simp
  rw [e]
  dsimp only
  rw [places_back]
  exact wpAny_pure h
theorem getItem_tuple_back {prog : Program} {w : World} {A : Around} {E : Value → Shared → Prop} {s : Shared} {t sl : Addr} {items : Array Value} {vl vu vs : Value} {Q : Value → Shared → Prop} (ht : IsTup s.heap t items) (hs : s.heap.IsSliceOf sl vl vu vs) (pl : IsPart vl none) (pu : IsPart vu none) (ps : IsPart vs (some (-1)))
    (h : Q (.ref s.heap.objs.size) { s with heap := s.heap.push { cls := .type "tuple", data := .seq items.toList.reverse.toArray } }) (hsz : items.size ≤ sizeLine) : wpAny (model prog w) A (getItem (.ref t) (.ref sl)) Q E s := by
  obtain ⟨os, hos, hcs, hds⟩ := id hs
  have hTs : s.TypeIs (.ref sl) "slice" := ⟨os, hos, hcs⟩
  unfold getItem
  refine wpAny_holding (wpAny_bind (wpAny_sequenceKey (IsTup.typeIs ht) (by decide) (wpAny_bind (wpAny_callSpecial?_slot (IsTup.typeIs ht) slot_tuple_getitem (wpAny_call_entry slot_tuple_getitem (IsTup.typeIs ht) entry_tuple_getitem ?_ (args_tuple_getitem _ _))))))
  unfold Builtin.«tuple.__getitem__»
  show wpAny _ _ (Builtin.Tuple.tupleItemsOf (.ref t) >>= fun xs => _) _ _ _
  refine wpAny_bind (tupleItemsOf_ ht (wpAny_bind (wpAny_typeOf hTs ?_)))
  rw [if_pos (by decide)]
  refine wpAny_bind (sliceApplied_back (n := items.size) hs pl pu ps ?_)
  dsimp only
  rw [if_neg (by simp)]
  rw [pick_back]
  unfold Builtin.Tuple.tupleExact
  refine wpAny_bind (wpAny_newObj_type (wpAny_pure ⟨_, rfl, wpAny_pure h⟩) ?_)
  show items.toList.reverse.toArray.size ≤ sizeLine
  simpa using hsz
def tRevT (K : PySem.W.Frag) (te : TE) : TE := fun σ H Q => te σ H fun x H1 => ∃ a xs, x = .ref a ∧ SqT K H1 a xs ∧ ∀ p, H1 p = none → Q (.ref p) (upd H1 p (.tup xs.reverse))
theorem pe_revT {X : Cx} {e : Expr} {te : TE} {k : Nat} {p1 p2 p3 pos : Pos} (he : PE X e te) : PE X (e.Subscript (Expr.Slice none none (some (Expr.UnaryOp UnaryOp.USub (Expr.Constant (Const.int 1) k p1) p2)) p3) pos) (tRevT X.K te) := by
  refine ⟨fun pins s σ H Q I h => ?_⟩
  refine Subscript_ (thn (he.run pins s σ H _ I h) fun v s1 ⟨x, H1, I1, r1, a, xs, ex, hx, q⟩ => ?_)
  subst ex
  cases r1
  have hst := po_some (pe_un (X := X) (pos := p2) un_neg (pe_int (X := X) (i := 1) (j := k) (pos := p1)))
  refine wpAny_Slice (thn (po_none.run pins s1 σ H1 (fun o H2 => o = none ∧ H2 = H1) I1 ⟨rfl, rfl⟩) fun vl s2 ⟨l, H2, I2, pl, el, e2⟩ => ?_)
  subst el e2
  refine thn (po_none.run pins s2 σ _ (fun o H3 => o = none ∧ H3 = _) I2 ⟨rfl, rfl⟩) fun vu s3 ⟨u, H3, I3, pu, eu, e3⟩ => ?_
  subst eu e3
  refine thn (hst.run pins s3 σ _ (fun o H4 => o = some (-1) ∧ H4 = _) I3 ⟨1, rfl, -1, rfl, rfl, rfl⟩) fun vs s4 ⟨o, H4, I4, ps, eo, e4⟩ => ?_
  subst eo e4
  have I5 := I4.kept (t' := s4.toks) (fun b ob q => Heap.get?_push_of_some { cls := Value.type "slice", data := Data.fields #[vl, vu, vs] } q)
  obtain ⟨its, r, ht, hz⟩ := I5.tuple hx
  have hlen := r.length
  refine tail_any (IsTup.typeIs ht) slot_tuple_getitem.lookup (getItem_tuple_back ht (Heap.IsSliceOf.new s4.heap vl vu vs) pl pu ps ?_ ?_) (Eq.refl (subscripted _ false (Value.ref a) (Value.ref s4.heap.objs.size)))
  · refine ⟨.ref _, upd _ _ (.tup xs.reverse), Inv.laid I5 (fun b ob q => Heap.get?_push_of_some _ q) (Nat.le_refl _) ?_, rfl, q _ (I5.hok.fresh (Nat.le_refl _))⟩
    exact ⟨by rw [List.length_reverse]; exact hz, its.reverse, Vals.reverse r, ⟨_, Heap.get?_push_size _ rfl, rfl, 0, rfl⟩⟩
  · rw [List.size_toArray, ← hlen]; exact hz
end Ef
set_option Elab.async false
set_option linter.all false
set_option maxRecDepth 100000
set_option maxHeartbeats 2000000
/-! t[lo::k] of a tuple -/
namespace Ef
open PySem PySem.Spec PyProof.Rows L2
/-- every k-th item from lo on -/
def stride {α : Type} (xs : List α) (lo k : Nat) : List α := (List.range ((xs.length - lo - 1) / k + 1)).filterMap fun j => xs[lo + j * k]?
theorem vals_pick {xs : List V} {us : List Value} (r : Vals xs us) (f : Nat → Nat) : ∀ l : List Nat, Vals (l.filterMap fun j => xs[f j]?) (l.filterMap fun j => us[f j]?)
  | [] => .nil
  | j :: l => by
    rw [List.filterMap_cons, List.filterMap_cons]
    cases hx : xs[f j]? with
    | none =>
      have hl := r.length
      have hu : us[f j]? = none := List.getElem?_eq_none (by
        rcases Nat.lt_or_ge (f j) xs.length with z | z
        · rw [List.getElem?_eq_getElem z] at hx; cases hx
        · omega)
      rw [hu]
      exact vals_pick r f l
    | some x =>
      obtain ⟨u, hu, ru⟩ := r.get hx
      rw [hu]
      exact .cons ru (vals_pick r f l)
theorem sliceApplied_step {prog : Program} {w : World} {A : Around} {E : Value → Shared → Prop} {s : Shared} {sl : Addr} {vl vu vs : Value} {n lo k : Nat} {Q : Int × Int × Nat → Shared → Prop} (hs : s.heap.IsSliceOf sl vl vu vs) (pl : IsPart vl (some (lo : Int))) (pu : IsPart vu none) (ps : IsPart vs (some (k : Int)))
    (hk : 1 ≤ k) (hlo : lo < n) (h : Q ((lo : Int), (k : Int), (n - lo - 1) / k + 1) s) : wpAny (model prog w) A (Builtin.Slice.sliceApplied (.ref sl) (pure ↑n)) Q E s := by
  obtain ⟨os, hos, hcs, hds⟩ := id hs
  unfold Builtin.Slice.sliceApplied
  refine wpAny_bind ?_
  unfold Builtin.Slice.sliceFields
  refine wpAny_bind (wpAny_field hos hds rfl (wpAny_bind (wpAny_field hos hds rfl (wpAny_bind (wpAny_field hos hds rfl (wpAny_pure ?_))))))
  refine wpAny_bind (HT.slicePart_ ps ?_)
  dsimp only [Option.getD]
  rw [if_neg (by rw [beq_iff_eq]; omega)]
  refine wpAny_bind (HT.slicePart_ pl (wpAny_bind (HT.slicePart_ pu (wpAny_bind (wpAny_pure ?_)))))
  have e : Builtin.Slice.sliceAdjust (some (lo : Int)) none (k : Int) (n : Int) = ((lo : Int), (n : Int)) := by
    unfold Builtin.Slice.sliceAdjust
    simp only
    rw [if_neg (by omega), if_neg (by omega), if_neg (by omega), Int.min_eq_left (by omega)]
  rw [e]
  dsimp only
  have ep : Builtin.Slice.slicePlaces (lo : Int) (n : Int) (k : Int) = (n - lo - 1) / k + 1 := by
    unfold Builtin.Slice.slicePlaces
    rw [if_pos (by omega), if_pos (by omega)]
    have : ((n : Int) - (lo : Int) - 1) = ((n - lo - 1 : Nat) : Int) := by omega
    rw [this]
    exact Int.toNat_natCast ((n - lo - 1) / k + 1)
  rw [ep]
  exact wpAny_pure h
theorem getItem_tuple_step {prog : Program} {w : World} {A : Around} {E : Value → Shared → Prop} {s : Shared} {t sl : Addr} {items : Array Value} {vl vu vs : Value} {lo k : Nat} {Q : Value → Shared → Prop} (ht : IsTup s.heap t items) (hs : s.heap.IsSliceOf sl vl vu vs) (pl : IsPart vl (some (lo : Int))) (pu : IsPart vu none) (ps : IsPart vs (some (k : Int)))
    (hk : 1 ≤ k) (hlo : lo < items.size) (hsz : items.size ≤ sizeLine) (h1 : lo = 0 → k = 1 → Q (.ref t) s)
    (h2 : ¬ (lo = 0 ∧ k = 1) → Q (.ref s.heap.objs.size) { s with heap := s.heap.push { cls := .type "tuple", data := .seq (stride items.toList lo k).toArray } }) : wpAny (model prog w) A (getItem (.ref t) (.ref sl)) Q E s := by
  obtain ⟨os, hos, hcs, hds⟩ := id hs
  have hTs : s.TypeIs (.ref sl) "slice" := ⟨os, hos, hcs⟩
  unfold getItem
  refine wpAny_holding (wpAny_bind (wpAny_sequenceKey (IsTup.typeIs ht) (by decide) (wpAny_bind (wpAny_callSpecial?_slot (IsTup.typeIs ht) slot_tuple_getitem (wpAny_call_entry slot_tuple_getitem (IsTup.typeIs ht) entry_tuple_getitem ?_ (args_tuple_getitem _ _))))))
  unfold Builtin.«tuple.__getitem__»
  show wpAny _ _ (Builtin.Tuple.tupleItemsOf (.ref t) >>= fun xs => _) _ _ _
  refine wpAny_bind (tupleItemsOf_ ht (wpAny_bind (wpAny_typeOf hTs ?_)))
  rw [if_pos (by decide)]
  refine wpAny_bind (sliceApplied_step (n := items.size) (lo := lo) (k := k) hs pl pu ps hk hlo ?_)
  dsimp only
  by_cases hw : lo = 0 ∧ k = 1
  · obtain ⟨rfl, rfl⟩ := hw
    rw [if_pos (by
      have : (items.size - 0 - 1) / 1 + 1 = items.size := by omega
      rw [this]
      simp)]
    refine wpAny_bind ?_
    show wpAny _ _ (typeOf (.ref t) >>= fun T => pure (T == .type "tuple")) _ _ s
    refine wpAny_bind (wpAny_typeOf (IsTup.typeIs ht) (wpAny_pure ?_))
    rw [if_pos (by decide)]
    exact wpAny_bind (wpAny_rule (wpAny_pure ⟨_, rfl, wpAny_pure (h1 rfl rfl)⟩))
  · rw [if_neg (by
      intro z
      simp only [Bool.and_eq_true, beq_iff_eq] at z
      exact hw ⟨by omega, by omega⟩)]
    have e : (List.filterMap (fun k_1 : Nat => items[((lo : Int) + (k_1 : Int) * (k : Int)).toNat]?) (List.range ((items.size - lo - 1) / k + 1))) = stride items.toList lo k := by
      unfold stride
      rw [Array.length_toList]
      congr 1
      funext j
      have : ((lo : Int) + (j : Int) * (k : Int)).toNat = lo + j * k := by
        rw [← Int.natCast_mul, ← Int.natCast_add]
        exact Int.toNat_natCast _
      rw [this]
      simp
    rw [e]
    unfold Builtin.Tuple.tupleExact
    refine wpAny_bind (wpAny_newObj_type (wpAny_pure ⟨_, rfl, wpAny_pure (h2 hw)⟩) ?_)
    show (stride items.toList lo k).toArray.size ≤ sizeLine
    rw [List.size_toArray]
    unfold stride
    refine Nat.le_trans (List.length_filterMap_le _ _) ?_
    rw [List.length_range, Array.length_toList]
    have := Nat.div_le_self (items.size - lo - 1) k
    omega
def rStepA (K : PySem.W.Frag) (x : V) (o o' : Option Int) (H : Hp) (Q : VK) : Prop := ∃ (a : Addr) (xs : List V) (lo k : Nat), x = V.ref a ∧ o = some (lo : Int) ∧ o' = some (k : Int) ∧ SqT K H a xs ∧ lo < xs.length ∧ 1 ≤ k ∧
  (lo = 0 → k = 1 → Q (V.ref a) H) ∧ (¬ (lo = 0 ∧ k = 1) → ∀ p, H p = none → Q (V.ref p) (upd H p (.tup (stride xs lo k))))
def tStepT (K : PySem.W.Frag) (te tl tk : TE) : TE := fun σ H Q => te σ H fun x H1 => tPart tl σ H1 fun o H2 => tPart tk σ H2 fun o' H3 => rStepA K x o o' H3 Q
theorem pe_stepT {X : Cx} {e l st : Expr} {te tl tk : TE} {p3 pos : Pos} (he : PE X e te) (hl : PE X l tl) (hk : PE X st tk) : PE X (e.Subscript (Expr.Slice (some l) none (some st) p3) pos) (tStepT X.K te tl tk) := by
  refine ⟨fun pins s σ H Q I h => ?_⟩
  refine Subscript_ (thn (he.run pins s σ H _ I h) fun v s1 ⟨x, H1, I1, r1, h1⟩ => ?_)
  refine wpAny_Slice (thn ((po_some hl).run pins s1 σ H1 _ I1 h1) fun vl s2 ⟨o, H2, I2, pl, h2⟩ => ?_)
  refine thn (po_none.run pins s2 σ H2 (fun o3 H3 => o3 = none ∧ H3 = H2) I2 ⟨rfl, rfl⟩) fun vu s3 ⟨u, H3, I3, pu, eu, e3⟩ => ?_
  subst eu e3
  refine thn ((po_some hk).run pins s3 σ _ _ I3 h2) fun vs s4 ⟨o', H4, I4, ps, a, xs, lo, k, ex, eo, eo', hx, hlo, hk1, q1, q2⟩ => ?_
  subst ex eo eo'
  cases r1
  have I5 := I4.kept (t' := s4.toks) (fun b ob q => Heap.get?_push_of_some { cls := Value.type "slice", data := Data.fields #[vl, vu, vs] } q)
  obtain ⟨its, r, ht, hz⟩ := I5.tuple hx
  have hlen := r.length
  refine tail_any (IsTup.typeIs ht) slot_tuple_getitem.lookup (getItem_tuple_step ht (Heap.IsSliceOf.new s4.heap vl vu vs) pl pu ps hk1 (by rw [List.size_toArray]; omega) ?_ (fun e1 e2 => ?_) (fun hn => ?_)) (Eq.refl (subscripted _ false (Value.ref a) (Value.ref s4.heap.objs.size)))
  · rw [List.size_toArray, ← hlen]; exact hz
  · exact ⟨.ref a, _, I5, rfl, q1 e1 e2⟩
  · refine ⟨.ref _, upd _ _ (.tup (stride xs lo k)), Inv.laid I5 (fun b ob q => Heap.get?_push_of_some _ q) (Nat.le_refl _) ?_, rfl, q2 hn _ (I5.hok.fresh (Nat.le_refl _))⟩
    refine ⟨?_, stride its lo k, ?_, ⟨_, Heap.get?_push_size _ rfl, rfl, 0, ?_⟩⟩
    · unfold stride
      refine Nat.le_trans (List.length_filterMap_le _ _) ?_
      rw [List.length_range]
      have := Nat.div_le_self (xs.length - lo - 1) k
      omega
    · unfold stride
      rw [← hlen]
      exact vals_pick r (fun j => lo + j * k) _
    · rfl
end Ef
set_option Elab.async false
set_option linter.all false
/-! numbers with two rests; every d-th truth of a round -/
namespace Ef
theorem bez (a b : Nat) : ∃ x y : Int, (a : Int) * x + (b : Int) * y = (Nat.gcd a b : Nat) := by
  induction a, b using Nat.gcd.induction with
  | H0 n => exact ⟨0, 1, by rw [Int.mul_zero, Int.zero_add, Int.mul_one, Nat.gcd_zero_left]⟩
  | H1 m n hm ih =>
    obtain ⟨x, y, h⟩ := ih
    refine ⟨y - (n / m : Nat) * x, x, ?_⟩
    rw [Nat.gcd_rec, ← h]
    have e : (n : Int) = (n % m : Nat) + (m : Int) * (n / m : Nat) := by
      rw [← Int.natCast_mul, ← Int.natCast_add, Nat.mod_add_div]
    have e2 : (n : Int) * x = (n % m : Nat) * x + (m : Int) * ((n / m : Nat) * x) := by
      conv => lhs; rw [e]
      rw [Int.add_mul, Int.mul_assoc]
    rw [Int.mul_sub, e2]
    omega
/-- a number from t on with the rests of i by m and of j by k -/
theorem crt {m k i j : Nat} (hm : 1 ≤ m) (hk : 1 ≤ k) (h : i % Nat.gcd m k = j % Nat.gcd m k) (t : Nat) : ∃ n, t ≤ n ∧ n % m = i % m ∧ n % k = j % k := by
  obtain ⟨x, y, hxy⟩ := bez m k
  generalize hd : Nat.gcd m k = d at h hxy
  obtain ⟨c, hc⟩ : ∃ c : Int, (j : Int) - (i : Int) = d * c := by
    have := Int.emod_emod_of_dvd
    have h1 : ((j : Int) - (i : Int)) % (d : Int) = 0 := by
      rw [Int.sub_emod, ← Int.natCast_emod, ← Int.natCast_emod, h, Int.sub_self]
      exact Int.zero_emod _
    obtain ⟨c, hc⟩ := Int.dvd_of_emod_eq_zero h1
    exact ⟨c, hc⟩
  -- n0 = i + m x c, then enough rounds
  have e1 : (i : Int) + m * (x * c) = j - k * (y * c) := by
    have : (m : Int) * (x * c) + k * (y * c) = d * c := by
      rw [← Int.mul_assoc, ← Int.mul_assoc, ← Int.add_mul, hxy]
    omega
  obtain ⟨z, hz⟩ : ∃ z : Int, (i : Int) + m * (x * c) = z := ⟨_, rfl⟩
  obtain ⟨q, hq⟩ : ∃ q : Nat, (t : Int) ≤ z + (m : Int) * k * q ∧ 0 ≤ z + (m : Int) * k * q := by
    refine ⟨t + z.natAbs, ?_⟩
    have h1 : (1 : Int) ≤ (m : Int) * k := by
      rw [← Int.natCast_mul]
      exact Int.ofNat_le.mpr (Nat.mul_pos hm hk)
    have h2 : ((t + z.natAbs : Nat) : Int) ≤ (m : Int) * k * (t + z.natAbs : Nat) := by
      have := Int.mul_le_mul_of_nonneg_right h1 (Int.natCast_nonneg (t + z.natAbs))
      rw [Int.one_mul] at this
      exact this
    omega
  refine ⟨(z + (m : Int) * k * q).toNat, by omega, ?_, ?_⟩
  · have e : ((z + (m : Int) * k * q).toNat : Int) = i + m * (x * c + k * q) := by
      rw [Int.toNat_of_nonneg hq.2, ← hz, Int.mul_add, Int.mul_assoc]
      omega
    have : (((z + (m : Int) * k * q).toNat % m : Nat) : Int) = ((i % m : Nat) : Int) := by
      rw [Int.natCast_emod, e, Int.add_mul_emod_self_left, ← Int.natCast_emod]
    exact Int.ofNat.inj this
  · have e : ((z + (m : Int) * k * q).toNat : Int) = j + k * (m * q - y * c) := by
      rw [Int.toNat_of_nonneg hq.2, ← hz, e1, Int.mul_sub, Int.mul_comm (m : Int) k, Int.mul_assoc]
      omega
    have : (((z + (m : Int) * k * q).toNat % k : Nat) : Int) = ((j % k : Nat) : Int) := by
      rw [Int.natCast_emod, e, Int.add_mul_emod_self_left, ← Int.natCast_emod]
    exact Int.ofNat.inj this
end Ef
set_option Elab.async false
set_option linter.all false
/-! a round turned; every d-th of a round; sets within sets -/
namespace Ef
theorem per_mod {F : Nat → Bool} {m : Nat} (h : PerF F m) (n : Nat) : F n = F (n % m) := by
  conv => lhs; rw [← Nat.mod_add_div n m]
  exact h.mul (n / m) _
theorem stride_has {R : List Bool} {g : Nat → Bool} {m r d : Nat} (hm : 1 ≤ m) (hl : R.length = m) (hR : ∀ i, i < m → R[i]? = some (g i)) (hr : r < d) (hd : d ∣ m) (b : Bool) :
    (stride R r d).contains b = true ↔ ∃ i, i < m ∧ i % d = r ∧ g i = b := by
  rw [List.contains_eq_mem, decide_eq_true_iff]
  unfold stride
  rw [List.mem_filterMap, hl]
  have hdm := Nat.le_of_dvd hm hd
  constructor
  · rintro ⟨j, _, hj⟩
    have hlt : r + j * d < m := by
      rcases Nat.lt_or_ge (r + j * d) m with z | z
      · exact z
      · rw [List.getElem?_eq_none (by omega)] at hj; cases hj
    rw [hR _ hlt] at hj
    exact ⟨_, hlt, by rw [Nat.add_mul_mod_self_right, Nat.mod_eq_of_lt hr], Option.some.inj hj⟩
  · rintro ⟨i, hi, hir, hg⟩
    have e : r + i / d * d = i := by
      have := Nat.mod_add_div i d
      rw [hir, Nat.mul_comm] at this
      exact this
    refine ⟨i / d, List.mem_range.mpr ?_, by rw [e, hR i hi, hg]⟩
    have h1 : i / d = (i - r) / d := by
      conv => lhs; rw [← e]
      conv => rhs; rw [← e]
      rw [Nat.add_sub_cancel_left, Nat.add_mul_div_right _ _ (by omega), Nat.div_eq_of_lt hr, Nat.zero_add, Nat.mul_div_cancel _ (by omega)]
    have h2 : (i - r) / d ≤ (m - r - 1) / d := Nat.div_le_div_right (by omega)
    omega
theorem within_tail {F G : Nat → Bool} {m k t : Nat} (hF : PerF F m) (hG : PerF G k) (hm : 1 ≤ m) (hk : 1 ≤ k) :
    (∀ n, t ≤ n → F n = true → G n = true) ↔ ∀ r, r < Nat.gcd m k → ¬ ((∃ i, i < m ∧ i % Nat.gcd m k = r ∧ F i = true) ∧ (∃ j, j < k ∧ j % Nat.gcd m k = r ∧ G j = false)) := by
  constructor
  · rintro h r hr ⟨⟨i, hi, hir, hFi⟩, j, hj, hjr, hGj⟩
    obtain ⟨n, hn, h1, h2⟩ := crt hm hk (i := i) (j := j) (by rw [hir, hjr]) t
    have hFn : F n = true := by rw [per_mod hF, h1, ← per_mod hF]; exact hFi
    have hGn : G n = false := by rw [per_mod hG, h2, ← per_mod hG]; exact hGj
    rw [h n hn hFn] at hGn
    cases hGn
  · intro h n hn hFn
    have hd1 := Nat.gcd_dvd_left m k
    have hd2 := Nat.gcd_dvd_right m k
    have hg : 0 < Nat.gcd m k := Nat.gcd_pos_of_pos_left k hm
    cases hGn : G n with
    | true => rfl
    | false =>
      refine absurd ⟨⟨n % m, Nat.mod_lt _ hm, Nat.mod_mod_of_dvd _ hd1, ?_⟩, n % k, Nat.mod_lt _ hk, Nat.mod_mod_of_dvd _ hd2, ?_⟩ (h (n % Nat.gcd m k) (Nat.mod_lt _ hg))
      · rw [← per_mod hF]; exact hFn
      · rw [← per_mod hG]; exact hGn
/-- the round from s on -/
def turned (rs : List Bool) (m s : Nat) : List Bool := (rs.take m).drop (s % m) ++ (rs.take m).take (s % m)
theorem turned_len {rs : List Bool} {m s : Nat} (hm : 1 ≤ m) (hr : m ≤ rs.length) : (turned rs m s).length = m := by
  have := Nat.mod_lt s (show 0 < m by omega)
  unfold turned
  have hlt : (rs.take m).length = m := by rw [List.length_take]; omega
  generalize s % m = e at this ⊢
  rw [List.length_append, List.length_drop, hlt, List.length_take, hlt, Nat.min_eq_left (by omega)]
  omega
theorem turned_get {rs : List Bool} {m s i : Nat} (hm : 1 ≤ m) (hr : m ≤ rs.length) (hp : PerF (led rs) m) (hi : i < m) : (turned rs m s)[i]? = some (led rs (s + i)) := by
  have hs := Nat.mod_lt s (show 0 < m by omega)
  have hlt : (rs.take m).length = m := by rw [List.length_take]; omega
  have g : ∀ j, j < m → (rs.take m)[j]? = some (led rs j) := fun j hj => by
    rw [List.getElem?_take, if_pos hj, led_lt (by omega)]
  unfold turned
  rcases Nat.lt_or_ge i (m - s % m) with z | z
  · have e : (s + i) % m = s % m + i := by
      rw [Nat.add_mod, Nat.mod_eq_of_lt hi]
      generalize s % m = e at hs z ⊢
      rw [Nat.mod_eq_of_lt (by omega)]
    rw [List.getElem?_append_left (by rw [List.length_drop, hlt]; exact z), List.getElem?_drop, g _ (by generalize s % m = e at hs z ⊢; omega)]
    rw [per_mod hp (s + i), e]
  · have e : (s + i) % m = i - (m - s % m) := by
      rw [Nat.add_mod, Nat.mod_eq_of_lt hi]
      generalize s % m = e at hs z ⊢
      rw [Nat.mod_eq_sub_mod (by omega), Nat.mod_eq_of_lt (by omega)]
      omega
    rw [List.getElem?_append_right (by rw [List.length_drop, hlt]; exact z), List.length_drop, hlt, List.getElem?_take, if_pos (by generalize s % m = e at hs z ⊢; omega), g _ (by generalize s % m = e at hs z ⊢; omega)]
    rw [per_mod hp (s + i), e]
/-- as many rounds as are wanted, cut -/
theorem turned_rep {rs : List Bool} {m s k late : Nat} (hm : 1 ≤ m) (hr : m ≤ rs.length) (hp : PerF (led rs) m) (hk : late ≤ m * k) : (List.replicate k (turned rs m s)).flatten.take late = (List.range late).map fun i => led rs (s + i) := by
  have hl := turned_len (s := s) hm hr
  refine List.ext_getElem? fun i => ?_
  rw [List.getElem?_take, List.getElem?_map]
  rcases Nat.lt_or_ge i late with z | z
  · rw [if_pos z, rep_get _ (by omega) k i (by rw [hl]; omega), hl, turned_get hm hr hp (Nat.mod_lt _ (by omega)), List.getElem?_range z]
    show some _ = some (led rs (s + i))
    rw [per_mod hp (s + i % m), Nat.add_mod_mod, ← per_mod hp]
  · rw [if_neg (by omega), List.getElem?_eq_none (by rw [List.length_range]; exact z)]
    rfl
end Ef
set_option Elab.async false
set_option linter.all false
set_option maxRecDepth 100000
set_option maxHeartbeats 4000000
/-! tuple * k for k from 1 on -/
namespace Ef
open PySem PySem.Spec PyProof.Rows L2
theorem tuple_mulOne (l : Addr) (items : Array Value) (n : Nat) (sl : Array (Option Value)) (dd : Option Addr) (u : Tok) :
    Meets (Builtin.«tuple.__mul__» ⟨[.ref l, .int 1 u], []⟩) (fun _ R s => s.heap.get? l = some { cls := .type "tuple", dict := dd, data := .seq items n, slots := sl } ∧ R (.ok (.ret (Value.ref l))) s) :=
  .of_wp fun prog w A R s h => by
    obtain ⟨hp, g, d, tk, os⟩ := s
    obtain ⟨hl, h⟩ := h
    have f1 := AutoSeq1.idx_int
    have c1 : (items.isEmpty || (1 : Int) == 1) = true := by
      cases items.isEmpty <;> rfl
    wp_walk using wpAny_loadPart' hl
    all_goals first
      | exact ⟨_, rfl, h⟩
      | (repeat (first
          | (refine wpAny_ite_true (decide_eq_true c1) ?_; wp_walk using wpAny_loadPart' hl)
          | (refine wpAny_ite_false (by decide) ?_; wp_walk using wpAny_loadPart' hl))
         exact ⟨_, rfl, h⟩)
/-- t * k, k from 1 on: t itself for 1 -/
def rRepA (K : PySem.W.Frag) : R2 := fun x y H Q => ∃ l k xs, x = .ref l ∧ y = .int k ∧ SqT K H l xs ∧ xs ≠ [] ∧ 1 ≤ k ∧ k ≤ 1000000 ∧ k.toNat * xs.length ≤ 10000000 ∧ (k = 1 → Q (.ref l) H) ∧ (k ≠ 1 → ∀ p, H p = none → Q (.ref p) (upd H p (.tup (List.replicate k.toNat xs).flatten)))
section
variable {X : Cx}
theorem op_repA : OpR X (binaryOp .Mult) (rRepA X.K) := by
  intro pins s σ H x y v u Q I rx ry h
  obtain ⟨l, k, xs, rfl, rfl, hT, hne, h1, h2, hz, q1, q⟩ := h
  cases rx
  obtain ⟨t, rfl⟩ := ry
  obtain ⟨its, r, ⟨⟨cls, dd, data, sl⟩, ho, hc, n, hd⟩, hs⟩ := I.tuple hT
  simp only at hc hd
  subst hc hd
  have hle : its.length = xs.length := r.length.symm
  have hn : its ≠ [] := fun e => hne (by
    rw [e] at hle
    exact List.eq_nil_of_length_eq_zero hle.symm)
  have hi : its.toArray.isEmpty = false := by
    cases its with
    | nil => exact absurd rfl hn
    | cons a b => rfl
  by_cases hk : k = 1
  · subst hk
    refine wpAny_binaryOp_repeat_ref (T := "tuple") (U := "int") (by decide) ⟨_, ho, rfl⟩ (fun s' => typeIs_int s' 1 t) noFill_tuple_mul F.fills_int_mul F.slot_int_rmul repeat_tuple F.slot_int_index.lookup
      (call_meets F.slot_int_rmul (typeIs_int s 1 t) F.entry_int_rmul (F.args_int_rmul_2 _ _) (int_rmul_tuple 1 t l its.toArray n dd sl)
        ⟨ho, rfl, ⟨_, ho, rfl⟩, call_meets F.slot_tuple_mul ⟨_, ho, rfl⟩ F.entry_tuple_mul (F.args_tuple_mul_2 _ _) (tuple_mulOne l its.toArray n sl dd t) ⟨ho, ?_⟩⟩)
    exact ⟨.ref l, H, I, rfl, q1 rfl⟩
  have hsz0 : its.toArray.size = xs.length := by rw [List.size_toArray, hle]
  have hm : ((its.toArray.size : Nat) : Int) * k ≤ 10000000 := by
    rw [hsz0]
    obtain ⟨m, rfl⟩ : ∃ m : Nat, k = (m : Int) := ⟨k.toNat, by omega⟩
    rw [← Int.natCast_mul, Nat.mul_comm]
    exact Int.ofNat_le.mpr hz
  have flen : (List.replicate k.toNat its).flatten.length ≤ sizeLine := by
    rw [PyProof.Rows.lm_len_rep_flat, hle, sizeLine_eq]
    exact Nat.le_trans hz (by decide)
  have c0 : (decide (k < -(2 ^ 63)) || decide (k ≥ 2 ^ 63)) = false := by
    rw [decide_eq_false (by omega), decide_eq_false (by omega)] <;> rfl
  have c1 : (its.toArray.isEmpty || k == 1) = false := by
    rw [hi, Bool.false_or]
    exact beq_eq_false_iff_ne.mpr hk
  have c2 : (decide (k ≤ 0) || its.toArray.isEmpty) = false := by
    rw [hi, Bool.or_false]
    exact decide_eq_false (by omega)
  have c4 : Builtin.Tuple.tupleTooMany (((its.toArray.size : Nat) : Int) * k) = false := by
    unfold Builtin.Tuple.tupleTooMany
    rw [sizeLine_eq]
    exact decide_eq_false (by omega)
  refine wpAny_binaryOp_repeat_ref (T := "tuple") (U := "int") (by decide) ⟨_, ho, rfl⟩ (fun s' => typeIs_int s' k t) noFill_tuple_mul F.fills_int_mul F.slot_int_rmul repeat_tuple F.slot_int_index.lookup
    (call_meets F.slot_int_rmul (typeIs_int s k t) F.entry_int_rmul (F.args_int_rmul_2 _ _) (int_rmul_tuple k t l its.toArray n dd sl)
      ⟨ho, rfl, ⟨_, ho, rfl⟩, call_meets F.slot_tuple_mul ⟨_, ho, rfl⟩ F.entry_tuple_mul (F.args_tuple_mul_2 _ _) (tuple_mulW l its.toArray n dd sl k t c0 c1 c2 (by omega) c4 (by rw [size_rep, List.size_toArray]; exact flen)) ⟨ho, ?_⟩⟩)
  rw [size_rep]
  refine ⟨.ref s.heap.objs.size, _, I.laid (t' := s.toks) (o := .tup (List.replicate k.toNat xs).flatten) (fun b ob q => Heap.get?_push_of_some _ q) (Nat.le_refl _) ?_, rfl, q hk _ (I.hok.fresh (Nat.le_refl _))⟩
  exact ⟨by rw [PyProof.Rows.lm_len_rep_flat, sizeLine_eq]; exact Nat.le_trans hz (by decide), _, r.rep k.toNat, IsTup.new _ _⟩
end
end Ef
set_option Elab.async false
set_option linter.all false
set_option maxRecDepth 100000
set_option maxHeartbeats 4000000
namespace Ef
open PySem PySem.Spec PyProof.Rows L2
abbrev sTo : Stmt := top 23
abbrev sWithin : Stmt := top 25
theorem same_inst {H : Hp} {x dx C : Addr} {fs : List (Str × V)} (nx : H x = none) (nd : H dx = none) : Same H (upd (upd H dx (.own x)) x (.ins C dx fs)) := fun b o e => by
  rw [upd_ne (ne_of_none e nx), upd_ne (ne_of_none e nd)]
  exact e
theorem lk_ne {f g : Str} {v : V} {fs : List (Str × V)} (h : ¬ g = f) : (putF f v fs).lookup g = fs.lookup g := by rw [lookup_putF, if_neg h]
theorem lk_eq {f : Str} {v : V} {fs : List (Str × V)} : (putF f v fs).lookup f = some v := by rw [lookup_putF, if_pos rfl]
section
variable {m s : Int} {ra ba ea la : Addr}
theorem wf_late : (wf m s ra ba ea la).lookup ("_late" : Str) = some (.ref la) := lk_eq
theorem wf_early : (wf m s ra ba ea la).lookup ("_early" : Str) = some (.ref ea) := (lk_ne (by decide +kernel)).trans lk_eq
theorem wf_below : (wf m s ra ba ea la).lookup ("below" : Str) = some (.ref ba) := (lk_ne (by decide +kernel)).trans ((lk_ne (by decide +kernel)).trans lk_eq)
theorem wf_rests : (wf m s ra ba ea la).lookup ("rests" : Str) = some (.ref ra) := (lk_ne (by decide +kernel)).trans ((lk_ne (by decide +kernel)).trans ((lk_ne (by decide +kernel)).trans lk_eq))
theorem wf_start : (wf m s ra ba ea la).lookup ("start" : Str) = some (.int s) := (lk_ne (by decide +kernel)).trans ((lk_ne (by decide +kernel)).trans ((lk_ne (by decide +kernel)).trans ((lk_ne (by decide +kernel)).trans lk_eq)))
theorem wf_period : (wf m s ra ba ea la).lookup ("period" : Str) = some (.int m) :=
  (lk_ne (by decide +kernel)).trans ((lk_ne (by decide +kernel)).trans ((lk_ne (by decide +kernel)).trans ((lk_ne (by decide +kernel)).trans ((lk_ne (by decide +kernel)).trans lk_eq))))
end
/-- what the operators ask of the class -/
def ftr (bs rs : List Bool) (n : Nat) : Bool := if n < bs.length then bs.getD n false else led rs n
theorem mtruth_ftr (bs rs : List Bool) (n : Nat) : mtruth bs rs (n : Int) = ftr bs rs n := by
  unfold mtruth ftr led
  by_cases h : n < bs.length
  · rw [if_pos h, if_pos (by omega)]; rfl
  · rw [if_neg h, if_neg (by omega), ← Int.natCast_emod]; rfl
theorem led_take {rs : List Bool} {m : Nat} (hp : PerF (led rs) m) (h1 : 1 ≤ m) (hl : m ≤ rs.length) (n : Nat) : led (rs.take m) n = led rs n := by
  rw [← led_mod hp h1 hl]
  unfold led
  rw [List.length_take, Nat.min_eq_left hl, List.getD_eq_getElem?_getD, List.getElem?_take_of_lt (Nat.mod_lt _ h1), ← List.getD_eq_getElem?_getD]
theorem led_of_ftr {bs rs bs' rs' : List Bool} (hr : 1 ≤ rs.length) (hr' : 1 ≤ rs'.length) (h : ∀ n, ftr bs rs n = ftr bs' rs' n) (n : Nat) : led rs n = led rs' n := by
  have hB : bs.length + bs'.length ≤ rs.length * (rs'.length * (bs.length + bs'.length)) := Nat.le_trans (Nat.le_mul_of_pos_left _ hr') (Nat.le_mul_of_pos_left _ hr)
  have hk := h (n + rs.length * (rs'.length * (bs.length + bs'.length)))
  unfold ftr at hk
  rw [if_neg (by omega), if_neg (by omega), (led_self rs).mul _ n] at hk
  rw [hk, Nat.mul_left_comm, (led_self rs').mul _ n]
theorem Canon.tail {bs rs : List Bool} {m s n : Nat} (h : Canon bs rs m s) (hn : s ≤ n) : ftr bs rs n = led rs n := by
  unfold ftr
  split
  · exact h.start.2.1 n hn ‹_›
  · rfl
theorem Canon.edge {bs rs : List Bool} {m s : Nat} (h : Canon bs rs m s) (hs : 0 < s) : ftr bs rs (s - 1) ≠ led rs (s - 1) := by
  have h1 := h.start.1
  unfold ftr
  rw [if_pos (by omega)]
  rcases h.start.2.2 with z | z
  · omega
  · exact z
theorem Canon.ml {bs rs : List Bool} {m s : Nat} (hr : 1 ≤ rs.length) (h : Canon bs rs m s) : m ≤ rs.length := Nat.le_of_dvd (by omega) h.dvd
theorem get_ftr {bs rs : List Bool} {i : Nat} (h : i < bs.length) : bs[i]? = some (ftr bs rs i) := by
  unfold ftr
  rw [if_pos h, List.getD_eq_getElem?_getD, List.getElem?_eq_getElem h]
  rfl
theorem StartOk.uniq {bs rs : List Bool} {s s' : Nat} (h : StartOk bs rs s) (h' : StartOk bs rs s') : s = s' := by
  obtain ⟨a1, a2, a3⟩ := h
  obtain ⟨b1, b2, b3⟩ := h'
  rcases Nat.lt_trichotomy s s' with z | z | z
  · rcases b3 with w | w
    · omega
    · exact absurd (a2 (s' - 1) (by omega) (by omega)) w
  · exact z
  · rcases a3 with w | w
    · omega
    · exact absurd (b2 (s - 1) (by omega) (by omega)) w
/-- the least data of one set are alike -/
theorem canon_ext {bs rs bs' rs' : List Bool} {m s m' s' : Nat} (hr : 1 ≤ rs.length) (hr' : 1 ≤ rs'.length) (hc : Canon bs rs m s) (hc' : Canon bs' rs' m' s') (h : ∀ n, ftr bs rs n = ftr bs' rs' n) : m = m' ∧ s = s' ∧ rs.take m = rs'.take m' ∧ bs.take s = bs'.take s' := by
  have hl := led_of_ftr hr hr' h
  have he : led rs = led rs' := funext hl
  have hm : m = m' := Nat.dvd_antisymm (hc.least m' (by rw [he]; exact hc'.per)) (hc'.least m (by rw [← he]; exact hc.per))
  subst hm
  have hs : s = s' := by
    rcases Nat.lt_trichotomy s s' with z | z | z
    · refine absurd ?_ (hc'.edge (by omega))
      rw [← h, hc.tail (by omega), hl]
    · exact z
    · refine absurd ?_ (hc.edge (by omega))
      rw [h, hc'.tail (by omega), hl]
  subst hs
  have a1 := hc.ml hr
  have a2 := hc'.ml hr'
  have b1 := hc.start.1
  have b2 := hc'.start.1
  refine ⟨rfl, rfl, List.ext_getElem? fun i => ?_, List.ext_getElem? fun i => ?_⟩
  · rcases Nat.lt_or_ge i m with z | z
    · rw [List.getElem?_take_of_lt z, List.getElem?_take_of_lt z, led_lt (by omega), led_lt (by omega), hl]
    · rw [List.getElem?_eq_none (by rw [List.length_take]; omega), List.getElem?_eq_none (by rw [List.length_take]; omega)]
  · rcases Nat.lt_or_ge i s with z | z
    · rw [List.getElem?_take_of_lt z, List.getElem?_take_of_lt z, get_ftr (rs := rs) (by omega), get_ftr (rs := rs') (by omega), h]
    · rw [List.getElem?_eq_none (by rw [List.length_take]; omega), List.getElem?_eq_none (by rw [List.length_take]; omega)]
/-- like data tell one set -/
theorem canon_fn {bs rs bs' rs' : List Bool} {m s m' s' : Nat} (hr : 1 ≤ rs.length) (hr' : 1 ≤ rs'.length) (hc : Canon bs rs m s) (hc' : Canon bs' rs' m' s') (e1 : rs.take m = rs'.take m') (e2 : bs.take s = bs'.take s') (n : Nat) : ftr bs rs n = ftr bs' rs' n := by
  have a1 := hc.ml hr
  have a2 := hc'.ml hr'
  have b1 := hc.start.1
  have b2 := hc'.start.1
  have hm : m = m' := by
    have := congrArg List.length e1
    rw [List.length_take, List.length_take] at this
    omega
  have hs : s = s' := by
    have := congrArg List.length e2
    rw [List.length_take, List.length_take] at this
    omega
  subst hm
  subst hs
  rcases Nat.lt_or_ge n s with z | z
  · have := congrArg (fun l => l[n]?) e2
    rw [List.getElem?_take_of_lt z, List.getElem?_take_of_lt z, get_ftr (rs := rs) (by omega), get_ftr (rs := rs') (by omega)] at this
    exact Option.some.inj this
  · rw [hc.tail z, hc'.tail z, ← led_take hc.per hc.m1 a1, ← led_take hc'.per hc'.m1 a2, e1]
/-- more rounds tell the same -/
theorem led_rep {rs : List Bool} (hr : 1 ≤ rs.length) {k : Nat} (hk : 1 ≤ k) (n : Nat) : led (List.replicate k rs).flatten n = led rs n := by
  have hlt : n % (rs.length * k) < rs.length * k := Nat.mod_lt _ (Nat.mul_pos hr hk)
  show (List.replicate k rs).flatten.getD (n % (List.replicate k rs).flatten.length) false = rs.getD (n % rs.length) false
  rw [rep_len, List.getD_eq_getElem?_getD, rep_get rs hr k _ hlt, Nat.mod_mul_right_mod, ← List.getD_eq_getElem?_getD]
/-- at p the set of the truths bs below and rs -/
def Whr (K : PySem.W.Frag) (C : Addr) (H : Hp) (p : Addr) (bs rs : List Bool) : Prop := 1 ≤ rs.length ∧ rs.length ≤ 720 ∧ bs.length ≤ 10000 ∧ ∃ m s, Canon bs rs m s ∧ WAt K C H p m s bs rs
theorem Whr.same {K : PySem.W.Frag} {C : Addr} {H H' : Hp} {p : Addr} {bs rs : List Bool} (h : Whr K C H p bs rs) (e : Same H H') : Whr K C H' p bs rs := by
  obtain ⟨h1, h2, h3, m, s, hc, hw⟩ := h
  exact ⟨h1, h2, h3, m, s, hc, hw.same e⟩
structure ClsQ (K : PySem.W.Frag) (mg : Str → Option Value) (C : Addr) : Prop extends ClsW K mg C where
  cc : PySem.W.findIn K (.ref C) "__class__" = some (some (.builtin "object.__class__"))
  cg : PySem.W.specialIn K (.builtin "object.__class__") "__get__" = some (some (.builtin "getset_descriptor.__get__"))
  ct : PySem.W.takesIn K (.builtin "object.__class__") = some true
  co : PySem.W.mroIn K C (.type "object") = some true
  sl : PySem.W.subIn K (.type "list") (.ref C) = some false ∧ PySem.W.subIn K (.type "tuple") (.ref C) = some false
section
variable {P : Program} {w : World} {K : PySem.W.Frag} {mg : Str → Option Value} {base : Heap}
theorem Canon.per' {bs rs : List Bool} {m s : Nat} (h : Canon bs rs m s) : PerF (led rs) m := h.per
/-- below the start, and later ones, the members themselves -/
theorem take_ftr {bs rs : List Bool} {m s k : Nat} (h : Canon bs rs m s) (hk : k ≤ s) : bs.take k = (List.range k).map (ftr bs rs) := by
  have hs := h.start.1
  refine List.ext_getElem? fun i => ?_
  rw [List.getElem?_take, List.getElem?_map]
  rcases Nat.lt_or_ge i k with z | z
  · rw [if_pos z, List.getElem?_range z, get_ftr (by omega)]; rfl
  · rw [if_neg (by omega), List.getElem?_eq_none (by rw [List.length_range]; exact z)]; rfl
theorem late_ftr {bs rs : List Bool} {m s n : Nat} (h : Canon bs rs m s) (hn : s ≤ n) : bs.take s ++ (List.range (n - s)).map (fun i => led rs (s + i)) = (List.range n).map (ftr bs rs) := by
  rw [take_ftr h (Nat.le_refl s)]
  have e : (List.range n) = List.range s ++ (List.range (n - s)).map (s + ·) := by
    rw [← List.range_add]; congr 1; omega
  rw [e, List.map_append, List.map_map]
  congr 1
  exact List.map_congr_left fun i _ => (h.tail (Nat.le_add_right s i)).symm
theorem row_get {bs rs : List Bool} {m s i : Nat} (hr : 1 ≤ rs.length) (h : Canon bs rs m s) (hi : i < m) : (rs.take m)[i]? = some (led rs i) := by
  have := h.ml hr
  rw [List.getElem?_take, if_pos hi, led_lt (by omega)]
theorem row_len {bs rs : List Bool} {m s : Nat} (hr : 1 ≤ rs.length) (h : Canon bs rs m s) : (rs.take m).length = m := by
  have := h.ml hr
  rw [List.length_take]; omega
section
variable {P : Program} {w : World} {K : PySem.W.Frag} {mg : Str → Option Value} {base : Heap}
/-- t + u of two tuples of truths -/
theorem cat_bls {H : Hp} {a b : Addr} {xs ys : List Bool} {Q : VK} (ha : SqT K H a (xs.map V.bl)) (hb : SqT K H b (ys.map V.bl)) (hl : xs.length + ys.length ≤ 1000000) (q : ∀ p H', Same H H' → SqT K H' p ((xs ++ ys).map V.bl) → Q (.ref p) H') : rCatA K (.ref a) (.ref b) H Q := by
  refine ⟨a, b, _, _, rfl, rfl, ha, hb, by rw [List.length_map, List.length_map]; exact Nat.le_trans hl (by decide), fun e => ?_, fun _ e => ?_, fun _ _ p hp => ?_⟩
  · have : xs = [] := List.map_eq_nil_iff.mp e
    subst this
    exact q b H (Same.refl H) hb
  · have : ys = [] := List.map_eq_nil_iff.mp e
    subst this
    exact q a H (Same.refl H) (by rw [List.append_nil]; exact ha)
  · rw [← List.map_append]
    exact q p _ (same_new hp) (.inl (.inl upd_same))
/-- t * k -/
theorem rep_bls {H : Hp} {a : Addr} {xs : List Bool} {k : Nat} {Q : VK} (ha : SqT K H a (xs.map V.bl)) (hx : 1 ≤ xs.length) (hk : 1 ≤ k) (hk2 : k ≤ 1000000) (hl : k * xs.length ≤ 10000000) (q : ∀ p H', Same H H' → SqT K H' p (((List.replicate k xs).flatten).map V.bl) → Q (.ref p) H') : rRepA K (.ref a) (.int (k : Int)) H Q := by
  have ef : (List.replicate k (xs.map V.bl)).flatten = ((List.replicate k xs).flatten).map V.bl := by rw [List.map_flatten, List.map_replicate]
  refine ⟨a, _, _, rfl, rfl, ha, fun e => ?_, by omega, by omega, by rw [List.length_map, Int.toNat_natCast]; exact hl, fun e => ?_, fun _ p hp => ?_⟩
  · have : xs = [] := List.map_eq_nil_iff.mp e
    rw [this] at hx
    exact absurd hx (by decide)
  · have : k = 1 := by omega
    subst this
    refine q a H (Same.refl H) ?_
    rw [← ef]
    show SqT K H a ([xs.map V.bl].flatten)
    rw [List.flatten_cons, List.flatten_nil, List.append_nil]
    exact ha
  · rw [Int.toNat_natCast, ef]
    exact q p _ (same_new hp) (.inl (.inl upd_same))
/-- t[lo::k] -/
theorem stride_map (xs : List Bool) (lo k : Nat) : stride (xs.map V.bl) lo k = (stride xs lo k).map V.bl := by
  unfold stride
  rw [List.length_map, List.map_filterMap]
  congr 1
  funext j
  rw [List.getElem?_map]
theorem stride_one {α : Type} {xs : List α} (h : 1 ≤ xs.length) : stride xs 0 1 = xs := by
  unfold stride
  have e : (xs.length - 0 - 1) / 1 + 1 = xs.length := by omega
  rw [e]
  have := PySem.W.krv_all xs.toArray
  simp only [List.size_toArray, List.getElem?_toArray] at this
  simp only [Nat.zero_add, Nat.mul_one]
  exact this
theorem step_bls {H : Hp} {a : Addr} {R : List Bool} {lo k : Nat} {Q : VK} (h : SqT K H a (R.map V.bl)) (hlo : lo < R.length) (hk : 1 ≤ k) (q : ∀ p H', Same H H' → SqT K H' p ((stride R lo k).map V.bl) → Q (.ref p) H') : rStepA K (.ref a) (some (lo : Int)) (some (k : Int)) H Q := by
  refine ⟨a, _, lo, k, rfl, rfl, rfl, h, by rw [List.length_map]; exact hlo, hk, fun e1 e2 => ?_, fun _ p hp => ?_⟩
  · subst e1 e2
    exact q a H (Same.refl H) (by rw [stride_one (by omega)]; exact h)
  · rw [stride_map]
    exact q p _ (same_new hp) (.inl (.inl upd_same))
theorem walk_zipT {a b : Addr} {xs ys : List V} {n : Nat} (hn : n = min xs.length ys.length) : Walk (RZ.ItzT K a b) n (fun H => SqT K H a xs ∧ SqT K H b ys) (YPair (fun i => xs[i]?) (fun i => ys[i]?)) := by
  subst hn
  refine ⟨fun i _ hi q => ?_, fun _ q => ⟨xs, ys, q.1, q.2, by omega⟩, fun i H v H' _ q y => ?_⟩
  · have h1 : i < xs.length := by omega
    have h2 : i < ys.length := by omega
    exact ⟨xs, ys, xs[i], ys[i], q.1, q.2, by simp [h1], by simp [h2]⟩
  · obtain ⟨T, x, z, h1, h2, h3, h4, h5⟩ := y
    exact ⟨T, x, z, h1, h2, h3, h4 xs q.1, h5 ys q.2⟩
/-! ### truths_to -/
def spTo (K : PySem.W.Frag) (C : Addr) : Sp := fun vs H Q _ => ∃ (p : Addr) (n : Nat) (bs rs : List Bool), vs = [.ref p, .int (n : Int)] ∧ Whr K C H p bs rs ∧ n ≤ 20000 ∧ ∀ t H', Same H H' → SqT K H' t (((List.range n).map (ftr bs rs)).map V.bl) → Q (.ref t) H'
theorem scTo : FnScope ["where", "size", "late", "first", "rests"] ["where", "size"] (defScope sTo) := ⟨rfl, rfl, rfl, by decide +kernel, rfl, by decide +kernel, by decide +kernel⟩
theorem df_to {C : Addr} (A : At K mg "truths_to" sTo) (CW : ClsW K mg C) : Df P w K mg base 1 "truths_to" ["where", "size"] (spTo K C) := by
  obtain ⟨f, fd, hm, F⟩ := A.ex
  refine ⟨f, fd, hm, F.kp, F.binds (fun _ _ _ _ _ _ us hl => match us, hl with | [_, _], _ => rfl), F.ok scTo (fun vs H Q E h => ?_) (fun cdv A outer s H vs Q E hr h => ?_)⟩
  · obtain ⟨p, n, bs, rs, rfl, _⟩ := h
    rfl
  · obtain ⟨p, n, bs, rs, rfl, ⟨hr1, hr7, hb1, m, st, hc, dx, ra, ba, ea, la, g1, g2, g3, g4, g5⟩, hn, q⟩ := h
    refine ⟨_, (pss_cons (ps_set (i := 2) scTo.nd rfl (.inl rfl) (pe_op op_sub (pv 1) (pe_fld (pv 0) rfl)))
      (pss_cons (ps_if (pt_cmpR op_le (pv 2) pe_int (nomark _)) (pss_one (ps_ret (pe_slice (sl_list.or sl_tupA) (pe_fld (pv 0) rfl) po_none (po_some (pv 1))))) pss_nil)
      (pss_cons (ps_set (i := 3) scTo.nd rfl (.inl rfl) (pe_op op_mod (pe_fld (pv 0) rfl) (pe_fld (pv 0) rfl)))
      (pss_cons (ps_set (i := 4) scTo.nd rfl (.inl rfl) (pe_op op_catA (pe_slice (sl_list.or sl_tupA) (pe_fld (pv 0) rfl) (po_some (pv 3)) po_none) (pe_slice (sl_list.or sl_tupA) (pe_fld (pv 0) rfl) po_none (po_some (pv 3)))))
      (pss_one (ps_ret (pe_op op_catA (pe_fld (pv 0) rfl) (pe_slice (sl_list.or sl_tupA) (pe_op op_repA (pv 4) (pe_op op_add (pe_op op_fdiv (pv 2) (pe_fld (pv 0) rfl)) pe_int)) po_none (po_some (pv 2)))))))))), ?_⟩
    have hm1 := hc.m1
    have hml := hc.ml hr1
    have hs1 := hc.start.1
    refine ⟨_, rfl, _, rfl, p, C, dx, _, _, rfl, g1, CW.cl, CW.nS, wf_start, _, _, rfl, rfl, ?_⟩
    obtain ⟨d, hd⟩ : ∃ d : Int, (n : Int) - (st : Int) = d := ⟨_, rfl⟩
    dsimp only
    rw [hd]
    refine ⟨_, rfl, _, _, rfl, rfl, _, rfl, ?_⟩
    by_cases hle : n ≤ st
    · rw [decide_eq_true (show d ≤ 0 by omega)]
      refine iteT ⟨_, rfl, p, C, dx, _, _, rfl, g1, CW.cl, CW.nB, wf_below, _, rfl, _, rfl, sl_bls (t := true) g3 (cut_hi _ _ (by rw [List.length_take]; omega)) fun t H' s1 h1 => ?_⟩
      rw [List.take_take, Nat.min_eq_left hle, take_ftr hc hle] at h1
      exact q t H' s1 h1
    rw [decide_eq_false (show ¬ d ≤ 0 by omega)]
    refine iteF ?_
    obtain ⟨late, hlate⟩ : ∃ late : Nat, n = st + late := ⟨n - st, by omega⟩
    have el : d = (late : Int) := by omega
    subst el
    -- first
    refine ⟨_, rfl, p, C, dx, _, _, rfl, g1, CW.cl, CW.nS, wf_start, _, rfl, p, C, dx, _, _, rfl, g1, CW.cl, CW.nP, wf_period, _, _, rfl, rfl, (by show (0 : Int) < (m : Int); omega), ?_⟩
    have ef : ((st : Int) % (m : Int)) = ((st % m : Nat) : Int) := rfl
    dsimp only
    rw [ef]
    have hfm : st % m < m := Nat.mod_lt _ (by omega)
    have hlr : (rs.take m).length = m := by rw [List.length_take]; omega
    -- rests
    refine ⟨_, rfl, p, C, dx, _, _, rfl, g1, CW.cl, CW.nR, wf_rests, _, rfl, _, rfl, sl_bls (t := true) g2 (cut_lo _ _ (by rw [hlr]; exact Nat.le_of_lt hfm)) fun t1 H1 s1 h1 => ?_⟩
    refine ⟨_, rfl, p, C, dx, _, _, rfl, s1 _ _ g1, CW.cl, CW.nR, wf_rests, _, rfl, _, rfl, sl_bls (t := true) (Same.tup s1 g2) (cut_hi _ _ (by rw [hlr]; exact Nat.le_of_lt hfm)) fun t2 H2 s2 h2 => ?_⟩
    refine cat_bls (Same.tup s2 h1) h2 (by rw [List.length_drop, hlr, List.length_take, hlr]; have := Nat.sub_le m (st % m); have := Nat.min_le_right (st % m) m; omega) fun t3 H3 s3 h3 => ?_
    have h3 : SqT K H3 t3 ((turned rs m st).map V.bl) := h3
    have s03 := s1.trans (s2.trans s3)
    have htl := turned_len (s := st) hm1 hml
    -- what is told
    refine ⟨_, rfl, p, C, dx, _, _, rfl, s03 _ _ g1, CW.cl, CW.nB, wf_below, _, rfl, _, rfl, _, rfl, p, C, dx, _, _, rfl, s03 _ _ g1, CW.cl, CW.nP, wf_period, _, _, rfl, rfl, ⟨by show (0 : Int) < (m : Int); omega, by show (m : Int) < 1073741824; omega⟩, _, _, rfl, rfl, ?_⟩
    have ek : ((late : Int) / (m : Int) + 1) = ((late / m + 1 : Nat) : Int) := rfl
    dsimp only
    rw [ek]
    have hdv : late / m ≤ late := Nat.div_le_self _ _
    have hdm : m * (late / m) ≤ late := Nat.mul_div_le late m
    have hrl : late ≤ m * (late / m + 1) := by
      have := Nat.div_add_mod late m
      have := Nat.mod_lt late (show 0 < m by omega)
      rw [Nat.mul_succ]
      omega
    refine rep_bls h3 (by rw [htl]; exact hm1) (Nat.succ_pos _) (by omega) (by rw [htl, Nat.mul_comm, Nat.mul_succ]; omega) fun t4 H4 s4 h4 => ?_
    refine ⟨_, rfl, _, rfl, sl_bls (t := true) h4 (cut_hi _ late (by rw [rep_len, htl]; exact hrl)) fun t5 H5 s5 h5 => ?_⟩
    rw [turned_rep hm1 hml hc.per hrl] at h5
    have s05 := s03.trans (s4.trans s5)
    refine cat_bls (Same.tup s05 g3) h5 (by rw [List.length_take, List.length_map, List.length_range]; omega) fun t6 H6 s6 h6 => ?_
    have e6 := late_ftr hc (n := n) (by omega)
    rw [show n - st = late by omega] at e6
    rw [e6] at h6
    exact q t6 H6 (s05.trans s6) h6
end
end
end Ef
set_option Elab.async false
set_option linter.all false
set_option maxRecDepth 100000
set_option maxHeartbeats 4000000
namespace Ef
open PySem PySem.Spec PyProof.Rows L2
abbrev sLe : Stmt := inClass (top 20) 12
abbrev sLt : Stmt := inClass (top 20) 13
abbrev sGe : Stmt := inClass (top 20) 14
abbrev sGt : Stmt := inClass (top 20) 15
abbrev sEq : Stmt := inClass (top 20) 4
abbrev sInv : Stmt := inClass (top 20) 11
abbrev sSince : Stmt := inClass (top 20) 2
abbrev sOf : Stmt := inClass (top 20) 1
abbrev sRest : Stmt := inClass (top 20) 3
def ofL (ms : List Int) (k : Nat) : List Bool := (List.range k).map fun n : Nat => decide ((n : Int) ∈ ms)
theorem dint' (a b : Int) : decide (V.int a = V.int b) = decide (a = b) := by
  by_cases h : a = b
  · rw [decide_eq_true h, decide_eq_true (by rw [h])]
  · rw [decide_eq_false h, decide_eq_false (fun z => h (V.int.inj z))]
def onceR (m : Nat) (r : Int) : List Bool := (List.range m).map fun k : Nat => decide ((k : Int) = r)
section
variable {P : Program} {w : World} {K : PySem.W.Frag} {mg : Str → Option Value} {base : Heap}
/-! ### ~ -/
theorem ftr_not {bs rs : List Bool} {m s : Nat} (hr : 1 ≤ rs.length) (h : Canon bs rs m s) (n : Nat) : ftr ((bs.take s).map fun b => !b) ((rs.take m).map fun b => !b) n = !ftr bs rs n := by
  have hs := h.start.1
  have hl := row_len hr h
  have hm := h.m1
  by_cases hn : n < s
  · unfold ftr
    rw [List.length_map, List.length_take, Nat.min_eq_left hs]
    rw [if_pos hn, if_pos (by omega), List.getD_eq_getElem?_getD, List.getElem?_map, List.getElem?_take, if_pos hn, List.getElem?_eq_getElem (by omega), List.getD_eq_getElem?_getD, List.getElem?_eq_getElem (by omega)]
    rfl
  · have e : led ((rs.take m).map fun b => !b) n = !led rs n := by
      rw [per_mod h.per n]
      have hlt := Nat.mod_lt n (show 0 < m by omega)
      unfold led
      rw [List.length_map, hl, List.getD_eq_getElem?_getD, List.getElem?_map, row_get hr h hlt]
      rfl
    have e2 : ftr ((bs.take s).map fun b => !b) ((rs.take m).map fun b => !b) n = led ((rs.take m).map fun b => !b) n := by
      unfold ftr
      rw [List.length_map, List.length_take, Nat.min_eq_left hs, if_neg hn]
    rw [e2, e, ← h.tail (by omega)]
def spInv (K : PySem.W.Frag) (C : Addr) : Sp := fun vs H Q _ => ∃ (p : Addr) (bs rs : List Bool), vs = [.ref p] ∧ Whr K C H p bs rs ∧ ∀ (x : Addr) (bs' rs' : List Bool) H', H x = none → Same H H' → bs'.length ≤ bs.length → rs'.length ∣ rs.length → (∀ n, ftr bs' rs' n = !ftr bs rs n) → Whr K C H' x bs' rs' → Q (.ref x) H'
theorem scInv : FnScope ["self", "a"] ["self"] (defScope sInv) := ⟨rfl, rfl, rfl, by decide +kernel, rfl, by decide +kernel, by decide +kernel⟩
theorem ok_inv {f C fI : Addr} {fd fdI : FuncData} (F : Fun K "__invert__" "Where.__invert__" sInv f fd) (CW : ClsW K mg C) (M : Mk K C fI) (FI : FnOk P w K mg base CX0 3 fI fdI ["self", "below", "rests"] (spInit K C)) (bI : Binds K fdI ["self", "below", "rests"] []) : FnOk P w K mg base CX0 5 f fd ["self"] (spInv K C) := by
  refine F.ok scInv (fun vs H Q E h => ?_) (fun cdv A outer s H vs Q E hr h => ?_)
  · obtain ⟨p, bs, rs, rfl, _⟩ := h
    rfl
  · obtain ⟨p, bs, rs, rfl, hV, q⟩ := h
    obtain ⟨hr1, hr7, hb1, m, st, hc, dx, ra, ba, ea, la, g1, g2, g3, g4, g5⟩ := id hV
    refine ⟨_, (pss_one (ps_ret (pe_make M FI (hr.mono (by decide)) (by rfl) CW.mgC bI .nil pass0 (pa_cons (pe_lc (own := [("a", 1)]) (g := gName 1) (by rfl) scInv.nd (pi_tup (pe_fld (pv 0) rfl)) (blkOk_by (own := [("a", 1)]) (N := ["self", "a"]) (sc := defScope sInv) (by decide +kernel)) (fun _ _ _ _ _ => pg_name (i := 1) scInv.nd rfl (Or.inl rfl)) (fun _ _ _ _ _ => pts_nil) (fun _ _ _ _ _ => (pe_not (pv 1)))) (pa_cons (pe_lc (own := [("a", 1)]) (g := gName 1) (by rfl) scInv.nd (pi_tup (pe_fld (pv 0) rfl)) (blkOk_by (own := [("a", 1)]) (N := ["self", "a"]) (sc := defScope sInv) (by decide +kernel)) (fun _ _ _ _ _ => pg_name (i := 1) scInv.nd rfl (Or.inl rfl)) (fun _ _ _ _ _ => pts_nil) (fun _ _ _ _ _ => (pe_not (pv 1)))) pa_nil))))), ?_⟩
    refine ⟨_, rfl, p, C, dx, _, _, rfl, g1, CW.cl, CW.nB, wf_below, ba, rfl, ⟨_, g3⟩, fun D hD => ?_⟩
    have hl1 : (bs.take st).length = st := by rw [List.length_take]; exact Nat.min_eq_left hc.start.1
    have hl2 := row_len hr1 hc
    have hml := hc.ml hr1
    have hs1 := hc.start.1
    refine lc_tup (K := K) (a := ba) (xs := (bs.take st).map V.bl) (fun i H' => Same H H' ∧ H' D = some (.lst ((((bs.take st).take i).map fun b => !b).map V.bl))) ⟨same_new hD, upd_same⟩ (fun i H' _ h => Same.tup h.1 g3) ?_ ?_
    · rintro i x H1 hi ⟨s1, hx⟩
      rw [List.getElem?_map] at hi
      obtain ⟨b, hb, rfl⟩ := Option.map_eq_some_iff.mp hi
      refine ⟨rfl, _, rfl, _, rfl, _, hx, by rw [List.length_map, List.length_map, List.length_take, hl1]; exact Nat.lt_of_le_of_lt (show min i st ≤ 10000 by omega) (by decide), same_mut s1 hD, ?_⟩
      rw [upd_same, List.take_succ, hb, Option.toList_some, List.map_append, List.map_append]
      rfl
    rintro H1 ⟨s1, hx⟩
    rw [List.length_map, List.take_length] at hx
    refine ⟨_, rfl, p, C, dx, _, _, rfl, s1 _ _ g1, CW.cl, CW.nR, wf_rests, ra, rfl, ⟨_, Same.tup s1 g2⟩, fun D2 hD2 => ?_⟩
    have hx := hx
    refine lc_tup (K := K) (a := ra) (xs := (rs.take m).map V.bl) (fun i H' => Same H1 H' ∧ H' D2 = some (.lst ((((rs.take m).take i).map fun b => !b).map V.bl))) ⟨same_new hD2, upd_same⟩ (fun i H' _ h => Same.tup h.1 (Same.tup s1 g2)) ?_ ?_
    · rintro i x H2 hi ⟨s2, hx2⟩
      rw [List.getElem?_map] at hi
      obtain ⟨b, hb, rfl⟩ := Option.map_eq_some_iff.mp hi
      refine ⟨rfl, _, rfl, _, rfl, _, hx2, by rw [List.length_map, List.length_map, List.length_take, hl2]; exact Nat.lt_of_le_of_lt (show min i m ≤ 10000 by omega) (by decide), same_mut s2 hD2, ?_⟩
      rw [upd_same, List.take_succ, hb, Option.toList_some, List.map_append, List.map_append]
      rfl
    rintro H2 ⟨s2, hx2⟩
    rw [List.length_map, List.take_length] at hx2
    intro x dx' nx ndx nex
    have q1 : 1 ≤ ((rs.take m).map fun b => !b).length := by rw [List.length_map, hl2]; exact hc.m1
    have q2 : ((rs.take m).map fun b => !b).length ≤ 720 := by rw [List.length_map, hl2]; omega
    have q3 : ((bs.take st).map fun b => !b).length ≤ 10000 := by rw [List.length_map, hl1]; omega
    refine ⟨H2, x, dx', D, D2, _, _, rfl, same_inst nx ndx, nx, upd_same, .inl (.inl (.inl (s2 _ _ hx))), .inl (.inl (.inl hx2)), q1, q2, q3, fun m' s' H' hc' sm hw => ⟨rfl, ?_⟩⟩
    exact q x _ _ H' ((s1.trans s2).free nx) ((s1.trans s2).trans sm) (by rw [List.length_map, hl1]; exact hs1) (by rw [List.length_map, hl2]; exact hc.dvd) (ftr_not hr1 hc) ⟨q1, q2, q3, m', s', hc', hw⟩
/-! ### _law_where -/
def spWhere (K : PySem.W.Frag) (C : Addr) : Sp := fun vs H Q _ => ∃ (r : Addr) (bs rs : List Bool), vs = [.ref r] ∧ Md H r bs rs ∧ 1 ≤ rs.length ∧ rs.length ≤ 720 ∧ bs.length ≤ 10000 ∧ ∀ p H', H p = none → Same H H' → Whr K C H' p bs rs → Q (.ref p) H'
theorem scWhere : FnScope ["model"] ["model"] (defScope sWhere) := ⟨rfl, rfl, rfl, by decide +kernel, rfl, by decide +kernel, by decide +kernel⟩
theorem df_where {C fI : Addr} {fdI : FuncData} (A : At K mg "_law_where" sWhere) (T : TxtP mg) (CW : ClsW K mg C) (M : Mk K C fI) (FI : FnOk P w K mg base CX0 3 fI fdI ["self", "below", "rests"] (spInit K C)) (bI : Binds K fdI ["self", "below", "rests"] []) :
    Df P w K mg base 5 "_law_where" ["model"] (spWhere K C) := by
  obtain ⟨f, fd, hm, F⟩ := A.ex
  refine ⟨f, fd, hm, F.kp, F.binds (fun _ _ _ _ _ _ us hl => match us, hl with | [_], _ => rfl), F.ok scWhere (fun vs H Q E h => ?_) (fun cdv A outer s H vs Q E hr h => ?_)⟩
  · obtain ⟨r, bs, rs, rfl, _⟩ := h
    rfl
  · obtain ⟨r, bs, rs, rfl, ⟨rb, rr, h1, h2, h3⟩, hr1, hr2, hb2, q⟩ := h
    refine ⟨_, (pss_one (ps_ret (pe_make M FI (hr.mono (by decide)) (by rfl) CW.mgC bI .nil pass0 (pa_cons (pe_callTy call_list_of (by rfl) T.list (by decide +kernel) (pa_cons (pe_ix ix_tup (pv 0) pe_int (fun _ _ => rfl)) pa_nil)) (pa_cons (pe_callTy call_list_of (by rfl) T.list (by decide +kernel) (pa_cons (pe_ix ix_tup (pv 0) pe_int (fun _ _ => rfl)) pa_nil)) pa_nil))))), ?_⟩
    refine ⟨_, rfl, r, _, 0, _, rfl, rfl, .inl (.inl h1), rfl, rb, _, rfl, .inl (.inl (.inl h2)), fun l1 hl1 => ?_⟩
    have s1 := same_new (o := .lst (bs.map V.bl)) hl1
    have e1 : (upd H l1 (.lst (bs.map V.bl))) l1 = some (.lst (bs.map V.bl)) := upd_same
    generalize upd H l1 (.lst (bs.map V.bl)) = H1 at s1 e1 ⊢
    refine ⟨_, rfl, r, _, 1, _, rfl, rfl, .inl (.inl (s1 _ _ h1)), rfl, rr, _, rfl, .inl (.inl (.inl (s1 _ _ h3))), fun l2 hl2 => ?_⟩
    have s2 := same_new (o := .lst (rs.map V.bl)) hl2
    have e2 : (upd H1 l2 (.lst (rs.map V.bl))) l2 = some (.lst (rs.map V.bl)) := upd_same
    generalize upd H1 l2 (.lst (rs.map V.bl)) = H2 at s2 e2 ⊢
    intro x dx nx ndx nex
    refine ⟨H2, x, dx, l1, l2, bs, rs, rfl, same_inst nx ndx, nx, upd_same, .inl (.inl (.inl (s2 _ _ e1))), .inl (.inl (.inl e2)), hr1, hr2, hb2, fun m s H' hc sm hw => ⟨rfl, ?_⟩⟩
    exact q x H' ((s1.trans s2).free nx) ((s1.trans s2).trans sm) ⟨hr1, hr2, hb2, m, s, hc, hw⟩
/-! ### rest -/
def spRest (K : PySem.W.Frag) (C : Addr) : Sp := fun vs H Q _ => ∃ (m r : Nat), vs = [.ref C, .int (m : Int), .int (r : Int)] ∧ m ≤ 720 ∧ r < m ∧ ∀ p H', H p = none → Same H H' → Whr K C H' p [] (onceR m r) → Q (.ref p) H'
theorem scRest : FnScope ["cls", "m", "r", "k"] ["cls", "m", "r"] (defScope sRest) := ⟨rfl, rfl, rfl, by decide +kernel, rfl, by decide +kernel, by decide +kernel⟩
theorem ok_rest {f C fI : Addr} {fd fdI : FuncData} (F : Fun K "rest" "Where.rest" sRest f fd) (T : TxtI mg) (M : Mk K C fI) (FI : FnOk P w K mg base CX0 3 fI fdI ["self", "below", "rests"] (spInit K C)) (bI : Binds K fdI ["self", "below", "rests"] [])
    (Disfrom : Df P w K mg base 2 "is_int_from" ["value", "low"] (spFrom K)) : FnOk P w K mg base CX0 5 f fd ["cls", "m", "r"] (spRest K C) := by
  refine F.ok scRest (fun vs H Q E h => ?_) (fun cdv A outer s H vs Q E hr h => ?_)
  · obtain ⟨m, r, rfl, _⟩ := h
    rfl
  · obtain ⟨m, r, rfl, hm7, hmr, q⟩ := h
    obtain ⟨tMP, eMP⟩ := T.MOST_PERIOD
    refine ⟨_, (pss_cons (ps_if (pt_not (pt_val (Disfrom.call (hr.mono (by decide)) (pa_cons (pv 1) (pa_cons pe_int pa_nil))))) (pss_one ps_never) pss_nil)
      (pss_cons (ps_if (pw_or (pt_not (pt_val (Disfrom.call (hr.mono (by decide)) (pa_cons (pv 2) (pa_cons pe_int pa_nil))))) (pw_or1 (pt_cmpR op_ge (pv 2) (pv 1) (nomark _)))).pt (pss_one ps_never) pss_nil)
      (pss_cons (ps_if (pt_cmpR op_gt (pv 1) (pe_glob (v := .int 720) rfl eMP ⟨_, rfl⟩) (nomark _)) (pss_one ps_never) pss_nil)
      (pss_one (ps_ret (pe_makeL (i := 0) M FI (hr.mono (by decide)) bI (pa_cons (pe_tup pa_nil) (pa_cons (pe_lc (own := [("k", 3)]) (g := gName 3) (by rfl) scRest.nd (pi_range1 (by rfl) T.range (pa_cons (pv 1) pa_nil)) (blkOk_by (own := [("k", 3)]) (N := ["cls", "m", "r", "k"]) (sc := defScope sRest) (by decide +kernel)) (fun _ _ _ _ _ => pg_name (i := 3) scRest.nd rfl (Or.inl rfl)) (fun _ _ _ _ _ => pts_nil) (fun _ _ _ _ _ => (pe_cmpR op_eq (pv 3) (pv 2) (nomark _)))) pa_nil)))))))), ?_⟩
    refine ⟨_, rfl, _, 1, rfl, .inl ⟨m, rfl, _, rfl, ?_⟩⟩
    rw [decide_eq_true (show (1 : Int) ≤ (m : Int) by omega)]
    refine iteF ?_
    refine ⟨_, rfl, _, 0, rfl, .inl ⟨r, rfl, _, rfl, ?_⟩⟩
    rw [decide_eq_true (show (0 : Int) ≤ (r : Int) by omega)]
    refine iteF ⟨_, rfl, _, rfl, _, _, rfl, rfl, _, rfl, ?_⟩
    rw [decide_eq_false (show ¬ (m : Int) ≤ (r : Int) by omega)]
    refine iteF ⟨_, rfl, _, _, rfl, rfl, _, rfl, ?_⟩
    rw [decide_eq_false (show ¬ (720 : Int) < (m : Int) by omega)]
    refine iteF ⟨rfl, ?_⟩
    refine ⟨by show 0 ≤ sizeLine; decide, fun t ht => ?_⟩
    have s1 := same_new (o := .tup []) ht
    have e1 : (upd H t (.tup [])) t = some (.tup (([] : List Bool).map V.bl)) := upd_same
    generalize upd H t (.tup []) = H1 at s1 e1 ⊢
    refine ⟨_, rfl, _, rfl, by omega, by omega, fun D hD => ?_⟩
    refine lc_range (lo := 0) (n := m) (fun i H' => Same H1 H' ∧ H' D = some (.lst (((List.range i).map fun k : Nat => decide ((k : Int) = (r : Int))).map V.bl))) ⟨same_new hD, upd_same⟩ ?_ ?_
    · rintro i H4 hi ⟨s4, hA⟩
      refine ⟨rfl, _, rfl, _, rfl, rfl, _, hA, by rw [List.length_map, List.length_map, List.length_range]; exact small1000' (by omega), same_mut s4 hD, ?_⟩
      rw [upd_same, List.range_succ, List.map_append, List.map_append, Int.zero_add, dint']
      rfl
    rintro H4 ⟨s4, hA⟩
    have hA : H4 D = some (.lst ((onceR m r).map V.bl)) := hA
    intro x dx nx ndx nex
    have hl : (onceR m r).length = m := by unfold onceR; rw [List.length_map, List.length_range]
    refine ⟨H4, x, dx, t, D, [], onceR m r, rfl, same_inst nx ndx, nx, upd_same, .inr (.inl (.inl (s4 _ _ e1))), .inl (.inl (.inl hA)), by omega, by omega, by decide, fun m' s H' hc sm hw => ⟨rfl, ?_⟩⟩
    exact q x H' ((s1.trans s4).free nx) ((s1.trans s4).trans sm) ⟨by omega, by omega, by decide, m', s, hc, hw⟩
end
end Ef
set_option Elab.async false
set_option linter.all false
set_option maxRecDepth 100000
/-! math.lcm of two small numbers -/
namespace Ef
open PySem PySem.Spec PyProof.Rows L2
section
variable {X : Cx}
def rLcm : List V → Hp → VK → Prop := fun vs H Q => ∃ a b : Nat, vs = [.int (a : Int), .int (b : Int)] ∧ a ≤ 1000000 ∧ b ≤ 1000000 ∧ Q (.int ((Nat.lcm a b : Nat) : Int)) H
theorem cr_lcm : CallR X (.builtin "math.lcm") rLcm := by
  intro pins s σ H vs us Q I r h
  obtain ⟨a, b, rfl, ha, hb, q⟩ := h
  obtain ⟨t, u, rfl⟩ := Vals.int2 r
  have hl : Nat.lcm a b ≤ a * b := by
    unfold Nat.lcm
    exact Nat.div_le_self _ _
  have hab : a * b ≤ 1000000 * 1000000 := Nat.mul_le_mul ha hb
  have e : ((Nat.lcm 1 (a : Int).natAbs).lcm (b : Int).natAbs) = Nat.lcm a b := by
    rw [Int.natAbs_natCast, Int.natAbs_natCast, Nat.lcm_one_left]
  refine PySem.W.mg_lcm (by rw [Int.natAbs_natCast]; exact Nat.lt_of_le_of_lt ha (by decide)) (by rw [Int.natAbs_natCast]; exact Nat.lt_of_le_of_lt hb (by decide)) ?_ ?_
  · rw [e, Int.natAbs_natCast]
    exact Nat.lt_of_le_of_lt (PySem.W.mg_log (k := 63) (Nat.lt_of_le_of_lt (Nat.le_trans hl hab) (by decide))) (by decide)
  · rw [e]
    exact ⟨.int _, H, I.tok _, ⟨_, rfl⟩, q⟩
end
end Ef
set_option Elab.async false
set_option linter.all false
set_option maxRecDepth 100000
set_option maxHeartbeats 2000000
/-! try with several clauses, each with a name -/
namespace Ef
open PySem PySem.Spec PyProof.Rows L2
abbrev AsC := Value × Nat × (Addr → Value → Option Addr → TS)
/-- the ends of a named clause: its name is gone behind it -/
def EndsAs (i : Nat) (D : Ends) : Ends := { nx := fun σ' H' => D.nx (σ'.set i none) H', rt := D.rt, bk := fun σ' H' => D.bk (σ'.set i none) H', ct := fun σ' H' => D.ct (σ'.set i none) H' }
def wAsL (K : PySem.W.Frag) (Wout : WX) (D : Ends) : List AsC → WX
  | [] => Wout
  | (c, i, ts) :: r => fun cls d σ H => ∃ b, PySem.W.exmOne K cls c = some b ∧ (b = true → ∀ a, H a = none → ts a cls d (EndsAs i D) (σ.set i (some (.ref a))) H) ∧ (b = false → wAsL K Wout D r cls d σ H)
inductive HdsAs (X : Cx) : List ExceptHandler → List AsC → Prop
  | nil : HdsAs X [] []
  | cons {x n : Str} {c : Value} {i : Nat} {ts : Addr → Value → Option Addr → TS} {b₀ : Stmt} {suite : List Stmt} {np pos' : Pos} {hds : List ExceptHandler} {l : List AsC}
      (hi : X.N[i]? = some n) (hln : X.env.kindOf n = some NameKind.local) (hc : Names X x c)
      (hsu : ∀ (a : Addr) (oe : Obj) (cls : Value) (d : Option Addr) (pn : List (Addr × Obj)), Zc cls d oe → (∃ vs, oe.data = Data.fields vs) → PSs (X.suite a ((a, oe) :: pn)) (b₀ :: suite) (ts a cls d))
      (r : HdsAs X hds l) : HdsAs X (ExceptHandler.ExceptHandler (some (Expr.Name x np)) (some n) (b₀ :: suite) pos' :: hds) ((c, i, ts) :: l)
/-- what stands when a clause is looked for -/
structure LandAs (X : Cx) (pins : List (Addr × Obj)) (σ : L2.St) (H : Hp) (sI : Shared) (B : Heap) (a : Addr) (cls : Value) (d : Option Addr) (s : Shared) : Prop where
  J : Inv X pins σ H sI
  nb : ∀ (b : Addr) (o : Obj), sI.heap.get? b = some o → ¬b ∈ frs X.stack → B.get? b = some o
  up : sI.heap.UpToSlots s.heap
  fl : PySem.HandSPX.FlyingZ B (X.env :: X.outer) a (Zc cls d) s.heap
  na : H a = none
  os : s.os = sI.os
  ag : PyProof.Rows.AllBare s.gens
theorem handle_as {X : Cx} {pins : List (Addr × Obj)} {σ : L2.St} {H : Hp} {sI : Shared} {B : Heap} {a : Addr} {cls : Value} {d : Option Addr} {D : Ends} {Wout : WX} (hs : X.stack = X.env :: X.outer) (hf : X.env.frame = some X.env.locals) (hN : X.N.Nodup) (tk : Takes X Wout) :
    ∀ {hds : List ExceptHandler} {l : List AsC}, HdsAs X hds l → ∀ {s : Shared}, LandAs X pins σ H sI B a cls d s → wAsL X.K Wout D l cls d σ H →
      wpAny (model X.prog X.w) X.A (handleBy (.ref a) X.env hds) (SP X pins D) X.xe s := by
  intro hds l hh
  induction hh with
  | nil =>
    intro s L h
    have k := id L.fl
    obtain ⟨k1, k2, k3, oe, vs, T, oT, ts', he, hz, hd, h1, hr⟩ := k
    refine wpAny_handleBy_nil ?_
    refine wpAny_bind (wpAny_field he hd h1 ?_)
    rw [if_neg (by simp)]
    refine wpAny_bind ?_
    rw [hf]
    refine PySem.HandSPX.setFlight_upZ L.fl fun h4 hh4 up4 => wpAny_throw (tk _ _ ⟨a, B, sI, pins, σ, H, cls, d, rfl, L.J, L.nb, Heap.UpToSlots.trans L.up up4, Or.inr (Or.inr (by rw [hs]; exact hh4)), L.na, L.os, L.ag, h⟩)
  | @cons x n c i ts b₀ suite np pos' hds l hi hln hc hsu r ih =>
    intro s L h
    have ok := L.J.ok
    have hloc : L2.Loc X.env.scope n := Or.inl hln
    have J3 := Inv.landed L.J L.nb L.fl.1 L.up L.os L.ag
    obtain ⟨oe3, vs3, he3, hz3, hd3⟩ := L.fl.there
    have notFr : ∀ {h' : Heap} {oe : Obj} {vs : Array Value}, h'.FunFrames B (X.env :: X.outer) → h'.get? a = some oe → oe.data = Data.fields vs → a ∉ List.filterMap (fun (x : Env) => x.frame) (X.env :: X.outer) := fun ff e dd hm => by
      obtain ⟨_, o', e', hnf⟩ := Heap.FunFrames.mem ff hm
      rw [e] at e'
      cases e'
      exact hnf _ dd
    have nfr := notFr L.fl.2.2.1 he3 hd3
    have nL : a ≠ X.env.locals := fun z => nfr (List.mem_filterMap.mpr ⟨X.env, List.mem_cons_self, by rw [hf, z]⟩)
    have nF : a ∉ X.fs := fun hm => by
      obtain ⟨e, he, q⟩ := List.mem_filterMap.mp hm
      exact nfr (List.mem_filterMap.mpr ⟨e, List.mem_cons_of_mem _ he, q⟩)
    have S3 := Inv.suite J3 he3 hd3 L.na nL nF
    obtain ⟨b, hb1, hyes, hno⟩ := h
    refine wpAny_handleBy_cons (codeAny_handlers_test ?_) (fun q => nomatch q)
    have LM : PySem.W.Looks (model X.prog X.w) s.heap (excMatches (.ref a) c) b := PySem.W.exm_one J3.kIn (fun A Q E s k q => wpAny_typeOf_ref (k a oe3 he3) (by rw [hz3.1]; exact q)) hb1
    have test : ∀ {Q E}, Q c s → wpAny (model X.prog X.w) (X.suite a ((a, oe3) :: (X.pn ++ pins))).A (eval (.Name x np) X.env) Q E s := fun {Q E} q => by
      obtain ⟨hg, hdbg, hm | ⟨hm, hv, hnn⟩⟩ := hc
      · exact ld_glob S3 hg hm q hdbg
      · exact ld_blt S3 hg hm hv q hnn hdbg
    refine test (LM.here ?_)
    cases b with
    | false => exact ih L (hno rfl)
    | true =>
      refine codeAny_handlers_suite_as (PySem.HandSPX.lands_againZ L.fl fun h4 fl4 up4 => ?_)
      have J4 := Inv.landed (s' := { s with heap := h4 }) L.J L.nb fl4.1 (Heap.UpToSlots.trans L.up up4) L.os L.ag
      obtain ⟨oe4, vs4, he4, hz4, hd4⟩ := fl4.there
      have S4 := Inv.suite J4 he4 hd4 L.na nL nF
      refine store_ok (X := X.suite a ((a, oe4) :: (X.pn ++ pins))) (pins := []) (v := .ref a) S4 hN hi hloc rfl (fun s5 S5 => wpAny_mono ((hsu a oe4 cls d (X.pn ++ pins) hz4 ⟨vs4, hd4⟩).run [] s5 (σ.set i (some (.ref a))) H (EndsAs i D) S5 (hyes rfl a L.na)) (fun f s6 hsp => ?_) fun _ _ z => False.elim z) (Or.inr hln)
      have end_ : ∀ {σ6 : L2.St} {H6 : Hp} {Q : Unit → Shared → Prop}, Inv (X.suite a ((a, oe4) :: (X.pn ++ pins))) [] σ6 H6 s6 → (∀ s7, Inv X pins (σ6.set i none) H6 s7 → Q () s7) → wpAny (model X.prog X.w) X.A (do bindName X.env n Value.none; unbindBehindTheSuite X.env n pos') Q X.xe s6 := fun S6 hq => gone_ok (Inv.unsuite S6 ok) hN hi hln hq
      cases f with
      | next => obtain ⟨σ6, H6, S6, q6⟩ := hsp; exact end_ S6 fun s7 J7 => ⟨_, _, J7, q6⟩
      | brk => obtain ⟨σ6, H6, S6, q6⟩ := hsp; exact end_ S6 fun s7 J7 => ⟨_, _, J7, q6⟩
      | cont => obtain ⟨σ6, H6, S6, q6⟩ := hsp; exact end_ S6 fun s7 J7 => ⟨_, _, J7, q6⟩
      | ret u => obtain ⟨v6, σ6, H6, S6, r6, q6⟩ := hsp; exact end_ S6 fun s7 J7 => ⟨v6, _, _, J7, r6, q6⟩
theorem ps_try_asL {X : Cx} {h₀ : ExceptHandler} {hds : List ExceptHandler} {l : List AsC} {body : List Stmt} {pos : Pos} {tb : WX → TS} {Wout : WX} (hs : X.stack = X.env :: X.outer) (hf : X.env.frame = some X.env.locals) (hN : X.N.Nodup) (tk : Takes X Wout)
    (hb : ∀ (W : WX) (pn : List (Addr × Obj)) (xe : Value → Shared → Prop), Takes (X.tr pn xe) W → PassesOwn (model X.prog X.w) X.A X.env xe → PSs (X.tr pn xe) body (tb W)) (hh : HdsAs X (h₀ :: hds) l) :
    PS X (.Try body (h₀ :: hds) [] [] pos) fun D σ H => tb (wAsL X.K Wout D l) D σ H := by
  refine ⟨fun pins s σ H D I h => ?_⟩
  have ok := I.ok
  have hfr : X.A.frames = some (X.env :: X.outer) := by rw [ok.frames, hs]
  refine wpAny_Try_except (wpAny_mono ((hb (wAsL X.K Wout D l) (X.pn ++ pins) _ (fun u s' xx => ?_) PassesOwn.looking).run [] s σ H D (Inv.toTry I _) h) (fun f s1 hsp => ?_) fun e s1 he => he)
  · obtain ⟨a, B, sI, pins', σ', H', cls, d, rfl, J', nb, up, sky, na, os, ag, hw⟩ := xx
    have J := Inv.ofTry J' ok
    have sky' : Sky B (X.env :: X.outer) a (Zc cls d) X.env.locals s'.heap := by rw [← hs]; exact sky
    exact Sky.land Zc.steady hfr hf sky' fun h3 fl3 up3 => handle_as hs hf hN tk hh ⟨J, nb, Heap.UpToSlots.trans up up3, fl3, na, os, ag⟩ hw
  · cases f with
    | next => obtain ⟨σ', H', J', q⟩ := hsp; exact wpAny_execs_nil ⟨σ', H', Inv.ofTry J' ok, q⟩
    | brk => obtain ⟨σ', H', J', q⟩ := hsp; exact ⟨σ', H', Inv.ofTry J' ok, q⟩
    | cont => obtain ⟨σ', H', J', q⟩ := hsp; exact ⟨σ', H', Inv.ofTry J' ok, q⟩
    | ret u => obtain ⟨v, σ', H', J', r, q⟩ := hsp; exact ⟨v, σ', H', Inv.ofTry J' ok, r, q⟩
end Ef
set_option Elab.async false
set_option linter.all false
set_option maxRecDepth 100000
set_option maxHeartbeats 4000000
namespace Ef
open PySem PySem.Spec PyProof.Rows L2
abbrev sErrF : Stmt := inClass (top 12) 0
abbrev sPaired : Stmt := top 24
abbrev sOr : Stmt := inClass (top 20) 7
abbrev sAnd : Stmt := inClass (top 20) 8
abbrev sSub : Stmt := inClass (top 20) 9
abbrev sXor : Stmt := inClass (top 20) 10
structure TxtJ (mg : Str → Option Value) : Prop extends TxtI mg where
  lcm : mg "lcm" = some (.builtin "math.lcm")
  zip : mg "zip" = none
  max : mg "max" = none
def Errs (H : Hp) (C : Addr) (fl : Str) (v : V) (E : XK) : Prop := ∀ d H', Same H H' → H d = none → H' d = some (.xd [(fl, v)]) → E (.ref C) (some d) H'
theorem Errs.mono {H H' : Hp} {C : Addr} {fl : Str} {v : V} {E : XK} (h : Errs H C fl v E) (s : Same H H') : Errs H' C fl v E := fun d H2 s2 hd hx => h d H2 (s.trans s2) (s.free hd) hx
theorem led_all (l : List Bool) : l = (List.range l.length).map (led l) := by
  refine List.ext_getElem? fun i => ?_
  rcases Nat.lt_or_ge i l.length with h | h
  · rw [led_lt h, List.getElem?_map, List.getElem?_range h]; rfl
  · rw [List.getElem?_eq_none h, List.getElem?_eq_none (by rw [List.length_map, List.length_range]; exact h)]
theorem rep_row {rs : List Bool} {m k : Nat} (hp : PerF (led rs) m) (h1 : 1 ≤ m) (hl : m ≤ rs.length) (hk : 1 ≤ k) : (List.replicate k (rs.take m)).flatten = (List.range (k * m)).map (led rs) := by
  have e := led_all (List.replicate k (rs.take m)).flatten
  have hlen : (List.replicate k (rs.take m)).flatten.length = k * m := by rw [rep_len, List.length_take, Nat.min_eq_left hl, Nat.mul_comm]
  rw [hlen] at e
  rw [e]
  refine List.map_congr_left fun i _ => ?_
  rw [led_rep (by rw [List.length_take]; omega) hk, led_take hp h1 hl]
section
variable {P : Program} {w : World} {K : PySem.W.Frag} {mg : Str → Option Value} {base : Heap}
/-! ### errors with one field -/
/-- the error class x at C with one field f -/
structure ErrF (K : PySem.W.Frag) (mg : Str → Option Value) (x fl : Str) (C fI : Addr) : Prop where
  oex : OexC K C
  mgC : mg x = some (.ref C)
  iC : PySem.W.findIn K (.ref C) "__init__" = some (some (.ref fI))
  tI : PySem.W.typeIn K (.ref fI) = some (.type "function")
  nN : PySem.W.findIn K (.ref C) fl = some none
  xf : XfC K C
def spErr (K : PySem.W.Frag) (C : Addr) (fl : Str) : Sp := fun vs H Q _ => ∃ (a : Addr) (v : V), vs = [.ref a, v] ∧ H a = some (exo a C none) ∧ ∀ dx, H dx = none → dx ≠ a → Q .non (upd (upd H dx (exd dx [(fl, v)])) a (exo a C (some dx)))
/-- an error made and flying -/
theorem mk_err {C : Addr} {fl : Str} {H : Hp} {v : V} {R : XK} (h : ∀ d H', Same H H' → H d = none → H' d = some (.xd [(fl, v)]) → R (.ref C) (some d) H') :
    [v].length ≤ 1000 ∧ ∀ a, H a = none → spErr K C fl (.ref a :: ([v] ++ [])) (upd H a (exo a C none)) (fun v H2 => v = .non ∧ ∃ (d : Addr) (fs : List (Str × V)), H2 a = some (exo a C (some d)) ∧ H2 d = some (exd d fs) ∧ H d = none ∧ R (.ref C) (some d) (upd (del H2 a) d (.xd fs))) (fun _ _ _ => False) := by
  refine ⟨by show 1 ≤ 1000; decide, fun a ha => ⟨a, v, rfl, upd_same, fun dx h1 h2 => ⟨rfl, dx, _, upd_same, by rw [upd_ne h2, upd_same], ?_, ?_⟩⟩⟩
  · rw [upd_ne h2] at h1; exact h1
  · have hdx : H dx = none := by rw [upd_ne h2] at h1; exact h1
    refine h dx _ (fun b o e => ?_) hdx upd_same
    have nb : b ≠ dx := ne_of_none e hdx
    have na : b ≠ a := ne_of_none e ha
    rw [upd_ne nb]
    unfold del
    rw [if_neg na, upd_ne na, upd_ne nb, upd_ne na]
    exact e
/-- a def that may raise, by its name -/
structure DfX (P : Program) (w : World) (K : PySem.W.Frag) (mg : Str → Option Value) (base : Heap) (k : Nat) (x : Str) (ps : List Str) (sp : Sp) (f : Addr) (fd : FuncData) : Prop where
  at_ : mg x = some (.ref f)
  kp : PySem.W.keepIn K (.ref f) = true
  b : Binds K fd ps []
  F : FnOk P w K mg base (CX P w) k f fd ps sp

theorem scErrF : FnScope ["self", "most"] ["self", "most"] (defScope sErrF) := ⟨rfl, rfl, rfl, by decide +kernel, rfl, by decide +kernel, by decide +kernel⟩
theorem ok_errF {f C fI : Addr} {fd : FuncData} (F : Fun K "__init__" "TooFine.__init__" sErrF f fd) (T : ErrF K mg "TooFine" "most" C fI) : FnOk P w K mg base CX0 1 f fd ["self", "most"] (spErr K C "most") := by
  refine F.ok scErrF (fun vs H Q E h => ?_) (fun cdv A outer s H vs Q E hr h => ?_)
  · obtain ⟨a, v, rfl, _⟩ := h
    rfl
  · obtain ⟨a, v, rfl, ha, q⟩ := h
    refine ⟨_, (pss_one (ps_ost (pv 0) (pv 1))), ?_⟩
    exact ⟨_, rfl, _, rfl, a, C, rfl, T.oex, T.nN, .inl ⟨ha, fun dx h1 h2 => q dx h1 h2⟩⟩
/-- at p a Where with its least data -/
def Wm (K : PySem.W.Frag) (C : Addr) (H : Hp) (p : Addr) (m s : Nat) (bs rs : List Bool) : Prop := 1 ≤ rs.length ∧ rs.length ≤ 720 ∧ bs.length ≤ 10000 ∧ Canon bs rs m s ∧ WAt K C H p m s bs rs
theorem Wm.same {H H' : Hp} {C p : Addr} {m s : Nat} {bs rs : List Bool} (h : Wm K C H p m s bs rs) (e : Same H H') : Wm K C H' p m s bs rs := ⟨h.1, h.2.1, h.2.2.1, h.2.2.2.1, h.2.2.2.2.same e⟩
theorem Wm.whr {H : Hp} {C p : Addr} {m s : Nat} {bs rs : List Bool} (h : Wm K C H p m s bs rs) : Whr K C H p bs rs := ⟨h.1, h.2.1, h.2.2.1, m, s, h.2.2.2⟩
def spPaired (K : PySem.W.Frag) (C CF : Addr) : Sp := fun vs H Q E => ∃ (p u : Addr) (m s m' s' : Nat) (bs rs bs' rs' : List Bool), vs = [.ref p, .ref u] ∧ Wm K C H p m s bs rs ∧ Wm K C H u m' s' bs' rs' ∧
  ((720 < Nat.lcm m m' ∧ Errs H CF "most" (.int 720) E) ∨ (Nat.lcm m m' ≤ 720 ∧ ∀ (t t1 t2 t3 t4 : Addr) (n : Nat) H', Same H H' → H' t = some (.tup [.ref t1, .ref t2, .ref t3, .ref t4]) → s ≤ n → s' ≤ n → n ≤ 10000 →
    SqT K H' t1 (((List.range n).map (ftr bs rs)).map V.bl) → SqT K H' t2 (((List.range n).map (ftr bs' rs')).map V.bl) → SqT K H' t3 (((List.range (Nat.lcm m m')).map (led rs)).map V.bl) → SqT K H' t4 (((List.range (Nat.lcm m m')).map (led rs')).map V.bl) → Q (.ref t) H'))
theorem scPaired : FnScope ["v", "w", "period", "size"] ["v", "w"] (defScope sPaired) := ⟨rfl, rfl, rfl, by decide +kernel, rfl, by decide +kernel, by decide +kernel⟩
theorem ok_paired {f C CF fF : Addr} {fd fdF : FuncData} (F : Fun K "_paired" "_paired" sPaired f fd) (T : TxtJ mg) (CW : ClsW K mg C) (EF_ : ErrF K mg "TooFine" "most" CF fF) (FF : FnOk P w K mg base CX0 1 fF fdF ["self", "most"] (spErr K CF "most")) (bF : Binds K fdF ["self", "most"] [])
    (Dto : Df P w K mg base 1 "truths_to" ["where", "size"] (spTo K C)) : FnOk P w K mg base (CX P w) 3 f fd ["v", "w"] (spPaired K C CF) := by
  refine F.okX scPaired (fun vs H Q E h => ?_) (fun cdv A outer s H vs Q E hr h => ?_)
  · obtain ⟨p, u, m, s, m', s', bs, rs, bs', rs', rfl, _⟩ := h
    rfl
  · obtain ⟨p, u, m, st, m', st', bs, rs, bs', rs', rfl, hV, hU, q⟩ := h
    obtain ⟨hr1, hr7, hb1, hc, dx, ra, ba, ea, la, g1, g2, g3, g4, g5⟩ := id hV
    obtain ⟨kr1, kr7, kb1, kc, dx', ra', ba', ea', la', k1, k2, k3, k4, k5⟩ := id hU
    obtain ⟨tMP, eMP⟩ := T.MOST_PERIOD
    refine ⟨_, (pss_cons (ps_set (i := 2) scPaired.nd rfl (.inl rfl) (pe_callBfun cr_lcm (by rfl) T.lcm (pa_cons (pe_fld (pv 0) rfl) (pa_cons (pe_fld (pv 1) rfl) pa_nil))))
      (pss_cons (ps_if (pt_cmpR op_gt (pv 2) (pe_glob (v := .int 720) rfl eMP ⟨_, rfl⟩) (nomark _)) (pss_one (ps_raise rfl (takes_of rfl rfl rfl rfl) (pmk_oex EF_.oex EF_.iC EF_.tI FF (hr.mono (by decide)) bF .nil pass0 (by rfl) EF_.mgC (pa_cons (pe_glob (v := .int 720) rfl eMP ⟨_, rfl⟩) pa_nil)))) pss_nil)
      (pss_cons (ps_set (i := 3) scPaired.nd rfl (.inl rfl) (pe_callB (call_max2 rfl) (by rfl) T.max (by decide +kernel) (pa_cons (pe_callB call_len_seq (by rfl) T.len PySem.boot_len (pa_cons (pe_fld (pv 0) rfl) pa_nil)) (pa_cons (pe_callB call_len_seq (by rfl) T.len PySem.boot_len (pa_cons (pe_fld (pv 1) rfl) pa_nil)) pa_nil))))
      (pss_one (ps_ret (pe_tup (pa_cons (Dto.call (hr.mono (by decide)) (pa_cons (pv 0) (pa_cons (pv 3) pa_nil))) (pa_cons (Dto.call (hr.mono (by decide)) (pa_cons (pv 1) (pa_cons (pv 3) pa_nil))) (pa_cons (pe_op op_repA (pe_fld (pv 0) rfl) (pe_op op_fdiv (pv 2) (pe_fld (pv 0) rfl))) (pa_cons (pe_op op_repA (pe_fld (pv 1) rfl) (pe_op op_fdiv (pv 2) (pe_fld (pv 1) rfl))) pa_nil)))))))))), ?_⟩
    refine ⟨_, rfl, p, C, dx, _, _, rfl, g1, CW.cl, CW.nP, wf_period, _, rfl, u, C, dx', _, _, rfl, k1, CW.cl, CW.nP, wf_period, m, m', rfl, ?_⟩
    have hm1 := hc.m1
    have km1 := kc.m1
    have hml := hc.ml hr1
    have kml := kc.ml kr1
    have hl0 : 0 < Nat.lcm m m' := Nat.lcm_pos hm1 km1
    have hlm := Nat.dvd_lcm_left m m'
    have hlm' := Nat.dvd_lcm_right m m'
    refine ⟨by omega, by omega, ?_⟩
    generalize hL : Nat.lcm m m' = L at q hl0 hlm hlm' ⊢
    refine ⟨_, rfl, _, _, rfl, rfl, _, rfl, ?_⟩
    rcases q with ⟨hb, q⟩ | ⟨hb, q⟩
    · rw [decide_eq_true (show (720 : Int) < (L : Int) by omega)]
      exact iteT (mk_err (v := .int 720) (R := E) q)
    rw [decide_eq_false (show ¬ (720 : Int) < (L : Int) by omega)]
    refine iteF ?_
    refine ⟨_, rfl, p, C, dx, _, _, rfl, g1, CW.cl, CW.nB, wf_below, ba, _, rfl, .inr g3, ?_⟩
    refine ⟨_, rfl, u, C, dx', _, _, rfl, k1, CW.cl, CW.nB, wf_below, ba', _, rfl, .inr k3, _, _, rfl, ?_⟩
    rw [List.length_map, List.length_map, List.length_take, List.length_take, Nat.min_eq_left hc.start.1, Nat.min_eq_left kc.start.1]
    obtain ⟨n, hn, hn1, hn2, hn3⟩ : ∃ n : Nat, (if ((st' : Nat) : Int) > ((st : Nat) : Int) then ((st' : Nat) : Int) else ((st : Nat) : Int)) = (n : Int) ∧ st ≤ n ∧ st' ≤ n ∧ n ≤ 10000 := by
      have := hc.start.1
      have := kc.start.1
      by_cases h : st < st'
      · exact ⟨st', by rw [if_pos (by omega)], by omega, by omega, by omega⟩
      · exact ⟨st, by rw [if_neg (by omega)], by omega, by omega, by omega⟩
    rw [hn]
    refine ⟨_, rfl, _, rfl, p, n, bs, rs, rfl, hV.whr, by omega, fun t1 H1 s1 h1 => ?_⟩
    refine ⟨_, rfl, _, rfl, u, n, bs', rs', rfl, hU.whr.same s1, by omega, fun t2 H2 s2 h2 => ?_⟩
    have s02 := s1.trans s2
    refine ⟨_, rfl, p, C, dx, _, _, rfl, s02 _ _ g1, CW.cl, CW.nR, wf_rests, _, rfl, _, rfl, p, C, dx, _, _, rfl, s02 _ _ g1, CW.cl, CW.nP, wf_period, _, _, rfl, rfl, ⟨by show (0 : Int) < (m : Int); omega, by show (m : Int) < 1073741824; omega⟩, ?_⟩
    have ediv : ∀ k : Nat, ((L : Int) / (k : Int)) = ((L / k : Nat) : Int) := fun k => rfl
    have hdm : L / m * m = L := Nat.div_mul_cancel hlm
    have hdm' : L / m' * m' = L := Nat.div_mul_cancel hlm'
    have hk1 : 1 ≤ L / m := Nat.div_pos (Nat.le_of_dvd hl0 hlm) hm1
    have hk1' : 1 ≤ L / m' := Nat.div_pos (Nat.le_of_dvd hl0 hlm') km1
    have hk2 : L / m ≤ L := Nat.div_le_self _ _
    have hk2' : L / m' ≤ L := Nat.div_le_self _ _
    dsimp only
    rw [ediv]
    refine rep_bls (Same.tup s02 g2) (by rw [List.length_take]; omega) hk1 (by omega) (by rw [List.length_take, Nat.min_eq_left hml, hdm]; omega) fun t3 H3 s3 h3 => ?_
    rw [rep_row hc.per hm1 hml hk1, hdm] at h3
    have s03 := s02.trans s3
    refine ⟨_, rfl, u, C, dx', _, _, rfl, s03 _ _ k1, CW.cl, CW.nR, wf_rests, _, rfl, _, rfl, u, C, dx', _, _, rfl, s03 _ _ k1, CW.cl, CW.nP, wf_period, _, _, rfl, rfl, ⟨by show (0 : Int) < (m' : Int); omega, by show (m' : Int) < 1073741824; omega⟩, ?_⟩
    dsimp only
    rw [ediv]
    refine rep_bls (Same.tup s03 k2) (by rw [List.length_take]; omega) hk1' (by omega) (by rw [List.length_take, Nat.min_eq_left kml, hdm']; omega) fun t4 H4 s4 h4 => ?_
    rw [rep_row kc.per km1 kml hk1', hdm'] at h4
    have s04 := s03.trans s4
    refine ⟨by show 4 ≤ sizeLine; decide, fun t ht => ?_⟩
    have s5 := same_new (o := .tup [.ref t1, .ref t2, .ref t3, .ref t4]) ht
    exact q t t1 t2 t3 t4 n _ (s04.trans s5) upd_same hn1 hn2 hn3 (Same.tup (s2.trans (s3.trans (s4.trans s5))) h1) (Same.tup (s3.trans (s4.trans s5)) h2) (Same.tup (s4.trans s5) h3) (Same.tup s5 h4)
end
end Ef
set_option Elab.async false
set_option linter.all false
set_option maxRecDepth 100000
set_option maxHeartbeats 4000000
namespace Ef
open PySem PySem.Spec PyProof.Rows L2
section
variable {P : Program} {w : World} {K : PySem.W.Frag} {mg : Str → Option Value} {base : Heap}
def spOp (K : PySem.W.Frag) (C CF : Addr) (op : Bool → Bool → Bool) : Sp := fun vs H Q E => ∃ (p u : Addr) (m s m' s' : Nat) (bs rs bs' rs' : List Bool), vs = [.ref p, .ref u] ∧ Wm K C H p m s bs rs ∧ Wm K C H u m' s' bs' rs' ∧
  ((720 < Nat.lcm m m' ∧ Errs H CF "most" (.int 720) E) ∨ (Nat.lcm m m' ≤ 720 ∧ ∀ (x : Addr) (xs ys : List Bool) H', H x = none → Same H H' → xs.length ≤ 10000 → ys.length = Nat.lcm m m' → (∀ k, ftr xs ys k = op (ftr bs rs k) (ftr bs' rs' k)) → Whr K C H' x xs ys → Q (.ref x) H'))
theorem op_ftr {op : Bool → Bool → Bool} {bs rs bs' rs' : List Bool} {m s m' s' n L : Nat} (hc : Canon bs rs m s) (kc : Canon bs' rs' m' s') (h1 : s ≤ n) (h2 : s' ≤ n) (hL : 0 < L) (d1 : m ∣ L) (d2 : m' ∣ L) (k : Nat) :
    ftr ((List.range n).map fun k => op (ftr bs rs k) (ftr bs' rs' k)) ((List.range L).map fun k => op (led rs k) (led rs' k)) k = op (ftr bs rs k) (ftr bs' rs' k) := by
  by_cases h : k < n
  · unfold ftr
    rw [if_pos (by rw [List.length_map, List.length_range]; exact h), List.getD_eq_getElem?_getD, List.getElem?_map, List.getElem?_range h]
    rfl
  · have e : ftr ((List.range n).map fun k => op (ftr bs rs k) (ftr bs' rs' k)) ((List.range L).map fun k => op (led rs k) (led rs' k)) k = led ((List.range L).map fun k => op (led rs k) (led rs' k)) k := by
      conv => lhs; unfold ftr
      rw [if_neg (by rw [List.length_map, List.length_range]; exact h)]
    rw [e, hc.tail (by omega), kc.tail (by omega)]
    conv => lhs; unfold led
    rw [List.length_map, List.length_range, List.getD_eq_getElem?_getD, List.getElem?_map, List.getElem?_range (Nat.mod_lt k hL)]
    show op (led rs (k % L)) (led rs' (k % L)) = _
    have p1 : led rs (k % L) = led rs k := by
      rw [per_mod hc.per (k % L), Nat.mod_mod_of_dvd _ d1, ← per_mod hc.per k]
    have p2 : led rs' (k % L) = led rs' k := by
      rw [per_mod kc.per (k % L), Nat.mod_mod_of_dvd _ d2, ← per_mod kc.per k]
    rw [p1, p2]
theorem scOr : FnScope ["self", "other", "below", "others", "rests", "later", "a", "b"] ["self", "other"] (defScope sOr) := ⟨rfl, rfl, rfl, by decide +kernel, rfl, by decide +kernel, by decide +kernel⟩
theorem ok_or {f C CF fI g : Addr} {fd fdI gd : FuncData} (F : Fun K "__or__" "Where.__or__" sOr f fd) (T : TxtJ mg) (CW : ClsW K mg C) (M : Mk K C fI) (FI : FnOk P w K mg base CX0 3 fI fdI ["self", "below", "rests"] (spInit K C)) (bI : Binds K fdI ["self", "below", "rests"] [])
    (PR : DfX P w K mg base 3 "_paired" ["v", "w"] (spPaired K C CF) g gd) : FnOk P w K mg base (CX P w) 5 f fd ["self", "other"] (spOp K C CF (fun a b => a || b)) := by
  refine F.okX scOr (fun vs H Q E h => ?_) (fun cdv A outer s H vs Q E hr h => ?_)
  · obtain ⟨p, u, m, s, m', s', bs, rs, bs', rs', rfl, _⟩ := h
    rfl
  · obtain ⟨p, u, m, st, m', st', bs, rs, bs', rs', rfl, hV, hU, q⟩ := h
    refine ⟨_, (pss_cons (ps_asg (pe_callS PR.F (hr.mono (by decide)) (by rfl) PR.at_ PR.kp PR.b (fun σ => passAt (takes_of rfl rfl rfl rfl) σ) (pa_cons (pv 0) (pa_cons (pv 1) pa_nil))) (pg_tup (by rfl) (pgs_cons (pg_name (i := 2) scOr.nd rfl (.inl rfl)) (pgs_cons (pg_name (i := 3) scOr.nd rfl (.inl rfl)) (pgs_cons (pg_name (i := 4) scOr.nd rfl (.inl rfl)) (pgs_cons (pg_name (i := 5) scOr.nd rfl (.inl rfl)) pgs_nil))))))
      (pss_one (ps_ret (pe_make M FI (hr.mono (by decide)) (by rfl) CW.mgC bI .nil pass0 (pa_cons (pe_lc (own := [("a", 6), ("b", 7)]) (g := gTup K 2 (gCons (gName 6) (gCons (gName 7) gNil))) (by rfl) scOr.nd (RZ.pi_zipA (by rfl) T.zip (pa_cons (pv 2) (pa_cons (pv 3) pa_nil))) (blkOk_by (own := [("a", 6), ("b", 7)]) (N := ["self", "other", "below", "others", "rests", "later", "a", "b"]) (sc := defScope sOr) (by decide +kernel)) (fun _ _ _ _ _ => pg_tup (by rfl) (pgs_cons (pg_name (i := 6) scOr.nd rfl (Or.inl rfl)) (pgs_cons (pg_name (i := 7) scOr.nd rfl (Or.inl rfl)) pgs_nil))) (fun _ _ _ _ _ => pts_nil) (fun _ _ _ _ _ => (pe_or (pv 6) (pe_one (pv 7))))) (pa_cons (pe_lc (own := [("a", 6), ("b", 7)]) (g := gTup K 2 (gCons (gName 6) (gCons (gName 7) gNil))) (by rfl) scOr.nd (RZ.pi_zipA (by rfl) T.zip (pa_cons (pv 4) (pa_cons (pv 5) pa_nil))) (blkOk_by (own := [("a", 6), ("b", 7)]) (N := ["self", "other", "below", "others", "rests", "later", "a", "b"]) (sc := defScope sOr) (by decide +kernel)) (fun _ _ _ _ _ => pg_tup (by rfl) (pgs_cons (pg_name (i := 6) scOr.nd rfl (Or.inl rfl)) (pgs_cons (pg_name (i := 7) scOr.nd rfl (Or.inl rfl)) pgs_nil))) (fun _ _ _ _ _ => pts_nil) (fun _ _ _ _ _ => (pe_or (pv 6) (pe_one (pv 7))))) pa_nil)))))), ?_⟩
    refine ⟨_, rfl, _, rfl, p, u, m, st, m', st', bs, rs, bs', rs', rfl, hV, hU, ?_⟩
    rcases q with ⟨hb, q⟩ | ⟨hb, q⟩
    · exact .inl ⟨hb, q⟩
    refine .inr ⟨hb, fun t t1 t2 t3 t4 n H1 s1 ht hn1 hn2 hn3 h1 h2 h3 h4 => ?_⟩
    have w1 : ∀ (l : List Nat) (f : Nat → Bool), ((l.map f).map V.bl).length = l.length := fun l f => by rw [List.length_map, List.length_map]
    generalize hL : Nat.lcm m m' = L at hb q h3 h4 ⊢
    refine ⟨t, _, rfl, .inl (.inl ht), rfl, _, _, rfl, _, _, rfl, _, _, rfl, _, _, rfl, rfl, ?_⟩
    refine ⟨_, rfl, _, rfl, t1, t2, _, _, rfl, .inr ⟨h1, h2, fun D hD => ?_⟩⟩
    refine lc_it (walk_zipT (n := n) (by rw [w1, w1, List.length_range, Nat.min_self])) (fun i H' => Same H1 H' ∧ H' D = some (.lst (((List.range i).map fun k => (ftr bs rs k || ftr bs' rs' k)).map V.bl))) ⟨same_new hD, upd_same⟩ (fun i H' _ h => ⟨Same.tup h.1 h1, Same.tup h.1 h2⟩) ?_ ?_
    · rintro i x Hx H3 hi ⟨sx, hx⟩ ⟨T, y, z, rfl, nT, rfl, ey, ez⟩
      have gy : ∀ (f : Nat → Bool), (((List.range n).map f).map V.bl)[i]? = some (.bl (f i)) := fun f => by
        rw [List.getElem?_map, List.getElem?_map, List.getElem?_range hi]; rfl
      have ey : y = .bl (ftr bs rs i) := (Option.some.inj ((gy _).symm.trans ey)).symm
      have ez : z = .bl (ftr bs' rs' i) := (Option.some.inj ((gy _).symm.trans ez)).symm
      subst ey ez
      have sT := sx.trans (same_new (o := .tup [.bl (ftr bs rs i), .bl (ftr bs' rs' i)]) nT)
      have hT : (upd Hx T (.tup [.bl (ftr bs rs i), .bl (ftr bs' rs' i)])) D = some (.lst (((List.range i).map fun k => (ftr bs rs k || ftr bs' rs' k)).map V.bl)) := by rw [upd_ne (ne_of_none hx nT)]; exact hx
      refine ⟨T, _, rfl, .inl (.inl upd_same), rfl, _, _, rfl, _, _, rfl, rfl, rfl, ?_⟩
      generalize upd Hx T (.tup [.bl (ftr bs rs i), .bl (ftr bs' rs' i)]) = H4 at sT hT ⊢
      have fin : ∀ c : Bool, c = (fun a b : Bool => a || b) (ftr bs rs i) (ftr bs' rs' i) → ∃ acc, H4 D = some (.lst acc) ∧ acc.length < sizeLine ∧ Same H1 (upd H4 D (.lst (acc ++ [.bl c]))) ∧ (upd H4 D (.lst (acc ++ [.bl c]))) D = some (.lst (((List.range (i + 1)).map fun k => (ftr bs rs k || ftr bs' rs' k)).map V.bl)) := fun c e =>
        ⟨_, hT, by rw [w1, List.length_range]; exact Nat.lt_of_le_of_lt (show i ≤ 10000 by omega) (by decide), same_mut sT hD, by rw [upd_same, List.range_succ, List.map_append, List.map_append, e]; rfl⟩
      refine ⟨_, rfl, _, rfl, ?_⟩
      cases hf : ftr bs rs i with
      | true => exact iteT (fin true (by rw [hf]; rfl))
      | false => exact iteF ⟨_, rfl, fin _ (by rw [hf]; rfl)⟩
    rintro H3 ⟨s3, h5⟩
    have h3 := Same.tup s3 h3
    have h4 := Same.tup s3 h4
    refine ⟨_, rfl, _, rfl, t3, t4, _, _, rfl, .inr ⟨h3, h4, fun D2 hD2 => ?_⟩⟩
    refine lc_it (walk_zipT (n := L) (by rw [w1, w1, List.length_range, Nat.min_self])) (fun i H' => Same H3 H' ∧ H' D2 = some (.lst (((List.range i).map fun k => (led rs k || led rs' k)).map V.bl))) ⟨same_new hD2, upd_same⟩ (fun i H' _ h => ⟨Same.tup h.1 h3, Same.tup h.1 h4⟩) ?_ ?_
    · rintro i x Hx H4 hi ⟨sx, hx⟩ ⟨T, y, z, rfl, nT, rfl, ey, ez⟩
      have gy : ∀ (f : Nat → Bool), (((List.range L).map f).map V.bl)[i]? = some (.bl (f i)) := fun f => by
        rw [List.getElem?_map, List.getElem?_map, List.getElem?_range hi]; rfl
      have ey : y = .bl (led rs i) := (Option.some.inj ((gy _).symm.trans ey)).symm
      have ez : z = .bl (led rs' i) := (Option.some.inj ((gy _).symm.trans ez)).symm
      subst ey ez
      have sT := sx.trans (same_new (o := .tup [.bl (led rs i), .bl (led rs' i)]) nT)
      have hT : (upd Hx T (.tup [.bl (led rs i), .bl (led rs' i)])) D2 = some (.lst (((List.range i).map fun k => (led rs k || led rs' k)).map V.bl)) := by rw [upd_ne (ne_of_none hx nT)]; exact hx
      refine ⟨T, _, rfl, .inl (.inl upd_same), rfl, _, _, rfl, _, _, rfl, rfl, rfl, ?_⟩
      generalize upd Hx T (.tup [.bl (led rs i), .bl (led rs' i)]) = H5 at sT hT ⊢
      have fin : ∀ c : Bool, c = (fun a b : Bool => a || b) (led rs i) (led rs' i) → ∃ acc, H5 D2 = some (.lst acc) ∧ acc.length < sizeLine ∧ Same H3 (upd H5 D2 (.lst (acc ++ [.bl c]))) ∧ (upd H5 D2 (.lst (acc ++ [.bl c]))) D2 = some (.lst (((List.range (i + 1)).map fun k => (led rs k || led rs' k)).map V.bl)) := fun c e =>
        ⟨_, hT, by rw [w1, List.length_range]; exact Nat.lt_of_le_of_lt (show i ≤ 10000 by omega) (by decide), same_mut sT hD2, by rw [upd_same, List.range_succ, List.map_append, List.map_append, e]; rfl⟩
      refine ⟨_, rfl, _, rfl, ?_⟩
      cases hf : led rs i with
      | true => exact iteT (fin true (by rw [hf]; rfl))
      | false => exact iteF ⟨_, rfl, fin _ (by rw [hf]; rfl)⟩
    rintro H4 ⟨s4, h6⟩
    have h5 := s4 _ _ h5
    intro x dx nx ndx nex
    have hl0 : 0 < L := by rw [← hL]; exact Nat.lcm_pos hV.2.2.2.1.m1 hU.2.2.2.1.m1
    refine ⟨H4, x, dx, D, D2, (List.range n).map fun k => (ftr bs rs k || ftr bs' rs' k), (List.range L).map fun k => (led rs k || led rs' k), rfl, same_inst nx ndx, nx, upd_same, .inl (.inl (.inl h5)), .inl (.inl (.inl h6)), by rw [List.length_map, List.length_range]; exact hl0, by rw [List.length_map, List.length_range]; exact hb, by rw [List.length_map, List.length_range]; exact hn3, fun m2 s2 H' hc sm hw => ⟨rfl, ?_⟩⟩
    refine q x _ _ H' ((s1.trans (s3.trans s4)).free nx) ((s1.trans (s3.trans s4)).trans sm) (by rw [List.length_map, List.length_range]; exact hn3) (by rw [List.length_map, List.length_range]) (fun k => ?_) ⟨by rw [List.length_map, List.length_range]; exact hl0, by rw [List.length_map, List.length_range]; exact hb, by rw [List.length_map, List.length_range]; exact hn3, m2, s2, hc, hw⟩
    exact op_ftr (op := fun a b => a || b) hV.2.2.2.1 hU.2.2.2.1 hn1 hn2 hl0 (by rw [← hL]; exact Nat.dvd_lcm_left m m') (by rw [← hL]; exact Nat.dvd_lcm_right m m') k
theorem scAnd : FnScope ["self", "other", "below", "others", "rests", "later", "a", "b"] ["self", "other"] (defScope sAnd) := ⟨rfl, rfl, rfl, by decide +kernel, rfl, by decide +kernel, by decide +kernel⟩
theorem ok_and {f C CF fI g : Addr} {fd fdI gd : FuncData} (F : Fun K "__and__" "Where.__and__" sAnd f fd) (T : TxtJ mg) (CW : ClsW K mg C) (M : Mk K C fI) (FI : FnOk P w K mg base CX0 3 fI fdI ["self", "below", "rests"] (spInit K C)) (bI : Binds K fdI ["self", "below", "rests"] [])
    (PR : DfX P w K mg base 3 "_paired" ["v", "w"] (spPaired K C CF) g gd) : FnOk P w K mg base (CX P w) 5 f fd ["self", "other"] (spOp K C CF (fun a b => a && b)) := by
  refine F.okX scAnd (fun vs H Q E h => ?_) (fun cdv A outer s H vs Q E hr h => ?_)
  · obtain ⟨p, u, m, s, m', s', bs, rs, bs', rs', rfl, _⟩ := h
    rfl
  · obtain ⟨p, u, m, st, m', st', bs, rs, bs', rs', rfl, hV, hU, q⟩ := h
    refine ⟨_, (pss_cons (ps_asg (pe_callS PR.F (hr.mono (by decide)) (by rfl) PR.at_ PR.kp PR.b (fun σ => passAt (takes_of rfl rfl rfl rfl) σ) (pa_cons (pv 0) (pa_cons (pv 1) pa_nil))) (pg_tup (by rfl) (pgs_cons (pg_name (i := 2) scAnd.nd rfl (.inl rfl)) (pgs_cons (pg_name (i := 3) scAnd.nd rfl (.inl rfl)) (pgs_cons (pg_name (i := 4) scAnd.nd rfl (.inl rfl)) (pgs_cons (pg_name (i := 5) scAnd.nd rfl (.inl rfl)) pgs_nil))))))
      (pss_one (ps_ret (pe_make M FI (hr.mono (by decide)) (by rfl) CW.mgC bI .nil pass0 (pa_cons (pe_lc (own := [("a", 6), ("b", 7)]) (g := gTup K 2 (gCons (gName 6) (gCons (gName 7) gNil))) (by rfl) scAnd.nd (RZ.pi_zipA (by rfl) T.zip (pa_cons (pv 2) (pa_cons (pv 3) pa_nil))) (blkOk_by (own := [("a", 6), ("b", 7)]) (N := ["self", "other", "below", "others", "rests", "later", "a", "b"]) (sc := defScope sAnd) (by decide +kernel)) (fun _ _ _ _ _ => pg_tup (by rfl) (pgs_cons (pg_name (i := 6) scAnd.nd rfl (Or.inl rfl)) (pgs_cons (pg_name (i := 7) scAnd.nd rfl (Or.inl rfl)) pgs_nil))) (fun _ _ _ _ _ => pts_nil) (fun _ _ _ _ _ => (pe_and (pv 6) (pe_one (pv 7))))) (pa_cons (pe_lc (own := [("a", 6), ("b", 7)]) (g := gTup K 2 (gCons (gName 6) (gCons (gName 7) gNil))) (by rfl) scAnd.nd (RZ.pi_zipA (by rfl) T.zip (pa_cons (pv 4) (pa_cons (pv 5) pa_nil))) (blkOk_by (own := [("a", 6), ("b", 7)]) (N := ["self", "other", "below", "others", "rests", "later", "a", "b"]) (sc := defScope sAnd) (by decide +kernel)) (fun _ _ _ _ _ => pg_tup (by rfl) (pgs_cons (pg_name (i := 6) scAnd.nd rfl (Or.inl rfl)) (pgs_cons (pg_name (i := 7) scAnd.nd rfl (Or.inl rfl)) pgs_nil))) (fun _ _ _ _ _ => pts_nil) (fun _ _ _ _ _ => (pe_and (pv 6) (pe_one (pv 7))))) pa_nil)))))), ?_⟩
    refine ⟨_, rfl, _, rfl, p, u, m, st, m', st', bs, rs, bs', rs', rfl, hV, hU, ?_⟩
    rcases q with ⟨hb, q⟩ | ⟨hb, q⟩
    · exact .inl ⟨hb, q⟩
    refine .inr ⟨hb, fun t t1 t2 t3 t4 n H1 s1 ht hn1 hn2 hn3 h1 h2 h3 h4 => ?_⟩
    have w1 : ∀ (l : List Nat) (f : Nat → Bool), ((l.map f).map V.bl).length = l.length := fun l f => by rw [List.length_map, List.length_map]
    generalize hL : Nat.lcm m m' = L at hb q h3 h4 ⊢
    refine ⟨t, _, rfl, .inl (.inl ht), rfl, _, _, rfl, _, _, rfl, _, _, rfl, _, _, rfl, rfl, ?_⟩
    refine ⟨_, rfl, _, rfl, t1, t2, _, _, rfl, .inr ⟨h1, h2, fun D hD => ?_⟩⟩
    refine lc_it (walk_zipT (n := n) (by rw [w1, w1, List.length_range, Nat.min_self])) (fun i H' => Same H1 H' ∧ H' D = some (.lst (((List.range i).map fun k => (ftr bs rs k && ftr bs' rs' k)).map V.bl))) ⟨same_new hD, upd_same⟩ (fun i H' _ h => ⟨Same.tup h.1 h1, Same.tup h.1 h2⟩) ?_ ?_
    · rintro i x Hx H3 hi ⟨sx, hx⟩ ⟨T, y, z, rfl, nT, rfl, ey, ez⟩
      have gy : ∀ (f : Nat → Bool), (((List.range n).map f).map V.bl)[i]? = some (.bl (f i)) := fun f => by
        rw [List.getElem?_map, List.getElem?_map, List.getElem?_range hi]; rfl
      have ey : y = .bl (ftr bs rs i) := (Option.some.inj ((gy _).symm.trans ey)).symm
      have ez : z = .bl (ftr bs' rs' i) := (Option.some.inj ((gy _).symm.trans ez)).symm
      subst ey ez
      have sT := sx.trans (same_new (o := .tup [.bl (ftr bs rs i), .bl (ftr bs' rs' i)]) nT)
      have hT : (upd Hx T (.tup [.bl (ftr bs rs i), .bl (ftr bs' rs' i)])) D = some (.lst (((List.range i).map fun k => (ftr bs rs k && ftr bs' rs' k)).map V.bl)) := by rw [upd_ne (ne_of_none hx nT)]; exact hx
      refine ⟨T, _, rfl, .inl (.inl upd_same), rfl, _, _, rfl, _, _, rfl, rfl, rfl, ?_⟩
      generalize upd Hx T (.tup [.bl (ftr bs rs i), .bl (ftr bs' rs' i)]) = H4 at sT hT ⊢
      have fin : ∀ c : Bool, c = (fun a b : Bool => a && b) (ftr bs rs i) (ftr bs' rs' i) → ∃ acc, H4 D = some (.lst acc) ∧ acc.length < sizeLine ∧ Same H1 (upd H4 D (.lst (acc ++ [.bl c]))) ∧ (upd H4 D (.lst (acc ++ [.bl c]))) D = some (.lst (((List.range (i + 1)).map fun k => (ftr bs rs k && ftr bs' rs' k)).map V.bl)) := fun c e =>
        ⟨_, hT, by rw [w1, List.length_range]; exact Nat.lt_of_le_of_lt (show i ≤ 10000 by omega) (by decide), same_mut sT hD, by rw [upd_same, List.range_succ, List.map_append, List.map_append, e]; rfl⟩
      refine ⟨_, rfl, _, rfl, ?_⟩
      cases hf : ftr bs rs i with
      | false => exact iteF (fin false (by rw [hf]; rfl))
      | true => exact iteT ⟨_, rfl, fin _ (by rw [hf]; rfl)⟩
    rintro H3 ⟨s3, h5⟩
    have h3 := Same.tup s3 h3
    have h4 := Same.tup s3 h4
    refine ⟨_, rfl, _, rfl, t3, t4, _, _, rfl, .inr ⟨h3, h4, fun D2 hD2 => ?_⟩⟩
    refine lc_it (walk_zipT (n := L) (by rw [w1, w1, List.length_range, Nat.min_self])) (fun i H' => Same H3 H' ∧ H' D2 = some (.lst (((List.range i).map fun k => (led rs k && led rs' k)).map V.bl))) ⟨same_new hD2, upd_same⟩ (fun i H' _ h => ⟨Same.tup h.1 h3, Same.tup h.1 h4⟩) ?_ ?_
    · rintro i x Hx H4 hi ⟨sx, hx⟩ ⟨T, y, z, rfl, nT, rfl, ey, ez⟩
      have gy : ∀ (f : Nat → Bool), (((List.range L).map f).map V.bl)[i]? = some (.bl (f i)) := fun f => by
        rw [List.getElem?_map, List.getElem?_map, List.getElem?_range hi]; rfl
      have ey : y = .bl (led rs i) := (Option.some.inj ((gy _).symm.trans ey)).symm
      have ez : z = .bl (led rs' i) := (Option.some.inj ((gy _).symm.trans ez)).symm
      subst ey ez
      have sT := sx.trans (same_new (o := .tup [.bl (led rs i), .bl (led rs' i)]) nT)
      have hT : (upd Hx T (.tup [.bl (led rs i), .bl (led rs' i)])) D2 = some (.lst (((List.range i).map fun k => (led rs k && led rs' k)).map V.bl)) := by rw [upd_ne (ne_of_none hx nT)]; exact hx
      refine ⟨T, _, rfl, .inl (.inl upd_same), rfl, _, _, rfl, _, _, rfl, rfl, rfl, ?_⟩
      generalize upd Hx T (.tup [.bl (led rs i), .bl (led rs' i)]) = H5 at sT hT ⊢
      have fin : ∀ c : Bool, c = (fun a b : Bool => a && b) (led rs i) (led rs' i) → ∃ acc, H5 D2 = some (.lst acc) ∧ acc.length < sizeLine ∧ Same H3 (upd H5 D2 (.lst (acc ++ [.bl c]))) ∧ (upd H5 D2 (.lst (acc ++ [.bl c]))) D2 = some (.lst (((List.range (i + 1)).map fun k => (led rs k && led rs' k)).map V.bl)) := fun c e =>
        ⟨_, hT, by rw [w1, List.length_range]; exact Nat.lt_of_le_of_lt (show i ≤ 10000 by omega) (by decide), same_mut sT hD2, by rw [upd_same, List.range_succ, List.map_append, List.map_append, e]; rfl⟩
      refine ⟨_, rfl, _, rfl, ?_⟩
      cases hf : led rs i with
      | false => exact iteF (fin false (by rw [hf]; rfl))
      | true => exact iteT ⟨_, rfl, fin _ (by rw [hf]; rfl)⟩
    rintro H4 ⟨s4, h6⟩
    have h5 := s4 _ _ h5
    intro x dx nx ndx nex
    have hl0 : 0 < L := by rw [← hL]; exact Nat.lcm_pos hV.2.2.2.1.m1 hU.2.2.2.1.m1
    refine ⟨H4, x, dx, D, D2, (List.range n).map fun k => (ftr bs rs k && ftr bs' rs' k), (List.range L).map fun k => (led rs k && led rs' k), rfl, same_inst nx ndx, nx, upd_same, .inl (.inl (.inl h5)), .inl (.inl (.inl h6)), by rw [List.length_map, List.length_range]; exact hl0, by rw [List.length_map, List.length_range]; exact hb, by rw [List.length_map, List.length_range]; exact hn3, fun m2 s2 H' hc sm hw => ⟨rfl, ?_⟩⟩
    refine q x _ _ H' ((s1.trans (s3.trans s4)).free nx) ((s1.trans (s3.trans s4)).trans sm) (by rw [List.length_map, List.length_range]; exact hn3) (by rw [List.length_map, List.length_range]) (fun k => ?_) ⟨by rw [List.length_map, List.length_range]; exact hl0, by rw [List.length_map, List.length_range]; exact hb, by rw [List.length_map, List.length_range]; exact hn3, m2, s2, hc, hw⟩
    exact op_ftr (op := fun a b => a && b) hV.2.2.2.1 hU.2.2.2.1 hn1 hn2 hl0 (by rw [← hL]; exact Nat.dvd_lcm_left m m') (by rw [← hL]; exact Nat.dvd_lcm_right m m') k
theorem scSub : FnScope ["self", "other", "below", "others", "rests", "later", "a", "b"] ["self", "other"] (defScope sSub) := ⟨rfl, rfl, rfl, by decide +kernel, rfl, by decide +kernel, by decide +kernel⟩
theorem ok_sub {f C CF fI g : Addr} {fd fdI gd : FuncData} (F : Fun K "__sub__" "Where.__sub__" sSub f fd) (T : TxtJ mg) (CW : ClsW K mg C) (M : Mk K C fI) (FI : FnOk P w K mg base CX0 3 fI fdI ["self", "below", "rests"] (spInit K C)) (bI : Binds K fdI ["self", "below", "rests"] [])
    (PR : DfX P w K mg base 3 "_paired" ["v", "w"] (spPaired K C CF) g gd) : FnOk P w K mg base (CX P w) 5 f fd ["self", "other"] (spOp K C CF (fun a b => a && !b)) := by
  refine F.okX scSub (fun vs H Q E h => ?_) (fun cdv A outer s H vs Q E hr h => ?_)
  · obtain ⟨p, u, m, s, m', s', bs, rs, bs', rs', rfl, _⟩ := h
    rfl
  · obtain ⟨p, u, m, st, m', st', bs, rs, bs', rs', rfl, hV, hU, q⟩ := h
    refine ⟨_, (pss_cons (ps_asg (pe_callS PR.F (hr.mono (by decide)) (by rfl) PR.at_ PR.kp PR.b (fun σ => passAt (takes_of rfl rfl rfl rfl) σ) (pa_cons (pv 0) (pa_cons (pv 1) pa_nil))) (pg_tup (by rfl) (pgs_cons (pg_name (i := 2) scSub.nd rfl (.inl rfl)) (pgs_cons (pg_name (i := 3) scSub.nd rfl (.inl rfl)) (pgs_cons (pg_name (i := 4) scSub.nd rfl (.inl rfl)) (pgs_cons (pg_name (i := 5) scSub.nd rfl (.inl rfl)) pgs_nil))))))
      (pss_one (ps_ret (pe_make M FI (hr.mono (by decide)) (by rfl) CW.mgC bI .nil pass0 (pa_cons (pe_lc (own := [("a", 6), ("b", 7)]) (g := gTup K 2 (gCons (gName 6) (gCons (gName 7) gNil))) (by rfl) scSub.nd (RZ.pi_zipA (by rfl) T.zip (pa_cons (pv 2) (pa_cons (pv 3) pa_nil))) (blkOk_by (own := [("a", 6), ("b", 7)]) (N := ["self", "other", "below", "others", "rests", "later", "a", "b"]) (sc := defScope sSub) (by decide +kernel)) (fun _ _ _ _ _ => pg_tup (by rfl) (pgs_cons (pg_name (i := 6) scSub.nd rfl (Or.inl rfl)) (pgs_cons (pg_name (i := 7) scSub.nd rfl (Or.inl rfl)) pgs_nil))) (fun _ _ _ _ _ => pts_nil) (fun _ _ _ _ _ => (pe_and (pv 6) (pe_one (pe_not (pv 7)))))) (pa_cons (pe_lc (own := [("a", 6), ("b", 7)]) (g := gTup K 2 (gCons (gName 6) (gCons (gName 7) gNil))) (by rfl) scSub.nd (RZ.pi_zipA (by rfl) T.zip (pa_cons (pv 4) (pa_cons (pv 5) pa_nil))) (blkOk_by (own := [("a", 6), ("b", 7)]) (N := ["self", "other", "below", "others", "rests", "later", "a", "b"]) (sc := defScope sSub) (by decide +kernel)) (fun _ _ _ _ _ => pg_tup (by rfl) (pgs_cons (pg_name (i := 6) scSub.nd rfl (Or.inl rfl)) (pgs_cons (pg_name (i := 7) scSub.nd rfl (Or.inl rfl)) pgs_nil))) (fun _ _ _ _ _ => pts_nil) (fun _ _ _ _ _ => (pe_and (pv 6) (pe_one (pe_not (pv 7)))))) pa_nil)))))), ?_⟩
    refine ⟨_, rfl, _, rfl, p, u, m, st, m', st', bs, rs, bs', rs', rfl, hV, hU, ?_⟩
    rcases q with ⟨hb, q⟩ | ⟨hb, q⟩
    · exact .inl ⟨hb, q⟩
    refine .inr ⟨hb, fun t t1 t2 t3 t4 n H1 s1 ht hn1 hn2 hn3 h1 h2 h3 h4 => ?_⟩
    have w1 : ∀ (l : List Nat) (f : Nat → Bool), ((l.map f).map V.bl).length = l.length := fun l f => by rw [List.length_map, List.length_map]
    generalize hL : Nat.lcm m m' = L at hb q h3 h4 ⊢
    refine ⟨t, _, rfl, .inl (.inl ht), rfl, _, _, rfl, _, _, rfl, _, _, rfl, _, _, rfl, rfl, ?_⟩
    refine ⟨_, rfl, _, rfl, t1, t2, _, _, rfl, .inr ⟨h1, h2, fun D hD => ?_⟩⟩
    refine lc_it (walk_zipT (n := n) (by rw [w1, w1, List.length_range, Nat.min_self])) (fun i H' => Same H1 H' ∧ H' D = some (.lst (((List.range i).map fun k => (ftr bs rs k && !ftr bs' rs' k)).map V.bl))) ⟨same_new hD, upd_same⟩ (fun i H' _ h => ⟨Same.tup h.1 h1, Same.tup h.1 h2⟩) ?_ ?_
    · rintro i x Hx H3 hi ⟨sx, hx⟩ ⟨T, y, z, rfl, nT, rfl, ey, ez⟩
      have gy : ∀ (f : Nat → Bool), (((List.range n).map f).map V.bl)[i]? = some (.bl (f i)) := fun f => by
        rw [List.getElem?_map, List.getElem?_map, List.getElem?_range hi]; rfl
      have ey : y = .bl (ftr bs rs i) := (Option.some.inj ((gy _).symm.trans ey)).symm
      have ez : z = .bl (ftr bs' rs' i) := (Option.some.inj ((gy _).symm.trans ez)).symm
      subst ey ez
      have sT := sx.trans (same_new (o := .tup [.bl (ftr bs rs i), .bl (ftr bs' rs' i)]) nT)
      have hT : (upd Hx T (.tup [.bl (ftr bs rs i), .bl (ftr bs' rs' i)])) D = some (.lst (((List.range i).map fun k => (ftr bs rs k && !ftr bs' rs' k)).map V.bl)) := by rw [upd_ne (ne_of_none hx nT)]; exact hx
      refine ⟨T, _, rfl, .inl (.inl upd_same), rfl, _, _, rfl, _, _, rfl, rfl, rfl, ?_⟩
      generalize upd Hx T (.tup [.bl (ftr bs rs i), .bl (ftr bs' rs' i)]) = H4 at sT hT ⊢
      have fin : ∀ c : Bool, c = (fun a b : Bool => a && !b) (ftr bs rs i) (ftr bs' rs' i) → ∃ acc, H4 D = some (.lst acc) ∧ acc.length < sizeLine ∧ Same H1 (upd H4 D (.lst (acc ++ [.bl c]))) ∧ (upd H4 D (.lst (acc ++ [.bl c]))) D = some (.lst (((List.range (i + 1)).map fun k => (ftr bs rs k && !ftr bs' rs' k)).map V.bl)) := fun c e =>
        ⟨_, hT, by rw [w1, List.length_range]; exact Nat.lt_of_le_of_lt (show i ≤ 10000 by omega) (by decide), same_mut sT hD, by rw [upd_same, List.range_succ, List.map_append, List.map_append, e]; rfl⟩
      refine ⟨_, rfl, _, rfl, ?_⟩
      cases hf : ftr bs rs i with
      | false => exact iteF (fin false (by rw [hf]; rfl))
      | true => exact iteT ⟨_, rfl, _, rfl, fin _ (by rw [hf]; rfl)⟩
    rintro H3 ⟨s3, h5⟩
    have h3 := Same.tup s3 h3
    have h4 := Same.tup s3 h4
    refine ⟨_, rfl, _, rfl, t3, t4, _, _, rfl, .inr ⟨h3, h4, fun D2 hD2 => ?_⟩⟩
    refine lc_it (walk_zipT (n := L) (by rw [w1, w1, List.length_range, Nat.min_self])) (fun i H' => Same H3 H' ∧ H' D2 = some (.lst (((List.range i).map fun k => (led rs k && !led rs' k)).map V.bl))) ⟨same_new hD2, upd_same⟩ (fun i H' _ h => ⟨Same.tup h.1 h3, Same.tup h.1 h4⟩) ?_ ?_
    · rintro i x Hx H4 hi ⟨sx, hx⟩ ⟨T, y, z, rfl, nT, rfl, ey, ez⟩
      have gy : ∀ (f : Nat → Bool), (((List.range L).map f).map V.bl)[i]? = some (.bl (f i)) := fun f => by
        rw [List.getElem?_map, List.getElem?_map, List.getElem?_range hi]; rfl
      have ey : y = .bl (led rs i) := (Option.some.inj ((gy _).symm.trans ey)).symm
      have ez : z = .bl (led rs' i) := (Option.some.inj ((gy _).symm.trans ez)).symm
      subst ey ez
      have sT := sx.trans (same_new (o := .tup [.bl (led rs i), .bl (led rs' i)]) nT)
      have hT : (upd Hx T (.tup [.bl (led rs i), .bl (led rs' i)])) D2 = some (.lst (((List.range i).map fun k => (led rs k && !led rs' k)).map V.bl)) := by rw [upd_ne (ne_of_none hx nT)]; exact hx
      refine ⟨T, _, rfl, .inl (.inl upd_same), rfl, _, _, rfl, _, _, rfl, rfl, rfl, ?_⟩
      generalize upd Hx T (.tup [.bl (led rs i), .bl (led rs' i)]) = H5 at sT hT ⊢
      have fin : ∀ c : Bool, c = (fun a b : Bool => a && !b) (led rs i) (led rs' i) → ∃ acc, H5 D2 = some (.lst acc) ∧ acc.length < sizeLine ∧ Same H3 (upd H5 D2 (.lst (acc ++ [.bl c]))) ∧ (upd H5 D2 (.lst (acc ++ [.bl c]))) D2 = some (.lst (((List.range (i + 1)).map fun k => (led rs k && !led rs' k)).map V.bl)) := fun c e =>
        ⟨_, hT, by rw [w1, List.length_range]; exact Nat.lt_of_le_of_lt (show i ≤ 10000 by omega) (by decide), same_mut sT hD2, by rw [upd_same, List.range_succ, List.map_append, List.map_append, e]; rfl⟩
      refine ⟨_, rfl, _, rfl, ?_⟩
      cases hf : led rs i with
      | false => exact iteF (fin false (by rw [hf]; rfl))
      | true => exact iteT ⟨_, rfl, _, rfl, fin _ (by rw [hf]; rfl)⟩
    rintro H4 ⟨s4, h6⟩
    have h5 := s4 _ _ h5
    intro x dx nx ndx nex
    have hl0 : 0 < L := by rw [← hL]; exact Nat.lcm_pos hV.2.2.2.1.m1 hU.2.2.2.1.m1
    refine ⟨H4, x, dx, D, D2, (List.range n).map fun k => (ftr bs rs k && !ftr bs' rs' k), (List.range L).map fun k => (led rs k && !led rs' k), rfl, same_inst nx ndx, nx, upd_same, .inl (.inl (.inl h5)), .inl (.inl (.inl h6)), by rw [List.length_map, List.length_range]; exact hl0, by rw [List.length_map, List.length_range]; exact hb, by rw [List.length_map, List.length_range]; exact hn3, fun m2 s2 H' hc sm hw => ⟨rfl, ?_⟩⟩
    refine q x _ _ H' ((s1.trans (s3.trans s4)).free nx) ((s1.trans (s3.trans s4)).trans sm) (by rw [List.length_map, List.length_range]; exact hn3) (by rw [List.length_map, List.length_range]) (fun k => ?_) ⟨by rw [List.length_map, List.length_range]; exact hl0, by rw [List.length_map, List.length_range]; exact hb, by rw [List.length_map, List.length_range]; exact hn3, m2, s2, hc, hw⟩
    exact op_ftr (op := fun a b => a && !b) hV.2.2.2.1 hU.2.2.2.1 hn1 hn2 hl0 (by rw [← hL]; exact Nat.dvd_lcm_left m m') (by rw [← hL]; exact Nat.dvd_lcm_right m m') k
theorem scXor : FnScope ["self", "other", "below", "others", "rests", "later", "a", "b"] ["self", "other"] (defScope sXor) := ⟨rfl, rfl, rfl, by decide +kernel, rfl, by decide +kernel, by decide +kernel⟩
theorem ok_xor {f C CF fI g : Addr} {fd fdI gd : FuncData} (F : Fun K "__xor__" "Where.__xor__" sXor f fd) (T : TxtJ mg) (CW : ClsW K mg C) (M : Mk K C fI) (FI : FnOk P w K mg base CX0 3 fI fdI ["self", "below", "rests"] (spInit K C)) (bI : Binds K fdI ["self", "below", "rests"] [])
    (PR : DfX P w K mg base 3 "_paired" ["v", "w"] (spPaired K C CF) g gd) : FnOk P w K mg base (CX P w) 5 f fd ["self", "other"] (spOp K C CF (fun a b => a != b)) := by
  refine F.okX scXor (fun vs H Q E h => ?_) (fun cdv A outer s H vs Q E hr h => ?_)
  · obtain ⟨p, u, m, s, m', s', bs, rs, bs', rs', rfl, _⟩ := h
    rfl
  · obtain ⟨p, u, m, st, m', st', bs, rs, bs', rs', rfl, hV, hU, q⟩ := h
    refine ⟨_, (pss_cons (ps_asg (pe_callS PR.F (hr.mono (by decide)) (by rfl) PR.at_ PR.kp PR.b (fun σ => passAt (takes_of rfl rfl rfl rfl) σ) (pa_cons (pv 0) (pa_cons (pv 1) pa_nil))) (pg_tup (by rfl) (pgs_cons (pg_name (i := 2) scXor.nd rfl (.inl rfl)) (pgs_cons (pg_name (i := 3) scXor.nd rfl (.inl rfl)) (pgs_cons (pg_name (i := 4) scXor.nd rfl (.inl rfl)) (pgs_cons (pg_name (i := 5) scXor.nd rfl (.inl rfl)) pgs_nil))))))
      (pss_one (ps_ret (pe_make M FI (hr.mono (by decide)) (by rfl) CW.mgC bI .nil pass0 (pa_cons (pe_lc (own := [("a", 6), ("b", 7)]) (g := gTup K 2 (gCons (gName 6) (gCons (gName 7) gNil))) (by rfl) scXor.nd (RZ.pi_zipA (by rfl) T.zip (pa_cons (pv 2) (pa_cons (pv 3) pa_nil))) (blkOk_by (own := [("a", 6), ("b", 7)]) (N := ["self", "other", "below", "others", "rests", "later", "a", "b"]) (sc := defScope sXor) (by decide +kernel)) (fun _ _ _ _ _ => pg_tup (by rfl) (pgs_cons (pg_name (i := 6) scXor.nd rfl (Or.inl rfl)) (pgs_cons (pg_name (i := 7) scXor.nd rfl (Or.inl rfl)) pgs_nil))) (fun _ _ _ _ _ => pts_nil) (fun _ _ _ _ _ => (pe_cmpR op_ne (pv 6) (pv 7) (nomark _)))) (pa_cons (pe_lc (own := [("a", 6), ("b", 7)]) (g := gTup K 2 (gCons (gName 6) (gCons (gName 7) gNil))) (by rfl) scXor.nd (RZ.pi_zipA (by rfl) T.zip (pa_cons (pv 4) (pa_cons (pv 5) pa_nil))) (blkOk_by (own := [("a", 6), ("b", 7)]) (N := ["self", "other", "below", "others", "rests", "later", "a", "b"]) (sc := defScope sXor) (by decide +kernel)) (fun _ _ _ _ _ => pg_tup (by rfl) (pgs_cons (pg_name (i := 6) scXor.nd rfl (Or.inl rfl)) (pgs_cons (pg_name (i := 7) scXor.nd rfl (Or.inl rfl)) pgs_nil))) (fun _ _ _ _ _ => pts_nil) (fun _ _ _ _ _ => (pe_cmpR op_ne (pv 6) (pv 7) (nomark _)))) pa_nil)))))), ?_⟩
    refine ⟨_, rfl, _, rfl, p, u, m, st, m', st', bs, rs, bs', rs', rfl, hV, hU, ?_⟩
    rcases q with ⟨hb, q⟩ | ⟨hb, q⟩
    · exact .inl ⟨hb, q⟩
    refine .inr ⟨hb, fun t t1 t2 t3 t4 n H1 s1 ht hn1 hn2 hn3 h1 h2 h3 h4 => ?_⟩
    have w1 : ∀ (l : List Nat) (f : Nat → Bool), ((l.map f).map V.bl).length = l.length := fun l f => by rw [List.length_map, List.length_map]
    generalize hL : Nat.lcm m m' = L at hb q h3 h4 ⊢
    refine ⟨t, _, rfl, .inl (.inl ht), rfl, _, _, rfl, _, _, rfl, _, _, rfl, _, _, rfl, rfl, ?_⟩
    refine ⟨_, rfl, _, rfl, t1, t2, _, _, rfl, .inr ⟨h1, h2, fun D hD => ?_⟩⟩
    refine lc_it (walk_zipT (n := n) (by rw [w1, w1, List.length_range, Nat.min_self])) (fun i H' => Same H1 H' ∧ H' D = some (.lst (((List.range i).map fun k => (ftr bs rs k != ftr bs' rs' k)).map V.bl))) ⟨same_new hD, upd_same⟩ (fun i H' _ h => ⟨Same.tup h.1 h1, Same.tup h.1 h2⟩) ?_ ?_
    · rintro i x Hx H3 hi ⟨sx, hx⟩ ⟨T, y, z, rfl, nT, rfl, ey, ez⟩
      have gy : ∀ (f : Nat → Bool), (((List.range n).map f).map V.bl)[i]? = some (.bl (f i)) := fun f => by
        rw [List.getElem?_map, List.getElem?_map, List.getElem?_range hi]; rfl
      have ey : y = .bl (ftr bs rs i) := (Option.some.inj ((gy _).symm.trans ey)).symm
      have ez : z = .bl (ftr bs' rs' i) := (Option.some.inj ((gy _).symm.trans ez)).symm
      subst ey ez
      have sT := sx.trans (same_new (o := .tup [.bl (ftr bs rs i), .bl (ftr bs' rs' i)]) nT)
      have hT : (upd Hx T (.tup [.bl (ftr bs rs i), .bl (ftr bs' rs' i)])) D = some (.lst (((List.range i).map fun k => (ftr bs rs k != ftr bs' rs' k)).map V.bl)) := by rw [upd_ne (ne_of_none hx nT)]; exact hx
      refine ⟨T, _, rfl, .inl (.inl upd_same), rfl, _, _, rfl, _, _, rfl, rfl, rfl, ?_⟩
      generalize upd Hx T (.tup [.bl (ftr bs rs i), .bl (ftr bs' rs' i)]) = H4 at sT hT ⊢
      have fin : ∀ c : Bool, c = (fun a b : Bool => a != b) (ftr bs rs i) (ftr bs' rs' i) → ∃ acc, H4 D = some (.lst acc) ∧ acc.length < sizeLine ∧ Same H1 (upd H4 D (.lst (acc ++ [.bl c]))) ∧ (upd H4 D (.lst (acc ++ [.bl c]))) D = some (.lst (((List.range (i + 1)).map fun k => (ftr bs rs k != ftr bs' rs' k)).map V.bl)) := fun c e =>
        ⟨_, hT, by rw [w1, List.length_range]; exact Nat.lt_of_le_of_lt (show i ≤ 10000 by omega) (by decide), same_mut sT hD, by rw [upd_same, List.range_succ, List.map_append, List.map_append, e]; rfl⟩
      exact ⟨_, rfl, _, rfl, rfl, fin _ (by cases ftr bs rs i <;> cases ftr bs' rs' i <;> rfl)⟩
    rintro H3 ⟨s3, h5⟩
    have h3 := Same.tup s3 h3
    have h4 := Same.tup s3 h4
    refine ⟨_, rfl, _, rfl, t3, t4, _, _, rfl, .inr ⟨h3, h4, fun D2 hD2 => ?_⟩⟩
    refine lc_it (walk_zipT (n := L) (by rw [w1, w1, List.length_range, Nat.min_self])) (fun i H' => Same H3 H' ∧ H' D2 = some (.lst (((List.range i).map fun k => (led rs k != led rs' k)).map V.bl))) ⟨same_new hD2, upd_same⟩ (fun i H' _ h => ⟨Same.tup h.1 h3, Same.tup h.1 h4⟩) ?_ ?_
    · rintro i x Hx H4 hi ⟨sx, hx⟩ ⟨T, y, z, rfl, nT, rfl, ey, ez⟩
      have gy : ∀ (f : Nat → Bool), (((List.range L).map f).map V.bl)[i]? = some (.bl (f i)) := fun f => by
        rw [List.getElem?_map, List.getElem?_map, List.getElem?_range hi]; rfl
      have ey : y = .bl (led rs i) := (Option.some.inj ((gy _).symm.trans ey)).symm
      have ez : z = .bl (led rs' i) := (Option.some.inj ((gy _).symm.trans ez)).symm
      subst ey ez
      have sT := sx.trans (same_new (o := .tup [.bl (led rs i), .bl (led rs' i)]) nT)
      have hT : (upd Hx T (.tup [.bl (led rs i), .bl (led rs' i)])) D2 = some (.lst (((List.range i).map fun k => (led rs k != led rs' k)).map V.bl)) := by rw [upd_ne (ne_of_none hx nT)]; exact hx
      refine ⟨T, _, rfl, .inl (.inl upd_same), rfl, _, _, rfl, _, _, rfl, rfl, rfl, ?_⟩
      generalize upd Hx T (.tup [.bl (led rs i), .bl (led rs' i)]) = H5 at sT hT ⊢
      have fin : ∀ c : Bool, c = (fun a b : Bool => a != b) (led rs i) (led rs' i) → ∃ acc, H5 D2 = some (.lst acc) ∧ acc.length < sizeLine ∧ Same H3 (upd H5 D2 (.lst (acc ++ [.bl c]))) ∧ (upd H5 D2 (.lst (acc ++ [.bl c]))) D2 = some (.lst (((List.range (i + 1)).map fun k => (led rs k != led rs' k)).map V.bl)) := fun c e =>
        ⟨_, hT, by rw [w1, List.length_range]; exact Nat.lt_of_le_of_lt (show i ≤ 10000 by omega) (by decide), same_mut sT hD2, by rw [upd_same, List.range_succ, List.map_append, List.map_append, e]; rfl⟩
      exact ⟨_, rfl, _, rfl, rfl, fin _ (by cases led rs i <;> cases led rs' i <;> rfl)⟩
    rintro H4 ⟨s4, h6⟩
    have h5 := s4 _ _ h5
    intro x dx nx ndx nex
    have hl0 : 0 < L := by rw [← hL]; exact Nat.lcm_pos hV.2.2.2.1.m1 hU.2.2.2.1.m1
    refine ⟨H4, x, dx, D, D2, (List.range n).map fun k => (ftr bs rs k != ftr bs' rs' k), (List.range L).map fun k => (led rs k != led rs' k), rfl, same_inst nx ndx, nx, upd_same, .inl (.inl (.inl h5)), .inl (.inl (.inl h6)), by rw [List.length_map, List.length_range]; exact hl0, by rw [List.length_map, List.length_range]; exact hb, by rw [List.length_map, List.length_range]; exact hn3, fun m2 s2 H' hc sm hw => ⟨rfl, ?_⟩⟩
    refine q x _ _ H' ((s1.trans (s3.trans s4)).free nx) ((s1.trans (s3.trans s4)).trans sm) (by rw [List.length_map, List.length_range]; exact hn3) (by rw [List.length_map, List.length_range]) (fun k => ?_) ⟨by rw [List.length_map, List.length_range]; exact hl0, by rw [List.length_map, List.length_range]; exact hb, by rw [List.length_map, List.length_range]; exact hn3, m2, s2, hc, hw⟩
    exact op_ftr (op := fun a b => a != b) hV.2.2.2.1 hU.2.2.2.1 hn1 hn2 hl0 (by rw [← hL]; exact Nat.dvd_lcm_left m m') (by rw [← hL]; exact Nat.dvd_lcm_right m m') k
end
end Ef
set_option Elab.async false
set_option linter.all false
set_option maxRecDepth 100000
set_option maxHeartbeats 4000000
namespace Ef
open PySem PySem.Spec PyProof.Rows L2
abbrev sLeast : Stmt := top 33
section
variable {P : Program} {w : World} {K : PySem.W.Frag} {mg : Str → Option Value} {base : Heap}
def spLeast : Sp := fun vs H Q _ => ∃ (r : Addr) (bs rs : List Bool) (m s : Nat), vs = [.ref r] ∧ Md H r bs rs ∧ 1 ≤ rs.length ∧ rs.length ≤ 720 ∧ bs.length ≤ 10000 ∧ Canon bs rs m s ∧
  ∀ t tb tr H', Same H H' → H' t = some (.tup [.ref tb, .ref tr]) → H' tb = some (.tup ((bs.take s).map V.bl)) → H' tr = some (.tup ((rs.take m).map V.bl)) → Q (.ref t) H'
theorem scLeast : FnScope ["model", "below", "rests", "size", "period", "start"] ["model"] (defScope sLeast) := ⟨rfl, rfl, rfl, by decide +kernel, rfl, by decide +kernel, by decide +kernel⟩
theorem df_least (A : At K mg "_law_least_model" sLeast) (T : TxtW mg) : Df P w K mg base 1 "_law_least_model" ["model"] spLeast := by
  obtain ⟨f, fd, hm, F⟩ := A.ex
  refine ⟨f, fd, hm, F.kp, F.binds (fun _ _ _ _ _ _ us hl => match us, hl with | [_], _ => rfl), F.ok scLeast (fun vs H Q E h => ?_) (fun cdv A outer s H vs Q E hr h => ?_)⟩
  · obtain ⟨r, bs, rs, m, s, rfl, _⟩ := h
    rfl
  · obtain ⟨r, bs, rs, m, s, rfl, ⟨rb, rr, h1, h2, h3⟩, hr1, hr2, hb2, hc, q⟩ := h
    refine ⟨_, (pss_cons (ps_asg (pv 0) (pg_tup (by rfl) (pgs_cons (pg_name (i := 1) scLeast.nd rfl (.inl rfl)) (pgs_cons (pg_name (i := 2) scLeast.nd rfl (.inl rfl)) pgs_nil))))
      (pss_cons (ps_for PassesOwn.never rfl (pi_range3 (by rfl) T.range (pa_cons (pe_callB call_len_seq (by rfl) T.len PySem.boot_len (pa_cons (pv 2) pa_nil)) (pa_cons pe_int (pa_cons (pe_un un_neg pe_int) pa_nil)))) (pg_name (i := 3) scLeast.nd rfl (.inl rfl))
      (pss_one (ps_if (pw_and (pt_cmpR op_eq (pe_op op_mod (pe_callB call_len_seq (by rfl) T.len PySem.boot_len (pa_cons (pv 2) pa_nil)) (pv 3)) pe_int (nomark _)) (pw_and1 (pt_cmpR (op_eqD hr.units) (pv 2) (pe_op op_rep (pe_slice sl_list (pv 2) po_none (po_some (pv 3))) (pe_op op_fdiv (pe_callB call_len_seq (by rfl) T.len PySem.boot_len (pa_cons (pv 2) pa_nil)) (pv 3))) (nomark _)))).pt (pss_one (ps_set (i := 4) scLeast.nd rfl (.inl rfl) (pv 3))) pss_nil)))
      (pss_cons (ps_set (i := 5) scLeast.nd rfl (.inl rfl) (pe_callB call_len_seq (by rfl) T.len PySem.boot_len (pa_cons (pv 1) pa_nil)))
      (pss_cons (ps_while PassesOwn.never (pw_and (pt_cmpR op_gt (pv 5) pe_int (nomark _)) (pw_and1 (pt_cmpR op_eq (pe_ix ix_seq (pv 1) (pe_op op_sub (pv 5) pe_int) (fun _ _ => rfl)) (pe_ix ix_seq (pv 2) (pe_op op_mod (pe_callTy call_int1 (by rfl) T.int (by decide +kernel) (pa_cons (pe_op op_sub (pv 5) pe_int) pa_nil)) (pv 4)) (fun _ _ => rfl)) (nomark _)))).pt
      (pss_one (ps_set (i := 5) scLeast.nd rfl (.inl rfl) (pe_op op_sub (pv 5) pe_int))))
      (pss_one (ps_ret (pe_tup (pa_cons (pe_callTy call_tuple_of (by rfl) T.tuple (by decide +kernel) (pa_cons (pe_slice sl_list (pv 1) po_none (po_some (pv 5))) pa_nil)) (pa_cons (pe_callTy call_tuple_of (by rfl) T.tuple (by decide +kernel) (pa_cons (pe_slice sl_list (pv 2) po_none (po_some (pv 4))) pa_nil)) pa_nil))))))))), ?_⟩
    refine ⟨_, rfl, r, _, rfl, .inl (.inl h1), rfl, _, _, rfl, _, _, rfl, rfl, ?_⟩
    have hR : SqL K H rr (rs.map V.bl) := .inl (.inl h3)
    refine ⟨_, rfl, rr, _, rfl, .inl hR, _, rfl, _, _, _, _, rfl, RgC.neg (by rw [List.length_map]; omega) (by rw [List.length_map]; omega) (by decide) (by decide), ?_⟩
    have eL : ((((rs.map V.bl).length : Int) - 0).toNat) = rs.length := by rw [List.length_map]; omega
    rw [eL, List.length_map]
    refine for_rangeC (n := rs.length) (fun i σ H' => Same H H' ∧ ∃ y3 y4 : Option V, σ = [some (.ref r), some (.ref rb), some (.ref rr), y3, y4, none] ∧ ((i = 0 ∧ y4 = none) ∨ ∃ pd : Nat, y4 = some (.int (pd : Int)) ∧ pd ∣ rs.length ∧ PerF (led rs) pd ∧ ∀ d, rs.length - i < d → d ≤ rs.length → d ∣ rs.length → PerF (led rs) d → pd ≤ d))
      ⟨Same.refl H, none, none, rfl, .inl ⟨rfl, rfl⟩⟩ ?_ ?_
    · rintro i σ H1 hi ⟨s1, y3, y4, rfl, hy⟩
      have e1 : ((rs.length : Nat) : Int) + ((i : Nat) : Int) * (-1) = ((rs.length - i : Nat) : Int) := by omega
      rw [e1]
      have hk1 : 1 ≤ rs.length - i := by omega
      have hk2 : rs.length - i ≤ rs.length := by omega
      generalize hk : rs.length - i = k at hk1 hk2
      have skip : (¬ (k ∣ rs.length ∧ PerF (led rs) k)) → (∃ y3' y4' : Option V, [some (V.ref r), some (V.ref rb), some (V.ref rr), some (V.int (k : Int)), y4, none] = [some (.ref r), some (.ref rb), some (.ref rr), y3', y4', none] ∧ ((i + 1 = 0 ∧ y4' = none) ∨ ∃ pd : Nat, y4' = some (.int (pd : Int)) ∧ pd ∣ rs.length ∧ PerF (led rs) pd ∧ ∀ d, rs.length - (i + 1) < d → d ≤ rs.length → d ∣ rs.length → PerF (led rs) d → pd ≤ d)) := fun hno => by
        rcases hy with ⟨rfl, rfl⟩ | ⟨pd, rfl, a1, a2, a3⟩
        · exact absurd ⟨by rw [← hk]; exact Nat.dvd_refl _, by rw [← hk]; exact led_self rs⟩ hno
        · refine ⟨_, _, rfl, .inr ⟨pd, rfl, a1, a2, fun d b1 b2 b3 b4 => ?_⟩⟩
          rcases Nat.lt_or_ge (rs.length - i) d with z | z
          · exact a3 d z b2 b3 b4
          · have : d = k := by omega
            rw [this] at b3 b4
            exact absurd ⟨b3, b4⟩ hno
      refine ⟨_, rfl, rr, _, rfl, .inl (s1.seq hR), _, rfl, _, _, rfl, rfl, by omega, rfl, _, rfl, ?_⟩
      rw [List.length_map, dint']
      by_cases hd : k ∣ rs.length
      · rw [decide_eq_true (show ((rs.length : Nat) : Int) % (k : Int) = 0 from Int.emod_eq_zero_of_dvd (Int.natCast_dvd_natCast.mpr hd))]
        refine iteT ?_
        refine ⟨_, rfl, _, rfl, _, rfl, _, rfl, rr, _, rfl, s1.seq hR, fun t1 ht1 => ?_⟩
        rw [cut_hi rs k hk2]
        have s2 := s1.trans (same_new (o := .lst ((rs.take k).map V.bl)) ht1)
        have e2 : (upd H1 t1 (.lst ((rs.take k).map V.bl))) t1 = some (.lst ((rs.take k).map V.bl)) := upd_same
        generalize upd H1 t1 (.lst ((rs.take k).map V.bl)) = H2 at s2 e2 ⊢
        refine ⟨_, rfl, rr, _, rfl, .inl (s2.seq hR), _, rfl, _, _, rfl, rfl, ⟨by omega, by omega⟩, ?_⟩
        rw [List.length_map]
        have eq : ((rs.length : Int) / (k : Int)) = ((rs.length / k : Nat) : Int) := rfl
        dsimp only
        rw [eq]
        have hqk : k * (rs.length / k) = rs.length := Nat.mul_div_cancel' hd
        have hql : rs.length / k ≤ rs.length := Nat.div_le_self _ _
        have hq0 : (0 : Int) ≤ ((rs.length / k : Nat) : Int) := Int.natCast_nonneg _
        have hq1 : ((rs.length / k : Nat) : Int) ≤ 720 := by exact_mod_cast Nat.le_trans hql hr2
        refine ⟨t1, _, _, rfl, rfl, e2, Int.le_trans (by decide) hq0, Int.lt_of_le_of_lt hq1 (by decide), by rw [List.length_map, List.length_take, Nat.min_eq_left hk2, Int.toNat_natCast, hqk]; exact Nat.le_trans hr2 (by decide), fun t2 ht2 => ?_⟩
        rw [Int.toNat_natCast]
        have efl : (List.replicate (rs.length / k) ((rs.take k).map V.bl)).flatten = ((List.replicate (rs.length / k) (rs.take k)).flatten).map V.bl := by
          rw [List.map_flatten, List.map_replicate]
        rw [efl]
        have s3 := s2.trans (same_new (o := .lst (((List.replicate (rs.length / k) (rs.take k)).flatten).map V.bl)) ht2)
        have e3 : (upd H2 t2 (.lst (((List.replicate (rs.length / k) (rs.take k)).flatten).map V.bl))) t2 = some (.lst (((List.replicate (rs.length / k) (rs.take k)).flatten).map V.bl)) := upd_same
        generalize upd H2 t2 (.lst (((List.replicate (rs.length / k) (rs.take k)).flatten).map V.bl)) = H3 at s3 e3 ⊢
        refine ⟨_, _, .lst (s3.seq hR) (dp_bls _), .lst (.inl (.inl e3)) (dp_bls _), (sh_list (can_bls _).1 (can_bls _).2).1, (sh_list (can_bls _).1 (can_bls _).2).1, _, rfl, ?_⟩
        rw [show PyData.eqv (.list (rs.map PyData.bool)) (.list (((List.replicate (rs.length / k) (rs.take k)).flatten).map PyData.bool)) = decide (rs = (List.replicate (rs.length / k) (rs.take k)).flatten) from eqv_bls _ _]
        have hper := rep_per (by omega) hk1 hd
        by_cases hp : PerF (led rs) k
        · rw [decide_eq_true (hper.mpr hp)]
          refine iteT ⟨_, rfl, s3, _, _, rfl, .inr ⟨k, rfl, hd, hp, fun d b1 b2 b3 b4 => by omega⟩⟩
        · rw [decide_eq_false (fun z => hp (hper.mp z))]
          refine iteF ?_
          exact ⟨s3, skip fun z => hp z.2⟩
      · rw [decide_eq_false (show ¬ ((rs.length : Nat) : Int) % (k : Int) = 0 from fun z => hd (Int.natCast_dvd_natCast.mp (Int.dvd_of_emod_eq_zero z)))]
        refine iteF ?_
        exact ⟨s1, skip fun z => hd z.1⟩
    · rintro σ H1 ⟨s1, y3, y4, rfl, hy⟩
      obtain ⟨pd, rfl, a1, a2, a3⟩ : ∃ pd : Nat, y4 = some (.int (pd : Int)) ∧ pd ∣ rs.length ∧ PerF (led rs) pd ∧ ∀ d, rs.length - rs.length < d → d ≤ rs.length → d ∣ rs.length → PerF (led rs) d → pd ≤ d := by
        rcases hy with ⟨e, _⟩ | h
        · omega
        · exact h
      have hm1 := hc.m1
      have hpd : pd = m := by
        have b1 := a3 m (by omega) (Nat.le_of_dvd (by omega) hc.dvd) hc.dvd hc.per
        have b2 := Nat.le_of_dvd (Nat.pos_of_dvd_of_pos a1 (by omega)) (hc.least pd a2)
        omega
      subst hpd
      refine ⟨_, rfl, rb, _, rfl, .inl (.inl (.inl (s1 _ _ h2))), ?_⟩
      rw [List.length_map]
      refine ⟨fun n σ H' => Same H H' ∧ ∃ y3 : Option V, σ = [some (.ref r), some (.ref rb), some (.ref rr), y3, some (.int (pd : Int)), some (.int (n : Int))] ∧ s ≤ n ∧ n ≤ bs.length, ⟨bs.length, s1, y3, rfl, hc.start.1, Nat.le_refl _⟩, fun n σ H2 hW => ?_⟩
      obtain ⟨s2, y3', rfl, hn1, hn2⟩ := hW
      refine ⟨_, rfl, _, _, rfl, rfl, _, rfl, ?_⟩
      have hpd1 : 1 ≤ pd := hc.m1
      have hpl : pd ≤ rs.length := Nat.le_of_dvd (by omega) hc.dvd
      have hB2 : SqL K H2 rb (bs.map V.bl) := .inl (.inl (s2 _ _ h2))
      have hR2 : SqL K H2 rr (rs.map V.bl) := s2.seq hR
      have ht : (((n : Nat) : Int) > 0 ∧ bs.getD (n - 1) false = led rs (n - 1)) ∨ n = s := by
        rcases Nat.lt_or_ge s n with z | z
        · exact .inl ⟨by omega, hc.start.2.1 (n - 1) (by omega) (by omega)⟩
        · exact .inr (by omega)
      have ret : n = s → ∃ v, [some (V.ref r), some (V.ref rb), some (V.ref rr), y3', some (V.int (pd : Int)), some (V.int (n : Int))][1]? = some (some v) ∧ True := fun _ => ⟨_, rfl, trivial⟩
      cases n with
      | zero =>
        refine iteF ?_
        have hs0 : s = 0 := by omega
        subst hs0
        refine ⟨_, rfl, _, rfl, _, rfl, rb, _, rfl, hB2, fun t1 ht1 => ?_⟩
        rw [cut_hi bs 0 (Nat.zero_le _)]
        have s3 := s2.trans (same_new (o := .lst ((bs.take 0).map V.bl)) ht1)
        have e3 : (upd H2 t1 (.lst ((bs.take 0).map V.bl))) t1 = some (.lst ((bs.take 0).map V.bl)) := upd_same
        generalize upd H2 t1 (.lst ((bs.take 0).map V.bl)) = H3 at s3 e3 ⊢
        refine ⟨t1, _, rfl, .inl ⟨.inl (.inl e3), fun t2 ht2 => ?_⟩⟩
        have s4 := s3.trans (same_new (o := .tup ((bs.take 0).map V.bl)) ht2)
        have e4 : (upd H3 t2 (.tup ((bs.take 0).map V.bl))) t2 = some (.tup ((bs.take 0).map V.bl)) := upd_same
        generalize upd H3 t2 (.tup ((bs.take 0).map V.bl)) = H4 at s4 e4 ⊢
        refine ⟨_, rfl, _, rfl, _, rfl, rr, _, rfl, s4.seq hR, fun t3 ht3 => ?_⟩
        rw [cut_hi rs pd hpl]
        have s5 := same_new (o := .lst ((rs.take pd).map V.bl)) ht3
        have e5 : (upd H4 t3 (.lst ((rs.take pd).map V.bl))) t3 = some (.lst ((rs.take pd).map V.bl)) := upd_same
        generalize upd H4 t3 (.lst ((rs.take pd).map V.bl)) = H5 at s5 e5 ⊢
        refine ⟨t3, _, rfl, .inl ⟨.inl (.inl e5), fun t4 ht4 => ?_⟩⟩
        have s6 := s5.trans (same_new (o := .tup ((rs.take pd).map V.bl)) ht4)
        have e6 : (upd H5 t4 (.tup ((rs.take pd).map V.bl))) t4 = some (.tup ((rs.take pd).map V.bl)) := upd_same
        generalize upd H5 t4 (.tup ((rs.take pd).map V.bl)) = H6 at s6 e6 ⊢
        refine ⟨by show 2 ≤ sizeLine; decide, fun t5 ht5 => ?_⟩
        have s7 := same_new (o := .tup [.ref t2, .ref t4]) ht5
        exact q t5 t2 t4 _ (s4.trans (s6.trans s7)) upd_same (s7 _ _ (s6 _ _ e4)) (s7 _ _ e6)
      | succ k =>
        rw [decide_eq_true (show (0 : Int) < ((k + 1 : Nat) : Int) by omega)]
        have ek : ((k + 1 : Nat) : Int) - 1 = (k : Int) := by omega
        have hk0 : k < bs.length := by omega
        refine iteT ⟨_, rfl, _, rfl, _, _, rfl, rfl, ?_⟩
        dsimp only
        rw [ek]
        refine ix_bls (.inl hB2) (by omega) (by omega) ⟨_, rfl, _, rfl, _, _, rfl, rfl, .inl ⟨_, rfl, _, rfl, _, _, rfl, rfl, by omega, ?_⟩⟩
        rw [ek]
        have em : ((k : Int) % (pd : Int)).toNat = k % pd := by rw [← Int.natCast_emod]; rfl
        have g0 := Int.emod_nonneg (k : Int) (show (pd : Int) ≠ 0 by omega)
        have g1 := Int.emod_lt_of_pos (k : Int) (show (0 : Int) < (pd : Int) by omega)
        refine ix_bls (.inl hR2) g0 (by omega) ⟨rfl, _, rfl, ?_⟩
        rw [em, led_mod hc.per hc.m1 hpl]
        have en : ((k : Nat) : Int).toNat = k := rfl
        rw [en]
        by_cases hx : bs.getD k false = led rs k
        · rw [decide_eq_true (congrArg V.bl hx)]
          have hsk : s ≤ k := by
            rcases Nat.lt_or_ge k s with z | z
            · rcases hc.start.2.2 with w | w
              · omega
              · have : s - 1 = k := by omega
                rw [this] at w
                exact absurd hx w
            · exact z
          refine iteT ⟨fun σ H' => Same H H' ∧ ∃ y3 : Option V, σ = [some (.ref r), some (.ref rb), some (.ref rr), y3, some (.int (pd : Int)), some (.int (k : Int))], fun σ' H' ⟨e1, y, e2⟩ => ⟨k, Nat.lt_succ_self k, e1, y, e2, hsk, by omega⟩, _, rfl, _, _, rfl, rfl, s2, y3', ?_⟩
          show [some (V.ref r), some (V.ref rb), some (V.ref rr), y3', some (V.int (pd : Int)), some (V.int (((k + 1 : Nat) : Int) - 1))] = _
          rw [ek]
        · rw [decide_eq_false (fun z => hx (by injection z))]
          have hsk : s = k + 1 := by
            rcases Nat.lt_or_ge k s with z | z
            · omega
            · exact absurd (hc.start.2.1 k z hk0) hx
          refine iteF ?_
          subst hsk
          refine ⟨_, rfl, _, rfl, _, rfl, rb, _, rfl, hB2, fun t1 ht1 => ?_⟩
          rw [cut_hi bs (k + 1) hn2]
          have s3 := s2.trans (same_new (o := .lst ((bs.take (k + 1)).map V.bl)) ht1)
          have e3 : (upd H2 t1 (.lst ((bs.take (k + 1)).map V.bl))) t1 = some (.lst ((bs.take (k + 1)).map V.bl)) := upd_same
          generalize upd H2 t1 (.lst ((bs.take (k + 1)).map V.bl)) = H3 at s3 e3 ⊢
          refine ⟨t1, _, rfl, .inl ⟨.inl (.inl e3), fun t2 ht2 => ?_⟩⟩
          have s4 := s3.trans (same_new (o := .tup ((bs.take (k + 1)).map V.bl)) ht2)
          have e4 : (upd H3 t2 (.tup ((bs.take (k + 1)).map V.bl))) t2 = some (.tup ((bs.take (k + 1)).map V.bl)) := upd_same
          generalize upd H3 t2 (.tup ((bs.take (k + 1)).map V.bl)) = H4 at s4 e4 ⊢
          refine ⟨_, rfl, _, rfl, _, rfl, rr, _, rfl, s4.seq hR, fun t3 ht3 => ?_⟩
          rw [cut_hi rs pd hpl]
          have s5 := same_new (o := .lst ((rs.take pd).map V.bl)) ht3
          have e5 : (upd H4 t3 (.lst ((rs.take pd).map V.bl))) t3 = some (.lst ((rs.take pd).map V.bl)) := upd_same
          generalize upd H4 t3 (.lst ((rs.take pd).map V.bl)) = H5 at s5 e5 ⊢
          refine ⟨t3, _, rfl, .inl ⟨.inl (.inl e5), fun t4 ht4 => ?_⟩⟩
          have s6 := s5.trans (same_new (o := .tup ((rs.take pd).map V.bl)) ht4)
          have e6 : (upd H5 t4 (.tup ((rs.take pd).map V.bl))) t4 = some (.tup ((rs.take pd).map V.bl)) := upd_same
          generalize upd H5 t4 (.tup ((rs.take pd).map V.bl)) = H6 at s6 e6 ⊢
          refine ⟨by show 2 ≤ sizeLine; decide, fun t5 ht5 => ?_⟩
          have s7 := same_new (o := .tup [.ref t2, .ref t4]) ht5
          exact q t5 t2 t4 _ (s4.trans (s6.trans s7)) upd_same (s7 _ _ (s6 _ _ e4)) (s7 _ _ e6)
end
abbrev sIsw : Stmt := top 34
section
variable {m s : Int} {ra ba ea la : Addr}
end
section
variable {P : Program} {w : World} {K : PySem.W.Frag} {mg : Str → Option Value} {base : Heap}
theorem eqv_ints : ∀ as bs : List Int, PyData.eqvAll (as.map PyData.int) (bs.map PyData.int) = decide (as = bs)
  | [], [] => rfl
  | [], _ :: _ => rfl
  | _ :: _, [] => rfl
  | a :: as, b :: bs => by
    show (PyData.eqv (.int a) (.int b) && PyData.eqvAll (as.map PyData.int) (bs.map PyData.int)) = _
    rw [eqv_ints as bs]
    show (decide (a = b) && decide (as = bs)) = decide (a :: as = b :: bs)
    by_cases h1 : a = b <;> by_cases h2 : as = bs <;> simp [h1, h2]
/-- where has the least data of the model -/
def spIsw (K : PySem.W.Frag) (C : Addr) : Sp := fun vs H Q _ => ∃ (p r : Addr) (m s : Nat) (bs rs bs' rs' : List Bool), vs = [.ref p, .ref r] ∧ WAt K C H p m s bs' rs' ∧ Md H r bs rs ∧ 1 ≤ rs.length ∧ rs.length ≤ 720 ∧ bs.length ≤ 10000 ∧ Canon bs rs m s ∧
  bs'.take s = bs.take s ∧ rs'.take m = rs.take m ∧ ∀ H', Same H H' → Q (.bl true) H'
theorem scIsw : FnScope ["where", "model", "below", "rests"] ["where", "model"] (defScope sIsw) := ⟨rfl, rfl, rfl, by decide +kernel, rfl, by decide +kernel, by decide +kernel⟩
theorem df_isw {C : Addr} (A : At K mg "_law_is_where" sIsw) (T : TxtW mg) (CW : ClsQ K mg C) (Dleast : Df P w K mg base 1 "_law_least_model" ["model"] spLeast) : Df P w K mg base 2 "_law_is_where" ["where", "model"] (spIsw K C) := by
  obtain ⟨f, fd, hm, F⟩ := A.ex
  refine ⟨f, fd, hm, F.kp, F.binds (fun _ _ _ _ _ _ us hl => match us, hl with | [_, _], _ => rfl), F.ok scIsw (fun vs H Q E h => ?_) (fun cdv A outer s H vs Q E hr h => ?_)⟩
  · obtain ⟨p, r, m, s, bs, rs, bs', rs', rfl, _⟩ := h
    rfl
  · obtain ⟨p, r, m, st, bs, rs, bs', rs', rfl, hW, hM, hr1, hr2, hb2, hc, eb, er, q⟩ := h
    have a1 := hc.ml hr1
    have b1 := hc.start.1
    refine ⟨_, (pss_cons (ps_asg (Dleast.call (hr.mono (by decide)) (pa_cons (pv 1) pa_nil)) (pg_tup (by rfl) (pgs_cons (pg_name (i := 2) scIsw.nd rfl (.inl rfl)) (pgs_cons (pg_name (i := 3) scIsw.nd rfl (.inl rfl)) pgs_nil))))
      (pss_cons (ps_if (pw_or (pt_not (pt_val (pe_callB call_isi (by rfl) T.isinstance (by decide +kernel) (pa_cons (pv 0) (pa_cons (pe_glob (v := .ref C) (by rfl) CW.mgC rfl) pa_nil))))) (pw_or1 (pt_cmpR (op_neD hr.units) (pe_tup (pa_cons (pe_fld (pv 0) rfl) (pa_cons (pe_fld (pv 0) rfl) pa_nil))) (pe_tup (pa_cons (pe_callB call_len_seq (by rfl) T.len PySem.boot_len (pa_cons (pv 3) pa_nil)) (pa_cons (pe_callB call_len_seq (by rfl) T.len PySem.boot_len (pa_cons (pv 2) pa_nil)) pa_nil))) (nomark _)))).pt (pss_one (ps_ret pe_bl)) pss_nil)
      (pss_one (ps_ret (pe_and (pe_cmpR (op_eqD hr.units) (pe_fld (pv 0) rfl) (pv 2) (nomark _)) (pe_one (pe_cmpR (op_eqD hr.units) (pe_fld (pv 0) rfl) (pv 3) (nomark _)))))))), ?_⟩
    refine ⟨_, rfl, r, bs, rs, m, st, rfl, hM, hr1, hr2, hb2, hc, fun t tb tr H1 s1 ht htb htr => ?_⟩
    refine ⟨t, _, rfl, .inl (.inl ht), rfl, _, _, rfl, _, _, rfl, rfl, ?_⟩
    obtain ⟨dx, ra, ba, ea, la, h1, h2, h3, h4, h5⟩ := hW.same s1
    refine ⟨_, rfl, _, _, _, _, true, rfl, .own C, .base (.ins h1 CW.cl CW.cc CW.cg CW.ct CW.co), if_pos (by simp), ?_⟩
    refine ⟨_, rfl, iteF ?_⟩
    refine ⟨_, rfl, p, C, dx, _, _, rfl, h1, CW.cl, CW.nP, wf_period, _, rfl, p, C, dx, _, _, rfl, h1, CW.cl, CW.nS, wf_start, by show 2 ≤ sizeLine; decide, fun t1 ht1 => ?_⟩
    have s2 := s1.trans (same_new (o := .tup [.int (m : Int), .int (st : Int)]) ht1)
    have e2 : (upd H1 t1 (.tup [.int (m : Int), .int (st : Int)])) t1 = some (.tup ([(m : Int), (st : Int)].map V.int)) := upd_same
    have htb := same_new (o := .tup [.int (m : Int), .int (st : Int)]) ht1 _ _ htb
    have htr := same_new (o := .tup [.int (m : Int), .int (st : Int)]) ht1 _ _ htr
    generalize upd H1 t1 (.tup [.int (m : Int), .int (st : Int)]) = H2 at s2 e2 htb htr ⊢
    refine ⟨_, rfl, tr, _, rfl, .inr (.inl (.inl htr)), _, rfl, tb, _, rfl, .inr (.inl (.inl htb)), by show 2 ≤ sizeLine; decide, fun t2 ht2 => ?_⟩
    rw [List.length_map, List.length_map, List.length_take, List.length_take, Nat.min_eq_left a1, Nat.min_eq_left b1]
    have s3 := same_new (o := .tup [.int (m : Int), .int (st : Int)]) ht2
    have e3 : (upd H2 t2 (.tup [.int (m : Int), .int (st : Int)])) t2 = some (.tup ([(m : Int), (st : Int)].map V.int)) := upd_same
    have htb := s3 _ _ htb
    have htr := s3 _ _ htr
    have e2 := s3 _ _ e2
    have s4 := s2.trans s3
    generalize upd H2 t2 (.tup [.int (m : Int), .int (st : Int)]) = H3 at s4 e2 e3 htb htr ⊢
    refine ⟨_, _, .tup (.inl (.inl e2)) (dp_ints _), .tup (.inl (.inl e3)) (dp_ints _), (sh_list (can_ints _).1 (can_ints _).2).2, (sh_list (can_ints _).1 (can_ints _).2).2, _, rfl, ?_⟩
    rw [show PyData.eqv (.tuple ([(m : Int), (st : Int)].map PyData.int)) (.tuple ([(m : Int), (st : Int)].map PyData.int)) = true from (eqv_ints _ _).trans (decide_eq_true rfl)]
    refine iteF ?_
    obtain ⟨dx, ra, ba, ea, la, h1, h2, h3, h4, h5⟩ := hW.same s4
    refine ⟨_, rfl, p, C, dx, _, _, rfl, h1, CW.cl, CW.nB, wf_below, _, rfl, eq_blsT (t := true) h3 (.inl (.inl htb)) ?_⟩
    rw [eb, decide_eq_true rfl]
    refine ⟨_, rfl, iteT ?_⟩
    refine ⟨_, rfl, p, C, dx, _, _, rfl, h1, CW.cl, CW.nR, wf_rests, _, rfl, eq_blsT (t := true) h2 (.inl (.inl htr)) ?_⟩
    rw [er, decide_eq_true rfl]
    exact q _ s4
end
end Ef
set_option Elab.async false
set_option linter.all false
set_option maxRecDepth 100000
set_option maxHeartbeats 4000000
namespace Ef
open PySem PySem.Spec PyProof.Rows L2
/-! ### the period of one rest, and of its opposite -/
theorem onceR_len (m : Nat) (r : Int) : (onceR m r).length = m := by unfold onceR; rw [List.length_map, List.length_range]
theorem led_rest {m r : Nat} (hm : 0 < m) (n : Nat) : led (onceR m r) n = decide (n % m = r) := by
  have hlt := Nat.mod_lt n hm
  unfold led
  rw [onceR_len, List.getD_eq_getElem?_getD]
  unfold onceR
  rw [List.getElem?_map, List.getElem?_range hlt]
  show decide (((n % m : Nat) : Int) = (r : Int)) = _
  by_cases h : n % m = r
  · rw [decide_eq_true (by rw [h]), decide_eq_true h]
  · rw [decide_eq_false (by omega), decide_eq_false h]
theorem per_rest {m r d : Nat} (hr : r < m) (h : PerF (led (onceR m r)) d) : m ∣ d := by
  have e := h r
  rw [led_rest (by omega), led_rest (by omega), Nat.mod_eq_of_lt hr] at e
  have e2 : (r + d) % m = r := of_decide_eq_true (e.trans (decide_eq_true rfl))
  have e3 : (r + d) % m = r % m := by rw [e2, Nat.mod_eq_of_lt hr]
  have := Nat.sub_mod_eq_zero_of_mod_eq e3
  rw [Nat.add_sub_cancel_left] at this
  exact Nat.dvd_of_mod_eq_zero this
theorem canon_rest {m r m' s' : Nat} (hr : r < m) (h : Canon [] (onceR m r) m' s') : m' = m := by
  have h1 := per_rest hr h.per
  have h2 := h.dvd
  rw [onceR_len] at h2
  exact Nat.dvd_antisymm h2 h1
theorem canon_not {m r m' s' : Nat} {bs rs : List Bool} (hr : r < m) (h1 : 1 ≤ rs.length) (h : Canon bs rs m' s') (hd : rs.length ∣ m) (hN : ∀ n, ftr bs rs n = !ftr [] (onceR m r) n) : m' = m := by
  have hm : 0 < m := by omega
  have hl : ∀ n, led rs n = !led (onceR m r) n := fun n => by
    have e : led rs (n + bs.length * rs.length) = led rs n := by
      unfold led
      rw [Nat.add_mul_mod_self_right]
    have e1 := hN (n + bs.length * rs.length * m)
    have hge : ¬ n + bs.length * rs.length * m < bs.length := by
      have a1 : bs.length ≤ bs.length * rs.length := Nat.le_mul_of_pos_right _ h1
      have a2 : bs.length * rs.length ≤ bs.length * rs.length * m := Nat.le_mul_of_pos_right _ hm
      omega
    unfold ftr at e1
    rw [if_neg hge, if_neg (show ¬ n + bs.length * rs.length * m < ([] : List Bool).length from Nat.not_lt_zero _)] at e1
    have e2 : led rs (n + bs.length * rs.length * m) = led rs n := by
      unfold led
      rw [show bs.length * rs.length * m = rs.length * (bs.length * m) by rw [Nat.mul_comm bs.length, Nat.mul_assoc], Nat.add_mul_mod_self_left]
    have e3 : led (onceR m r) (n + bs.length * rs.length * m) = led (onceR m r) n := by
      rw [led_rest hm, led_rest hm, Nat.add_mul_mod_self_right]
    rw [e2, e3] at e1
    exact e1
  have hp : PerF (led (onceR m r)) m' := fun n => by
    have := h.per n
    rw [hl, hl] at this
    cases a : led (onceR m r) (n + m') <;> cases b : led (onceR m r) n <;> rw [a, b] at this <;> first | rfl | cases this
  exact Nat.dvd_antisymm (Nat.dvd_trans h.dvd hd) (per_rest hr hp)
/-! ### _law_most -/
abbrev sMost : Stmt := top 37
def EMo (CF : Addr) (Q : VK) : XK := fun cls d H' => cls = .ref CF ∧ ∃ (dd : Addr), d = some dd ∧ H' dd = some (.xd [("most", .int 720)]) ∧ Q (.int 720) H'
def TMost (CF : Addr) : (XK → Hp → VK → Prop) → Hp → VK → Prop := fun tl H Q => tl (EMo CF Q) H fun _ H' => Q .non H'
theorem scMost : FnScope ["ask", "e"] ["ask"] (defScope sMost) := ⟨rfl, rfl, rfl, by decide +kernel, rfl, by decide +kernel, by decide +kernel⟩
theorem most_gives {X : Cx} {g CF fF : Addr} {cdg : Value} {q : Str} (EFi : ErrF X.K X.mg "TooFine" "most" CF fF) (ff : PySem.W.exmOne X.K (.ref CF) (.ref CF) = some true) :
    LamX.GivesTo X ["ask", "e"] "_law_most" (defScope sMost) g cdg (defBody sMost) "ask" q (TMost CF) := by
  intro f c' s H Q tl act hc h
  refine ⟨_, (pss_cons (ps_try_asL (X := (cxOf C8.CX0 X.prog X.w X.K X.mg X.base ["ask", "e"] "_law_most" (defScope sMost) g cdg X.A X.stack s H C8.E0).nox) (tb := fun W D σ H1 => ∃ Ech : XK, (∀ (cls : Value) (d : Option Addr) (σ' : L2.St) (H' : Hp), σ'.length = 2 → Ech cls d H' → W cls d σ' H') ∧ σ[0]? = some (some (.ref f)) ∧ H1 c' = some (LamX.CodeO c' q) ∧ tl Ech H1 fun _ H2 => D.nx σ H2) rfl rfl scMost.nd takes0
      (fun W pn xe tk _ => ⟨fun pins s' σ H' D I h' => ?_⟩)
      (.cons (i := 1) (x := "TooFine") (n := "e") rfl rfl ⟨rfl, by decide, .inl EFi.mgC⟩ (fun a oe cls d pn hz hf => pss_one (ps_ret (pe_xf EFi.xf EFi.nN hz hf (pv 1))))
      .nil)))
      (pss_one (ps_ret pe_non)), ?_⟩
  · obtain ⟨Ech, hW, h1, h2, h3⟩ := h'
    have tk' : Takes ((cxOf C8.CX0 X.prog X.w X.K X.mg X.base ["ask", "e"] "_law_most" (defScope sMost) g cdg X.A X.stack s H C8.E0).tr pn xe) (fun cls d σ' H' => σ'.length = 2 → W cls d σ' H') := by
      intro u s2 hx
      obtain ⟨a, B, sI, pins', σ', H2, cls, d, e1, J, nb, up, sky, na, os, ag, hw⟩ := hx
      exact tk u s2 ⟨a, B, sI, pins', σ', H2, cls, d, e1, J, nb, up, sky, na, os, ag, hw J.len⟩
    exact (pss_one (ps_expr (act _ pn xe Ech _ _ tk' fun cls d σ' H' hE hl => hW cls d σ' H' hl hE))).run pins s' σ H' D I ⟨h1, h2, h3⟩
  · refine ⟨EMo CF Q, fun cls d σ' H' hlen hE => ?_, rfl, hc, h⟩
    match σ', hlen with
    | [z0, z1], _ =>
      obtain ⟨rfl, dd, rfl, hx, q⟩ := hE
      refine ⟨true, ff, fun _ a ha => ?_, fun z => Bool.noConfusion z⟩
      exact ⟨_, rfl, rfl, rfl, dd, _, _, rfl, hx, rfl, q⟩
end Ef
set_option Elab.async false
set_option linter.all false
set_option maxRecDepth 100000
set_option maxHeartbeats 2000000
/-! a lambda that captures nothing, as an object that is known: made, handed to defs, kept in names, called with values -/
namespace Ef
open PySem PySem.Spec PyProof.Rows L2 LamX NdefX
/-- its words, its code object -/
structure LF where
  qual : Str
  params : Arguments
  body : Expr
  scope : Scope
  c : Addr
abbrev LF.nf (L : LF) : NF := ⟨"<lambda>", L.qual, L.params, [], L.scope, [], L.c⟩
/-- the object at f is the lambda L -/
def LnO (f : Addr) (L : LF) : HO := .ext fun h => ∃ (pm ctv : Value), h.get? f = some (PySem.W.kla_obj "<lambda>" L.qual L.params L.body L.scope [] pm L.c ctv)
theorem lnO_ne {f : Addr} {L : LF} (ps : Array Value) : LnO f L ≠ .tbl ps := fun z => by
  unfold LnO at z
  cases z
theorem lnO_at {P : Program} {w : World} {H : Hp} {h : Heap} {f : Addr} {L : LF} (hok : HOk P w H h) (e : H f = some (LnO f L)) : ∃ (pm ctv : Value), h.get? f = some (PySem.W.kla_obj "<lambda>" L.qual L.params L.body L.scope [] pm L.c ctv) := by
  obtain ⟨z, _, _⟩ := hok f _ e
  exact z
section
variable {X : Cx} {pins : List (Addr × Obj)} {σ : L2.St} {H : Hp} {s : Shared}
theorem inv_ln {L : LF} {t' : Nat} {pm ctv : Value} (I : Inv X pins σ H s) :
    Inv X pins σ (upd H s.heap.objs.size (LnO s.heap.objs.size L)) { s with heap := s.heap.push (PySem.W.kla_obj "<lambda>" L.qual L.params L.body L.scope [] pm L.c ctv), toks := t' } := by
  refine I.laid (a := s.heap.objs.size) (fun b u e => Heap.get?_push_of_some _ e) (Nat.le_refl _) ?_
  have e : (s.heap.push (PySem.W.kla_obj "<lambda>" L.qual L.params L.body L.scope [] pm L.c ctv)).get? s.heap.objs.size = some (PySem.W.kla_obj "<lambda>" L.qual L.params L.body L.scope [] pm L.c ctv) := Heap.get?_push_size _ rfl
  exact ⟨⟨pm, ctv, e⟩, ⟨_, e⟩, fun h1 h2 ⟨p, t, z⟩ st => ⟨p, t, st _ z⟩⟩
/-- the lambda's object is made: its code object is new, or found in the table -/
theorem lam_makeO {T : List (Addr × Str)} {c P : Addr} {params : Arguments} {body : Expr} {scope : Scope} {pos : Pos} {E : Value → Shared → Prop} {Q : Value → Shared → Prop} (I : Inv X pins σ H s) (TB : TabB X.base X.mg c P) (hcode : X.env.code = .ref c)
    (hm : (P, X.env.qual ++ "<lambda>") ∈ T) (hu : ∀ p ∈ T, p.1 = P → p.2 = X.env.qual ++ "<lambda>") (hT : Tabs T H) (hdef : defaultsOf params X.env = ([], [])) (hcl : closureFor scope X.env = pure [])
    (h : ∀ (f c' : Addr) (H1 : Hp) (s' : Shared), Inv X pins σ H1 s' → ExtN H H1 → (∀ b, H1 b = Option.none → H b = Option.none) → Tabs T H1 → H f = none →
      H1 f = some (LnO f ⟨X.env.qual ++ "<lambda>", params, body, scope, c'⟩) → H1 c' = some (CodeO c' (X.env.qual ++ "<lambda>")) → Q (.ref f) s') :
    wpAny (model X.prog X.w) X.A (eval (.Lambda params body scope pos) X.env) Q E s := by
  obtain ⟨ps, hP, ht, ha⟩ := hT _ hm
  refine PySem.W.kla_eval hdef ?_
  have bP : s.heap.BuiltinsAt X.mg P := TB.bm.keeps I.bk
  have hP' : s.heap.get? P = some { cls := .none, data := .fields ps } := I.hok P _ hP
  cases hc : codeAmong pos ps.toList with
  | none =>
    refine PySem.W.kla_makeFunction (mg := X.mg) (c := c) (P := P) (ps := ps) hcl I.ok.glob (I.mod.glob.keeps I.bk) hcode (TB.code.keeps I.bk) hP' ht hc TB.gP bP fun c' ctv h' tk hx hge hlt hrec htb => ?_
    obtain ⟨c2, oc, vs, t, e2, hoc, hd, hv⟩ := hrec
    cases e2
    have nC : H c' = none := I.hok.fresh hge
    have I1 := inv_table (t' := tk) (more := #[rawInt pos.line, rawInt pos.col, .ref c']) (h' := h') I hP (fun b o hb e => hx b o hb e) htb hge ⟨oc, vs, t, hoc, hd, hv⟩
    have hE : ExtN H (upd (upd H P (.tbl (ps ++ #[rawInt pos.line, rawInt pos.col, .ref c']))) c' (CodeO c' (X.env.qual ++ "<lambda>"))) := fun b o e n => by
      rw [upd_ne (ne_of_none e nC), upd_ne (fun z => n ps (Option.some.inj (e.symm.trans (by rw [z]; exact hP))))]
      exact e
    have eL : (ps ++ #[rawInt pos.line, rawInt pos.col, .ref c']).toList = ps.toList ++ [rawInt pos.line, rawInt pos.col, .ref c'] := by simp
    have T1 : Tabs T (upd (upd H P (.tbl (ps ++ #[rawInt pos.line, rawInt pos.col, .ref c']))) c' (CodeO c' (X.env.qual ++ "<lambda>"))) := fun p hp => by
      by_cases hb : p.1 = P
      · rw [hu p hp hb, hb]
        refine ⟨_, by rw [upd_ne (ne_of_none hP nC), upd_same], by rw [eL]; exact PySem.TriplesOk_snoc _ _ _ _ ht, fun p' cv hcv => ?_⟩
        rw [eL] at hcv
        rcases among_app _ ht hcv with z | z
        · obtain ⟨c0, e1, e2⟩ := ha p' cv z
          exact ⟨c0, e1, hE _ _ e2 codeO_ne⟩
        · exact ⟨c', z, upd_same⟩
      · obtain ⟨ps', a1, a2, a3⟩ := hT p hp
        refine ⟨ps', by rw [upd_ne (ne_of_none a1 nC), upd_ne hb]; exact a1, a2, fun p' cv hcv => ?_⟩
        obtain ⟨c0, e1, e2⟩ := a3 p' cv hcv
        exact ⟨c0, e1, hE _ _ e2 codeO_ne⟩
    have nF := I1.hok.fresh (Nat.le_refl _)
    have I2 := inv_ln (L := ⟨X.env.qual ++ "<lambda>", params, body, scope, c'⟩) (t' := tk) (pm := (X.mg "__name__").getD .none) (ctv := ctv) I1
    refine h h'.objs.size c' _ _ I2 (fun b o e n => ?_) (fun b e => upd_none (upd_none (upd_none e))) (fun p hp => (T1 p hp).ext fun b o e => ?_) (I.hok.fresh (Nat.le_trans hge (Nat.le_of_lt hlt))) upd_same ?_
    · have e1 := hE b o e n
      exact (upd_ne (ne_of_none e1 nF)).trans e1
    · exact (upd_ne (ne_of_none e nF)).trans e
    · exact (upd_ne (Nat.ne_of_lt hlt)).trans upd_same
  | some cv =>
    obtain ⟨c', e, hco⟩ := ha pos cv hc
    subst e
    refine PySem.W.kla_makeFunctionHit (mg := X.mg) (c := c) (P := P) (ps := ps) hcl I.ok.glob (I.mod.glob.keeps I.bk) hcode (TB.code.keeps I.bk) hP' ht hc bP fun ctv h' tk hx hsz => ?_
    have I1 : Inv X pins σ H { s with heap := h', toks := tk } := I.kept hx
    have nF : H h'.objs.size = none := I1.hok.fresh (Nat.le_refl _)
    have I2 := inv_ln (L := ⟨X.env.qual ++ "<lambda>", params, body, scope, c'⟩) (t' := tk) (pm := (X.mg "__name__").getD .none) (ctv := ctv) I1
    refine h h'.objs.size c' _ _ I2 (fun b o e n => ?_) (fun b e => upd_none e) (fun p hp => (hT p hp).ext fun b o e => ?_) nF upd_same ?_
    · exact (upd_ne (ne_of_none e nF)).trans e
    · exact (upd_ne (ne_of_none e nF)).trans e
    · exact (upd_ne (ne_of_none hco nF)).trans hco
end
/-- the lambda as a value -/
def tLamO (T : List (Addr × Str)) (mk : Addr → LF) : TE := fun σ H Q => Tabs T H ∧ ∀ (f c' : Addr) (H1 : Hp), ExtN H H1 → (∀ b, H1 b = Option.none → H b = Option.none) → Tabs T H1 → H f = none → H1 f = some (LnO f (mk c')) → H1 c' = some (CodeO c' (mk c').qual) → Q (.ref f) H1
section
variable {X : Cx}
theorem pe_lamO {T : List (Addr × Str)} {c P : Addr} {params : Arguments} {body : Expr} {scope : Scope} {pos : Pos} (TB : TabB X.base X.mg c P) (hcode : X.env.code = .ref c)
    (hm : (P, X.env.qual ++ "<lambda>") ∈ T) (hu : ∀ p ∈ T, p.1 = P → p.2 = X.env.qual ++ "<lambda>") (hdef : defaultsOf params X.env = ([], [])) (hcl : closureFor scope X.env = pure []) :
    PE X (.Lambda params body scope pos) (tLamO T fun c' => ⟨X.env.qual ++ "<lambda>", params, body, scope, c'⟩) := by
  refine ⟨fun pins s σ H Q I h => ?_⟩
  obtain ⟨hT, h⟩ := h
  exact lam_makeO I TB hcode hm hu hT hdef hcl fun f c' H1 s' I1 e1 e2 T1 f0 f1 c1 => ⟨.ref f, H1, I1, rfl, h f c' H1 e1 e2 T1 f0 f1 c1⟩
end
/-! ### what it promises -/
structure LOk (P : Program) (w : World) (K : PySem.W.Frag) (mg : Str → Option Value) (base : Heap) (CX : CXT) (k : Nat) (f : Addr) (L : LF) (ps : List Str) (sp : Sp) : Prop where
  len : ∀ vs H Q E, sp vs H Q E → vs.length = ps.length
  run : ∀ (A : Around) (outer : List Env) (s : Shared) (H : Hp) (us : List Value) (vs : List V) (Q : VK) (E : XK), Room k A → Env0 P w K mg base A outer s H → H f = some (LnO f L) → H L.c = some (CodeO L.c L.qual) →
    Vals vs us → sp vs H Q E → codeAny (model P w) A (.call (.ref f) ⟨us, []⟩) (CR CX outer P w H s Q E) s
section
variable {CX : CXT} {P : Program} {w : World} {K : PySem.W.Frag} {mg : Str → Option Value} {base : Heap} {ps : List Str} {L : LF} {f : Addr} {k j : Nat} {sp : Sp}
theorem cells_nil {h : Heap} {H : Hp} : CellsAt [] [] [] h H := ⟨rfl, fun y c e => (nomatch e), fun x y c e => (nomatch e), fun i y e => (nomatch e)⟩
theorem lok_of (S : NScope ps ps [] L.scope) (hb : ∀ (pm ctv : Value) (us : List Value), us.length = ps.length → bindArgs (PySem.W.kla_fn "<lambda>" L.qual L.params L.body L.scope [] pm (.ref L.c) ctv) ⟨us, []⟩ = pure (ps.zip us)) (len : ∀ vs H Q E, sp vs H Q E → vs.length = ps.length)
    (hbody : ∀ (A : Around) (outer : List Env) (s : Shared) (H : Hp) (vs : List V) (Q : VK) (E : XK), Room k (A.deeper (envF L.nf f s.heap.objs.size)) → sp vs H Q E →
      ∃ t, PE (ncx CX P w K mg base ps L.nf f A outer s H E) L.body t ∧ t (startF ps vs []) H Q) :
    LOk P w K mg base CX (k + 1) f L ps sp := by
  refine ⟨len, fun A outer s H us vs Q E hr e0 hf hc r hsp => ?_⟩
  have hl := len _ _ _ _ hsp
  have lim : s.heap.NoLimit := e0.mod.nolimit.keeps fun b o e => (e0.bs b o e).1
  obtain ⟨pm, ctv, ho⟩ := lnO_at e0.hok hf
  refine PySem.W.kla_callFunE hr.depth ho rfl S.co S.gen rfl (codeO_at e0.hok hc) ?_
  rw [hb pm ctv us (by rw [← r.length]; exact hl)]
  refine wpAny_pure (wpAny_newFunctionEnv S.nocell (fun ⟨n, _⟩ hy => S.par n (List.of_mem_zip hy).1) (fun h₁ hns hsb => ⟨lim.fresh _ hsb, ?_⟩) S.kind)
  show codeAny _ _ (.expr L.body (envF L.nf f s.heap.objs.size)) _ _
  have kp : ∀ b o, s.heap.get? b = some o → h₁.get? b = some o := fun b o e => hsb.extBut b o (Nat.ne_of_lt (Heap.lt_size e)) (Heap.get?_push_of_some _ e)
  obtain ⟨t, ht, hq⟩ := hbody A outer s H vs Q E (hr.deeper _) hsp
  have I : Inv (ncx CX P w K mg base ps L.nf f A outer s H E) [] (startF ps vs []) H { s with heap := h₁, toks := s.toks + (ps.zip us).length } := inv_startN S hr.hd e0 hl r cells_nil hns kp
  refine PySem.W.kla_codeExpr (wpAny_mono (ht.run [] _ (startF ps vs []) H Q I hq) (fun v s' hq => ?_) fun e s' hq => hq)
  obtain ⟨w', H', J', rv, q⟩ := hq
  exact ⟨w', H', J'.os, J'.bare, J'.base, J'.hok, rv, q⟩
end
/-! ### calls -/
/-- f(..), f a name that holds a lambda; the spec says of the lambda what it promises -/
def tCallL (L : Addr → LF → Prop) (i : Nat) (sp : Addr → LF → Sp) (E : XK) (t : TA) : TE := fun σ H Q => ∃ (f : Addr) (l : LF), L f l ∧ σ[i]? = some (some (.ref f)) ∧ H f = some (LnO f l) ∧
  t σ H fun vs H1 => H1 f = some (LnO f l) ∧ H1 l.c = some (CodeO l.c l.qual) ∧ sp f l vs H1 Q E
section
variable {X : Cx} {CX : CXT} {ps : List Str} {L : Addr → LF → Prop} {i j k : Nat} {x : Str} {sp : Addr → LF → Sp} {E : XK} {t : TA} {e : Expr} {es : List Expr} {p pos : Pos}
theorem ln_fnAt {pins : List (Addr × Obj)} {σ : L2.St} {H : Hp} {s : Shared} {f : Addr} {l : LF} (I : Inv X pins σ H s) (e : H f = some (LnO f l)) : PySem.W.FnAt f s.heap := by
  obtain ⟨pm, ctv, ho⟩ := lnO_at I.hok e
  exact ⟨_, _, _, _, ho⟩
theorem run_l {pins : List (Addr × Obj)} {σ : L2.St} {H : Hp} {s : Shared} {Q : VK} {f : Addr} {l : LF} {us : List Value} {vs : List V} (Fn : LOk X.prog X.w X.K X.mg X.base CX k f l ps (sp f l)) (hr : Room j X.A) (hk : k ≤ j) (hx : Passes CX X E) (I : Inv X pins σ H s)
    (hf : H f = some (LnO f l)) (hc : H l.c = some (CodeO l.c l.qual)) (r : Vals vs us) (q : sp f l vs H Q E) :
    wpAny (model X.prog X.w) X.A (call (.ref f) us) (EP X pins σ Q) X.xe s := by
  refine wpAny_call (codeAny_mono (Fn.run X.A X.stack s H us vs Q E (hr.mono hk) I.env0 hf hc r q) fun r s' hq => ?_)
  cases r with
  | error e => exact hx pins σ H s e s' I hq
  | ok fl =>
    cases fl with
    | ret u => exact I.after hq
    | next => exact False.elim hq
    | brk => exact False.elim hq
    | cont => exact False.elim hq
theorem pe_calll (Fn : ∀ f l, L f l → LOk X.prog X.w X.K X.mg X.base CX k f l ps (sp f l)) (hr : Room j X.A) (hk : k ≤ j) (hx : Passes CX X E) (hN : X.N[i]? = some x) (hv : Vis X.env.scope x) (ha : PA X (e :: es) t)
    (hd : (x == ("__debug__" : Str)) = false := by decide) (hcd : (x == ("__classdict__" : Str)) = false := by decide)
    (he : starEach (e :: es) X.env = (false, eval e X.env) :: starEach es X.env := by rfl) (hpl : (backTo pos (starEach es X.env)).any (·.1) = false := by rfl) :
    PE X (.Call (.Name x p) (e :: es) [] pos) (tCallL L i sp E t) := by
  refine ⟨fun pins s σ H Q I h => ?_⟩
  obtain ⟨f, l, hL, hs, hf, ht⟩ := h
  refine wpAny_Call_Name_kw (thn ((pe_var (pos := p) hN hv hd hcd).run pins s σ H (fun v H1 => v = .ref f ∧ H1 = H) I ⟨.ref f, hs, rfl, rfl⟩) fun u s1 ⟨v, H1, I1, r1, q1⟩ => ?_)
  obtain ⟨ev, eH⟩ := q1
  subst ev
  rw [eH] at I1
  obtain rfl : u = Value.ref f := r1
  refine PySem.W.callWith_F (first := []) (ln_fnAt I1 hf) (thn (ha.run pos pins s1 σ H _ I1 ht) fun us s2 ⟨vs, H2, I2, r, h1, h2, q⟩ => ⟨ln_fnAt I2 h1, ?_⟩) he hpl
  show wpAny _ _ (call (.ref f) us) _ _ _
  exact run_l (Fn f l hL) hr hk hx I2 h1 h2 r q
end
end Ef
set_option Elab.async false
set_option linter.all false
set_option maxRecDepth 100000
set_option maxHeartbeats 4000000
namespace Ef
open PySem PySem.Spec PyProof.Rows L2
abbrev sJoined : Stmt := top 36
theorem cmul_small {i j : Nat} (h : i ≤ 1000) : CMul (i : Int) (j : Int) := .inl ⟨by omega, by omega⟩
theorem joined_ftr {op : Bool → Bool → Bool} {bs rs cs ts : List Bool} {N p : Nat} (hb : bs.length ≤ 40) (hcs : cs.length ≤ 40) (hp : 1 ≤ p) (d1 : rs.length ∣ p) (d2 : ts.length ∣ p) (h1 : bs.length ≤ N) (h2 : cs.length ≤ N) (n : Nat) :
    ftr ((List.range N).map fun k => op (ftr bs rs k) (ftr cs ts k)) ((List.range p).map fun k => op (ftr bs rs (60 * p + k)) (ftr cs ts (60 * p + k))) n = op (ftr bs rs n) (ftr cs ts n) := by
  by_cases h : n < N
  · unfold ftr
    rw [if_pos (by rw [List.length_map, List.length_range]; exact h), List.getD_eq_getElem?_getD, List.getElem?_map, List.getElem?_range h]
    rfl
  · have hlt := Nat.mod_lt n (show 0 < p by omega)
    have e : ∀ (as qs : List Bool), as.length ≤ 40 → as.length ≤ N → qs.length ∣ p → ftr as qs (60 * p + n % p) = ftr as qs n := by
      intro as qs ha hn hd
      unfold ftr
      rw [if_neg (by omega), if_neg (by omega)]
      unfold led
      have e2 : (60 * p + n % p) % qs.length = n % qs.length := by
        rw [Nat.add_mod, Nat.mod_eq_zero_of_dvd (Nat.dvd_trans hd (Nat.dvd_mul_left p 60)), Nat.zero_add, Nat.mod_mod, Nat.mod_mod_of_dvd _ hd]
      rw [e2]
    conv => lhs; unfold ftr
    rw [if_neg (by rw [List.length_map, List.length_range]; exact h)]
    unfold led
    rw [List.length_map, List.length_range, List.getD_eq_getElem?_getD, List.getElem?_map, List.getElem?_range hlt]
    show op (ftr bs rs (60 * p + n % p)) (ftr cs ts (60 * p + n % p)) = _
    rw [e bs rs hb h1 d1, e cs ts hcs h2 d2]
/-- two truths in, one out -/
def spB (op : Bool → Bool → Bool) : Sp := fun vs H Q _ => ∃ x y : Bool, vs = [.bl x, .bl y] ∧ Q (.bl (op x y)) H
section
variable {P : Program} {w : World} {K : PySem.W.Frag} {mg : Str → Option Value} {base : Heap}
abbrev Lb (P : Program) (w : World) (K : PySem.W.Frag) (mg : Str → Option Value) (base : Heap) (f : Addr) (l : LF) (op : Bool → Bool → Bool) : Prop := LOk P w K mg base CX0 1 f l ["a", "b"] (spB op)
def spL (P : Program) (w : World) (K : PySem.W.Frag) (mg : Str → Option Value) (base : Heap) : Addr → LF → Sp := fun f l vs H Q E => ∃ op, Lb P w K mg base f l op ∧ spB op vs H Q E
theorem lok_ex {f : Addr} {l : LF} : LOk P w K mg base CX0 1 f l ["a", "b"] (spL P w K mg base f l) :=
  ⟨fun vs H Q E ⟨op, h, q⟩ => h.len _ _ _ _ q, fun A outer s H us vs Q E hr e0 hf hc r ⟨op, h, q⟩ => h.run A outer s H us vs Q E hr e0 hf hc r q⟩
def spJoined (P : Program) (w : World) (K : PySem.W.Frag) (mg : Str → Option Value) (base : Heap) : Sp := fun vs H Q _ => ∃ (r u f : Addr) (l : LF) (op : Bool → Bool → Bool) (bs rs cs ts : List Bool), vs = [.ref r, .ref u, .ref f] ∧ Md H r bs rs ∧ Md H u cs ts ∧ H f = some (LnO f l) ∧ H l.c = some (LamX.CodeO l.c l.qual) ∧ Lb P w K mg base f l op ∧
  bs.length ≤ 40 ∧ cs.length ≤ 40 ∧ 1 ≤ rs.length ∧ rs.length ≤ 24 ∧ 1 ≤ ts.length ∧ ts.length ≤ 24 ∧ ∀ (t : Addr) (xs ys : List Bool) H', Same H H' → Md H' t xs ys → xs.length ≤ 40 → ys.length = rs.length * ts.length → (∀ n, ftr xs ys n = op (ftr bs rs n) (ftr cs ts n)) → Q (.ref t) H'
theorem scJoined : FnScope ["one", "other", "rule", "period", "many", "below", "rests", "n"] ["one", "other", "rule"] (defScope sJoined) := ⟨rfl, rfl, rfl, by decide +kernel, rfl, by decide +kernel, by decide +kernel⟩
theorem df_joined (A : At K mg "_law_joined" sJoined) (T : TxtJ mg) (Dtruth : Df P w K mg base 1 "_law_truth" ["model", "n"] spTruth) : Df P w K mg base 2 "_law_joined" ["one", "other", "rule"] (spJoined P w K mg base) := by
  obtain ⟨f_, fd, hm, F⟩ := A.ex
  refine ⟨f_, fd, hm, F.kp, F.binds (fun _ _ _ _ _ _ us hl => match us, hl with | [_, _, _], _ => rfl), F.ok scJoined (fun vs H Q E h => ?_) (fun cdv A outer s H vs Q E hr h => ?_)⟩
  · obtain ⟨r, u, f, l, op, bs, rs, cs, ts, rfl, _⟩ := h
    rfl
  · obtain ⟨r, u, f, l, op, bs, rs, cs, ts, rfl, hM, hU, hf, hc, hL, hb, hcs, hr1, hr2, ht1, ht2, q⟩ := h
    refine ⟨_, (pss_cons (ps_par (i := 3) (j := 4) (by rfl) scJoined.nd rfl rfl (by decide) rfl rfl (pa_cons (pe_op op_mul (pe_callB call_len_seq (by rfl) T.len PySem.boot_len (pa_cons (pe_ix ix_tup (pv 0) pe_int (fun _ _ => rfl)) pa_nil)) (pe_callB call_len_seq (by rfl) T.len PySem.boot_len (pa_cons (pe_ix ix_tup (pv 1) pe_int (fun _ _ => rfl)) pa_nil))) (pa_cons (pe_callB (call_max2 rfl) (by rfl) T.max (by decide +kernel) (pa_cons (pe_callB call_len_seq (by rfl) T.len PySem.boot_len (pa_cons (pe_ix ix_tup (pv 0) pe_int (fun _ _ => rfl)) pa_nil)) (pa_cons (pe_callB call_len_seq (by rfl) T.len PySem.boot_len (pa_cons (pe_ix ix_tup (pv 1) pe_int (fun _ _ => rfl)) pa_nil)) pa_nil))) pa_nil)) (by rfl))
      (pss_cons (ps_setLc (i := 5) (own := [("n", 7)]) (g := gName 7) (by rfl) scJoined.nd rfl rfl (sw_true rfl rfl rfl (by decide +kernel)) (pi_range1 (by rfl) T.range (pa_cons (pv 4) pa_nil)) (blkOk_by (own := [("n", 7)]) (N := ["one", "other", "rule", "period", "many", "below", "rests", "n"]) (sc := defScope sJoined) (by decide +kernel)) (fun _ _ _ _ _ => pg_name (i := 7) scJoined.nd rfl (Or.inl rfl)) (fun _ _ _ _ _ => pts_nil) (fun _ _ _ _ _ => (pe_calll (i := 2) (L := fun _ _ => True) (j := 1) (sp := spL P w K mg base) (fun f l _ => lok_ex) (hr.mono (by decide)) (Nat.le_refl 1) pass0 rfl (by first | exact Or.inl rfl | exact Or.inr (Or.inl rfl) | exact Or.inr (Or.inr rfl)) (pa_cons (Dtruth.call (hr.mono (by decide)) (pa_cons (pv 0) (pa_cons (pv 7) pa_nil))) (pa_cons (Dtruth.call (hr.mono (by decide)) (pa_cons (pv 1) (pa_cons (pv 7) pa_nil))) pa_nil)))))
      (pss_cons (ps_setLc (i := 6) (own := [("n", 7)]) (g := gName 7) (by rfl) scJoined.nd rfl rfl (sw_true rfl rfl rfl (by decide +kernel)) (pi_range2 (by rfl) T.range (pa_cons (pe_op op_mul pe_int (pv 3)) (pa_cons (pe_op op_mul pe_int (pv 3)) pa_nil))) (blkOk_by (own := [("n", 7)]) (N := ["one", "other", "rule", "period", "many", "below", "rests", "n"]) (sc := defScope sJoined) (by decide +kernel)) (fun _ _ _ _ _ => pg_name (i := 7) scJoined.nd rfl (Or.inl rfl)) (fun _ _ _ _ _ => pts_nil) (fun _ _ _ _ _ => (pe_calll (i := 2) (L := fun _ _ => True) (j := 1) (sp := spL P w K mg base) (fun f l _ => lok_ex) (hr.mono (by decide)) (Nat.le_refl 1) pass0 rfl (by first | exact Or.inl rfl | exact Or.inr (Or.inl rfl) | exact Or.inr (Or.inr rfl)) (pa_cons (Dtruth.call (hr.mono (by decide)) (pa_cons (pv 0) (pa_cons (pv 7) pa_nil))) (pa_cons (Dtruth.call (hr.mono (by decide)) (pa_cons (pv 1) (pa_cons (pv 7) pa_nil))) pa_nil)))))
      (pss_one (ps_ret (pe_tup (pa_cons (pv 5) (pa_cons (pv 6) pa_nil)))))))), ?_⟩
    obtain ⟨rb, rr, er, erb, err⟩ := id hM
    obtain ⟨ub, ur, eu, eub, eur⟩ := id hU
    refine ⟨_, rfl, r, _, 1, _, rfl, rfl, .inl (.inl er), rfl, rr, _, rfl, .inl (.inl (.inl err)), _, rfl, u, _, 1, _, rfl, rfl, .inl (.inl eu), rfl, ur, _, rfl, .inl (.inl (.inl eur)), _, _, rfl, rfl, cmul_small (by rw [List.length_map]; omega), ?_⟩
    refine ⟨_, rfl, r, _, 0, _, rfl, rfl, .inl (.inl er), rfl, rb, _, rfl, .inl (.inl (.inl erb)), _, rfl, u, _, 0, _, rfl, rfl, .inl (.inl eu), rfl, ub, _, rfl, .inl (.inl (.inl eub)), _, _, rfl, ?_⟩
    refine ⟨_, _, rfl, ?_⟩
    obtain ⟨p, hp⟩ : ∃ p : Nat, p = rs.length * ts.length := ⟨_, rfl⟩
    have hp1 : 1 ≤ p := by rw [hp]; exact Nat.mul_pos hr1 ht1
    have hp2 : p ≤ 576 := by rw [hp]; exact Nat.mul_le_mul hr2 ht2
    have ep : (((rs.map V.bl).length : Nat) : Int) * (((ts.map V.bl).length : Nat) : Int) = (p : Int) := by
      rw [List.length_map, List.length_map, ← Int.natCast_mul, hp]
    obtain ⟨N, hN, hN1, hN2, hN3⟩ : ∃ N : Nat, (if (((cs.map V.bl).length : Nat) : Int) > (((bs.map V.bl).length : Nat) : Int) then (((cs.map V.bl).length : Nat) : Int) else (((bs.map V.bl).length : Nat) : Int)) = (N : Int) ∧ bs.length ≤ N ∧ cs.length ≤ N ∧ N ≤ 40 := by
      rw [List.length_map, List.length_map]
      by_cases h : bs.length < cs.length
      · exact ⟨cs.length, by rw [if_pos (by omega)], by omega, by omega, by omega⟩
      · exact ⟨bs.length, by rw [if_neg (by omega)], by omega, by omega, by omega⟩
    dsimp only
    rw [ep, hN]
    clear ep hN
    have w1 : ∀ (l : List Nat) (f : Nat → Bool), ((l.map f).map V.bl).length = l.length := fun l f => by rw [List.length_map, List.length_map]
    refine ⟨_, rfl, _, rfl, by omega, by omega, fun D hD => ?_⟩
    rw [Int.toNat_natCast]
    refine lc_range (lo := 0) (n := N) (fun i H' => Same H H' ∧ H' D = some (.lst (((List.range i).map fun k : Nat => op (ftr bs rs k) (ftr cs ts k)).map V.bl))) ⟨same_new hD, upd_same⟩ ?_ ?_
    · rintro i H2 hi ⟨s2, h2⟩
      rw [show (0 : Int) + ((i : Nat) : Int) = (i : Int) from Int.zero_add _]
      refine ⟨rfl, f, l, True.intro, rfl, s2 _ _ hf, _, rfl, _, rfl, r, bs, rs, _, rfl, hM.same s2, by omega, hr1, ?_⟩
      refine ⟨_, rfl, _, rfl, u, cs, ts, _, rfl, hU.same s2, by omega, ht1, ?_⟩
      refine ⟨s2 _ _ hf, s2 _ _ hc, op, hL, _, _, rfl, ?_⟩
      rw [mtruth_ftr, mtruth_ftr]
      refine ⟨_, h2, by rw [w1, List.length_range]; exact Nat.lt_of_le_of_lt (show i ≤ 10000 by omega) (by decide), same_mut s2 hD, ?_⟩
      rw [upd_same, List.range_succ, List.map_append, List.map_append]
      rfl
    rintro H2 ⟨s2, h2⟩
    have hM2 := hM.same s2
    have hU2 := hU.same s2
    refine ⟨_, rfl, _, _, rfl, rfl, cmul_small (i := 60) (by decide), _, rfl, _, _, rfl, rfl, cmul_small (i := 61) (by decide), ?_⟩
    dsimp only
    rw [show (60 : Int) * (p : Int) = ((60 * p : Nat) : Int) from (Int.natCast_mul 60 p).symm, show (61 : Int) * (p : Int) = ((61 * p : Nat) : Int) from (Int.natCast_mul 61 p).symm]
    refine ⟨_, _, rfl, ⟨by omega, by omega, by omega, by omega⟩, fun D2 hD2 => ?_⟩
    rw [show (((61 * p : Nat) : Int) - ((60 * p : Nat) : Int)).toNat = p by omega]
    refine lc_range (lo := ((60 * p : Nat) : Int)) (n := p) (fun i H' => Same H2 H' ∧ H' D2 = some (.lst (((List.range i).map fun k : Nat => op (ftr bs rs (60 * p + k)) (ftr cs ts (60 * p + k))).map V.bl))) ⟨same_new hD2, upd_same⟩ ?_ ?_
    · rintro i H3 hi ⟨s3, h3⟩
      rw [show ((60 * p : Nat) : Int) + ((i : Nat) : Int) = ((60 * p + i : Nat) : Int) from (Int.natCast_add _ _).symm]
      have s23 := s2.trans s3
      refine ⟨rfl, f, l, True.intro, rfl, s23 _ _ hf, _, rfl, _, rfl, r, bs, rs, _, rfl, hM.same s23, by omega, hr1, ?_⟩
      refine ⟨_, rfl, _, rfl, u, cs, ts, _, rfl, hU.same s23, by omega, ht1, ?_⟩
      refine ⟨s23 _ _ hf, s23 _ _ hc, op, hL, _, _, rfl, ?_⟩
      rw [mtruth_ftr, mtruth_ftr]
      refine ⟨_, h3, by rw [w1, List.length_range]; exact Nat.lt_of_le_of_lt (show i ≤ 10000 by omega) (by decide), same_mut s3 hD2, ?_⟩
      rw [upd_same, List.range_succ, List.map_append, List.map_append]
      rfl
    rintro H3 ⟨s3, h3⟩
    have h2 := s3 _ _ h2
    refine ⟨_, rfl, _, rfl, by show 2 ≤ sizeLine; decide, fun t ht => ?_⟩
    have s4 := same_new (o := .tup [.ref D, .ref D2]) ht
    refine q t _ _ _ (s2.trans (s3.trans s4)) ⟨D, D2, upd_same, s4 _ _ h2, s4 _ _ h3⟩ (by rw [List.length_map, List.length_range]; exact hN3) (by rw [List.length_map, List.length_range, hp]) fun n => ?_
    exact joined_ftr (by omega) (by omega) hp1 ⟨ts.length, hp⟩ ⟨rs.length, by rw [hp, Nat.mul_comm]⟩ hN1 hN2 n
end
end Ef
set_option Elab.async false
set_option linter.all false
set_option maxRecDepth 100000
set_option maxHeartbeats 8000000
namespace Ef
open PySem PySem.Spec PyProof.Rows L2 ClX
abbrev sRefd : Stmt := top 38
abbrev TT (PR PT : Addr) : List (Addr × Str) := [(PR, ("_law_refused.<locals>.<lambda>" : Str)), (PT, ("law.<locals>.<lambda>" : Str))]
theorem huR {PR PT : Addr} (D : ¬ PR = PT) : ∀ p ∈ TT PR PT, p.1 = PR → p.2 = ("_law_refused.<locals>.<lambda>" : Str) := fun p hp e => (List.mem_cons.mp hp).elim (fun z => by rw [z]) fun z => absurd ((congrArg Prod.fst (List.mem_singleton.mp z)).symm.trans e) fun y => D y.symm
theorem huT {PR PT : Addr} (D : ¬ PR = PT) : ∀ p ∈ TT PR PT, p.1 = PT → p.2 = ("law.<locals>.<lambda>" : Str) := fun p hp e => (List.mem_cons.mp hp).elim (fun z => absurd ((congrArg Prod.fst z).symm.trans e) D) fun z => by rw [List.mem_singleton.mp z]
theorem passF {X : Cx} : Passes (CX X.prog X.w) X (fun _ _ _ => False) := fun pins σ H s e s' I h => by
  obtain ⟨a, B, H', cls, d, _, _, _, _, _, _, _, hE⟩ := h
  exact hE.elim
theorem passX {X : Cx} {A : Around} {outer : List Env} {s : Shared} {H : Hp} {E : XK} {scope : Scope} {f c' : Addr} : Passes (CX X.prog X.w) (LamX.lamCx X A outer s H E scope f c') E :=
  fun pins σ H1 s1 e s' I h => passes_call (X := LamX.lamCx X A outer s H E scope f c') (takes_of rfl rfl rfl rfl) (fun _ _ _ _ h => h) pins σ H1 s1 e s' I h
theorem tabs_same {T : List (Addr × Str)} {H H' : Hp} (t : LamX.Tabs T H) (e : Same H H') : LamX.Tabs T H' := fun p hp => (t p hp).ext e
theorem tab_kp {H H' : Hp} {P p l : Addr} {q : Str} {ns : List Int} {a b : Int} (t : LamX.TabS H P q) (k : Kp p H H') (hp : Pen H p l ns a b) : LamX.TabS H' P q := by
  obtain ⟨ps, h1, h2, h3⟩ := t
  refine ⟨ps, k _ _ (ne_of h1 hp.hd (by intro q; cases q)) h1, h2, fun pos cv hc => ?_⟩
  obtain ⟨c, e1, e2⟩ := h3 pos cv hc
  exact ⟨c, e1, k _ _ (ne_of e2 hp.hd (by intro q; cases q)) e2⟩
theorem tabs_kp {T : List (Addr × Str)} {H H' : Hp} {p l : Addr} {ns : List Int} {a b : Int} (t : LamX.Tabs T H) (k : Kp p H H') (hp : Pen H p l ns a b) : LamX.Tabs T H' := fun x hx => tab_kp (t x hx) k hp
/-- all but the pen and the tables stays -/
def Kx (p : Addr) (H H' : Hp) : Prop := ∀ b o, b ≠ p → (∀ ps, o ≠ HO.tbl ps) → H b = some o → H' b = some o
theorem Kx.of_same {p : Addr} {H H' : Hp} (h : Same H H') : Kx p H H' := fun b o _ _ e => h b o e
theorem Kx.of_kp {p : Addr} {H H' : Hp} (h : Kp p H H') : Kx p H H' := fun b o n _ e => h b o n e
theorem Kx.of_ext {p : Addr} {H H' : Hp} (h : LamX.ExtN H H') : Kx p H H' := fun b o _ n e => h b o e n
theorem Kx.trans {p : Addr} {H H' H2 : Hp} (h : Kx p H H') (k : Kx p H' H2) : Kx p H H2 := fun b o n m e => k b o n m (h b o n m e)
theorem Kx.lst {p b : Addr} {H H' : Hp} {xs : List V} {d : List (Key × V)} (k : Kx p H H') (hp : H p = some (.dK d)) (h : H b = some (.lst xs)) : H' b = some (.lst xs) := k _ _ (ne_of h hp (by intro z; cases z)) (fun _ z => by cases z) h
theorem Kx.tup {p b : Addr} {H H' : Hp} {xs : List V} {d : List (Key × V)} (k : Kx p H H') (hp : H p = some (.dK d)) (h : H b = some (.tup xs)) : H' b = some (.tup xs) := k _ _ (ne_of h hp (by intro z; cases z)) (fun _ z => by cases z) h
theorem Kx.sqt {K : PySem.W.Frag} {p b : Addr} {H H' : Hp} {xs : List V} {d : List (Key × V)} (k : Kx p H H') (hp : H p = some (.dK d)) (h : SqT K H b xs) : SqT K H' b xs := by
  rcases h with (h | ⟨z, h⟩) | h
  · exact .inl (.inl (k.tup hp h))
  · exact .inl (.inr ⟨z, k _ _ (ne_of h hp (by intro q; cases q)) (fun _ z => by cases z) h⟩)
  · exact .inr h
theorem Kx.md {p r : Addr} {H H' : Hp} {bs rs : List Bool} {d : List (Key × V)} (k : Kx p H H') (hp : H p = some (.dK d)) (h : Md H r bs rs) : Md H' r bs rs := by
  obtain ⟨rb, rr, h1, h2, h3⟩ := h
  exact ⟨rb, rr, k.tup hp h1, k.lst hp h2, k.lst hp h3⟩
theorem Kx.wat {K : PySem.W.Frag} {C p q : Addr} {H H' : Hp} {m s : Nat} {bs rs : List Bool} {d : List (Key × V)} (k : Kx p H H') (hp : H p = some (.dK d)) (h : WAt K C H q m s bs rs) : WAt K C H' q m s bs rs := by
  obtain ⟨dx, ra, ba, ea, la, h1, h2, h3, h4, h5⟩ := h
  exact ⟨dx, ra, ba, ea, la, k _ _ (ne_of h1 hp (by intro z; cases z)) (fun _ z => by cases z) h1, k.sqt hp h2, k.sqt hp h3, k.sqt hp h4, k.sqt hp h5⟩
theorem ext_of {H H' : Hp} (h : LamX.ExtN H H') {b : Addr} {o : HO} (e : H b = some o) (n : ∀ ps : Array Value, o ≠ .tbl ps) : H' b = some o := h b o e n
theorem Pen.ext {H H' : Hp} {p l : Addr} {ns : List Int} {a b : Int} (h : Pen H p l ns a b) (e : LamX.ExtN H H') : Pen H' p l ns a b := ⟨ext_of e h.hd (fun _ z => by cases z), ext_of e h.hl (fun _ z => by cases z), h.len, h.a0, h.b0⟩
theorem Pen.same {H H' : Hp} {p l : Addr} {ns : List Int} {a b : Int} (h : Pen H p l ns a b) (e : Same H H') : Pen H' p l ns a b := ⟨e _ _ h.hd, e _ _ h.hl, h.len, h.a0, h.b0⟩
theorem sqt_lst {K : PySem.W.Frag} {H : Hp} {q l : Addr} {ys xs : List V} {o : HO} (h2 : SqT K H q xs) (hl : H l = some (.lst ys)) : SqT K (upd H l o) q xs := by
  rcases h2 with (h | ⟨z, h⟩) | h
  · exact .inl (.inl (by rw [upd_ne (ne_of h hl (by intro q; cases q))]; exact h))
  · exact .inl (.inr ⟨z, by rw [upd_ne (ne_of h hl (by intro q; cases q))]; exact h⟩)
  · exact .inr h
theorem WAt.lst {K : PySem.W.Frag} {C : Addr} {H : Hp} {q l : Addr} {m s : Nat} {bs rs : List Bool} {ys : List V} {o : HO} (h : WAt K C H q m s bs rs) (hl : H l = some (.lst ys)) : WAt K C (upd H l o) q m s bs rs := by
  obtain ⟨dx, ra, ba, ea, la, h1, h2, h3, h4, h5⟩ := h
  exact ⟨dx, ra, ba, ea, la, by rw [upd_ne (ne_of h1 hl (by intro q; cases q))]; exact h1, sqt_lst h2 hl, sqt_lst h3 hl, sqt_lst h4 hl, sqt_lst h5 hl⟩
/-- where _law_fault stands -/
structure MostAt (K : PySem.W.Frag) (mg : Str → Option Value) (g : Addr) (oc : Value) (od an : Option Addr) (kV doc pm cdv ct : Value) (osl : Array (Option Value)) : Prop where
  mg_ : mg "_law_most" = some (.ref g)
  kp : PySem.W.keepIn K (.ref g) = true
  lk : K.lookup g = some ⟨oc, od, .func (PySem.W.fnOf "_law_most" "_law_most" (defArgs sMost) (defBody sMost) (defScope sMost) .none kV doc pm an cdv ct), osl⟩
  cd : PySem.W.codeIn K cdv "_law_most" = true
  b : Binds K (PySem.W.fnOf "_law_most" "_law_most" (defArgs sMost) (defBody sMost) (defScope sMost) .none kV doc pm an cdv ct) ["ask"] []
theorem Kx.wm {K : PySem.W.Frag} {C p q : Addr} {H H' : Hp} {m s : Nat} {bs rs : List Bool} {d : List (Key × V)} (k : Kx p H H') (hp : H p = some (.dK d)) (h : Wm K C H q m s bs rs) : Wm K C H' q m s bs rs := ⟨h.1, h.2.1, h.2.2.1, h.2.2.2.1, k.wat hp h.2.2.2.2⟩
theorem Whr.wm {K : PySem.W.Frag} {C p : Addr} {H : Hp} {bs rs : List Bool} (h : Whr K C H p bs rs) : ∃ m s, Wm K C H p m s bs rs := by
  obtain ⟨h1, h2, h3, m, s, h4⟩ := h
  exact ⟨m, s, h1, h2, h3, h4⟩
/-- what is asked: a set, or one refused -/
theorem ne_720 {K : PySem.W.Frag} {H : Hp} {R : VK} (q : R (.bl false) H) : rNeD K (.int 720) (.int 720) H R := ⟨_, _, .int _, .int _, by decide, by decide, q⟩
theorem ne_non {K : PySem.W.Frag} {H : Hp} {R : VK} (q : R (.bl false) H) : rNeD K .non .non H R := ⟨_, _, .non, .non, by decide, by decide, q⟩
theorem eq_720 {K : PySem.W.Frag} {H : Hp} {R : VK} (q : R (.bl true) H) : rEqD K (.int 720) (.int 720) H R := ⟨_, _, .int _, .int _, by decide, by decide, q⟩
theorem eq_non {K : PySem.W.Frag} {H : Hp} {R : VK} (q : R (.bl true) H) : rEqD K .non .non H R := ⟨_, _, .non, .non, by decide, by decide, q⟩
section
variable {P : Program} {w : World} {K : PySem.W.Frag} {mg : Str → Option Value} {base : Heap}
theorem most_ask {C CF PR PT x1 x3 p l : Addr} {op : Bool → Bool → Bool} {σ : L2.St} {H : Hp} {R : VK} {m c1 j c3 : Nat} {bs rs bs' rs' : List Bool} {g : Bool} {ns : List Int} {a b : Int} (hT : LamX.Tabs (TT PR PT) H) (hP : Pen H p l ns a b) (h5 : σ[5]? = some (some (.ref x1))) (h6 : σ[6]? = some (some (.ref x3)))
    (hA : Wm K C H x1 m c1 bs rs) (hB : Wm K C H x3 j c3 bs' rs') (hg : g = true ↔ 720 < Nat.lcm m j) (q : ∀ H', LamX.Tabs (TT PR PT) H' → Pen H' p l ns a b → Wm K C H' x1 m c1 bs rs → Wm K C H' x3 j c3 bs' rs' → R (if g = true then .int 720 else .non) H') :
    (LamX.tLam (TT PR PT) (TMost CF) fun E' => tOp (rOwnBin C (spOp K C CF op) E') (tVar 5) (tVar 6)) σ H R := by
  refine ⟨hT, fun H1 e1 hT1 => ?_⟩
  have hA1 := (Kx.of_ext (p := p) e1).wm hP.hd hA
  have hB1 := (Kx.of_ext (p := p) e1).wm hP.hd hB
  have hP1 := hP.ext e1
  obtain ⟨dx, _, _, _, _, g1, _⟩ := hA1.2.2.2.2
  obtain ⟨dy, _, _, _, _, g3, _⟩ := hB1.2.2.2.2
  refine ⟨_, h5, _, h6, x1, dx, x3, dy, _, _, rfl, rfl, g1, g3, x1, x3, m, c1, j, c3, _, _, _, _, rfl, hA1, hB1, ?_⟩
  cases g with
  | true => exact .inl ⟨hg.mp rfl, fun d H2 s2 hd hx => ⟨rfl, d, rfl, hx, q H2 (tabs_same hT1 s2) (hP1.same s2) (hA1.same s2) (hB1.same s2)⟩⟩
  | false =>
    have hle : Nat.lcm m j ≤ 720 := by
      rcases Nat.lt_or_ge 720 (Nat.lcm m j) with z | z
      · exact absurd (hg.mpr z) Bool.false_ne_true
      · exact z
    exact .inr ⟨hle, fun x xs ys H2 nx s2 _ _ _ _ => ⟨⟨x, rfl⟩, q H2 (tabs_same hT1 s2) (hP1.same s2) (hA1.same s2) (hB1.same s2)⟩⟩
theorem ne_due {H : Hp} {R : VK} {g : Bool} (q : R (.bl false) H) : rNeD K (if g = true then .int 720 else .non) (if g = true then .int 720 else .non) H R := by
  cases g with
  | true => exact ne_720 q
  | false => exact ne_non q
theorem eq_due {H : Hp} {R : VK} {g : Bool} (q : R (.bl true) H) : rEqD K (if g = true then .int 720 else .non) (if g = true then .int 720 else .non) H R := by
  cases g with
  | true => exact eq_720 q
  | false => exact eq_non q
theorem due_if {σ : L2.St} {H : Hp} {R : VK} {g : Bool} (h4 : σ[4]? = some (some (.bl g))) (q : R (if g = true then .int 720 else .non) H) : tIf (tB (tVar 4)) (tC (V.int 720)) (tC V.non) σ H R := by
  refine ⟨_, h4, _, rfl, ?_⟩
  cases g with
  | true => exact iteT q
  | false => exact iteF q
def spRefd (K : PySem.W.Frag) (PR PT : Addr) : Sp := fun vs H Q _ => ∃ (p l : Addr) (ns : List Int) (a b : Int), vs = [.ref p] ∧ Pen H p l ns a b ∧ a ≤ 900000000 ∧ LamX.Tabs (TT PR PT) H ∧ ∀ (a' b' : Int) H', a' ≤ a + 10 → Pen H' p l ns a' b' → LamX.Tabs (TT PR PT) H' → Q (.bl true) H'
theorem scRefd : FnScope ["pen", "options", "m", "j", "is_great", "one", "other", "due"] ["pen"] (defScope sRefd) := ⟨rfl, rfl, rfl, by decide +kernel, rfl, by decide +kernel, by decide +kernel⟩
theorem ok_refd {f C CF fF g cR PR PT gr pr : Addr} {mc : Value} {oc oc2 kV doc pm ct kV2 doc2 pm2 cdv2 ct2 : Value} {od an od2 an2 : Option Addr} {osl osl2 : Array (Option Value)}
    (lk : K.lookup f = some ⟨oc, od, .func (PySem.W.fnOf "_law_refused" "_law_refused" (defArgs sRefd) (defBody sRefd) (defScope sRefd) .none kV doc pm an (.ref cR) ct), osl⟩) (hcd : PySem.W.codeIn K (.ref cR) "_law_refused" = true)
    (T : TxtJ mg) (CW : ClsQ K mg C) (CR : CRead K C mc) (CMr : CMet K C mc "rest" pr gr) (GMr : FnR P w K mg base CX0 5 gr (spRest K C)) (hdC : hdIn K C = true) (OI : OwnG P w K mg base CX0 5 C "__invert__" ["self"] (spInv K C))
    (OOr : OwnG P w K mg base (CX P w) 5 C "__or__" ["self", "other"] (spOp K C CF (fun a b => a || b))) (OAnd : OwnG P w K mg base (CX P w) 5 C "__and__" ["self", "other"] (spOp K C CF (fun a b => a && b)))
    (OSub : OwnG P w K mg base (CX P w) 5 C "__sub__" ["self", "other"] (spOp K C CF (fun a b => a && !b))) (OXor : OwnG P w K mg base (CX P w) 5 C "__xor__" ["self", "other"] (spOp K C CF (fun a b => a != b)))
    (FT : MostAt K mg g oc2 od2 an2 kV2 doc2 pm2 cdv2 ct2 osl2) (EFi : ErrF K mg "TooFine" "most" CF fF) (ff : PySem.W.exmOne K (.ref CF) (.ref CF) = some true) (TB : LamX.TabB base mg cR PR) (DD : ¬ PR = PT)
    (Ddraw : Df P w K mg base 1 "_law_draw" ["pen", "many"] spDraw) (Dpick : Df P w K mg base 2 "_law_pick" ["pen", "some"] (spPick K)) :
    FnOk P w K mg base CX0 8 f (PySem.W.fnOf "_law_refused" "_law_refused" (defArgs sRefd) (defBody sRefd) (defScope sRefd) .none kV doc pm an (.ref cR) ct) ["pen"] (spRefd K PR PT) := by
  refine fn_of lk hcd scRefd (fun vs H Q E h => ?_) (fun A outer s H vs Q E hr h => ?_)
  · obtain ⟨p, l, ns, a, b, rfl, _⟩ := h
    rfl
  · obtain ⟨p, l, ns, a, b, rfl, hP, ha, hT, q⟩ := h
    refine ⟨_, PSs.nox (pss_cons (ps_set (i := 1) scRefd.nd rfl (.inl rfl) (pe_lst (pa_cons (pe_tup (pa_cons pe_int (pa_cons pe_int (pa_cons pe_bl pa_nil)))) (pa_cons (pe_tup (pa_cons pe_int (pa_cons pe_int (pa_cons pe_bl pa_nil)))) (pa_cons (pe_tup (pa_cons pe_int (pa_cons pe_int (pa_cons pe_bl pa_nil)))) (pa_cons (pe_tup (pa_cons pe_int (pa_cons pe_int (pa_cons pe_bl pa_nil)))) (pa_cons (pe_tup (pa_cons pe_int (pa_cons pe_int (pa_cons pe_bl pa_nil)))) pa_nil)))))))
      (pss_cons (ps_asg (Dpick.call (hr.mono (by decide)) (pa_cons (pv 0) (pa_cons (pv 1) pa_nil))) (pg_tup (by rfl) (pgs_cons (pg_name (i := 2) scRefd.nd rfl (.inl rfl)) (pgs_cons (pg_name (i := 3) scRefd.nd rfl (.inl rfl)) (pgs_cons (pg_name (i := 4) scRefd.nd rfl (.inl rfl)) pgs_nil)))))
      (pss_cons (ps_asg (pe_tup (pa_cons (pe_cmeth (pe_glob (v := .ref C) (by rfl) CW.mgC rfl) CR CMr GMr (hr.mono (by decide)) pass0 (pa_cons (pv 2) (pa_cons (Ddraw.call (hr.mono (by decide)) (pa_cons (pv 0) (pa_cons (pv 2) pa_nil))) pa_nil))) (pa_cons (pe_un (un_inv_own OI (hr.mono (by decide)) pass0) (pe_cmeth (pe_glob (v := .ref C) (by rfl) CW.mgC rfl) CR CMr GMr (hr.mono (by decide)) pass0 (pa_cons (pv 3) (pa_cons (Ddraw.call (hr.mono (by decide)) (pa_cons (pv 0) (pa_cons (pv 3) pa_nil))) pa_nil)))) pa_nil))) (pg_tup (by rfl) (pgs_cons (pg_name (i := 5) scRefd.nd rfl (.inr rfl)) (pgs_cons (pg_name (i := 6) scRefd.nd rfl (.inr rfl)) pgs_nil))))
      (pss_cons (ps_set (i := 7) scRefd.nd rfl (.inl rfl) (pe_ifExp (pt_val (pv 4)) pe_int pe_non))
      (pss_cons (ps_if (pt_cmpR (op_neD hr.units) (LamX.pe_lamcall (k := 5) (by rfl) FT.mg_ FT.kp FT.lk FT.cd FT.b scMost rfl (.inl rfl) (most_gives EFi ff) TB rfl (show (PR, ("_law_refused.<locals>.<lambda>" : Str)) ∈ TT PR PT from List.Mem.head _) (huR DD) (hr.mono (by decide)) (LamX.lamS_by (show LamX.lamSB (defScope sRefd) _ = true by decide +kernel)) rfl (fun _ _ _ _ _ => rfl) (fun A' outer' s' H' E' f' c' hr' => (pe_op (op_bin_own (op := .BitOr) rfl rfl OOr hdC (hr'.mono (by decide)) passX) (pv 5) (pv 6)))) (pv 7) (nomark _)) (pss_one (ps_ret pe_bl)) pss_nil)
      (pss_cons (ps_if (pt_cmpR (op_neD hr.units) (LamX.pe_lamcall (k := 5) (by rfl) FT.mg_ FT.kp FT.lk FT.cd FT.b scMost rfl (.inl rfl) (most_gives EFi ff) TB rfl (show (PR, ("_law_refused.<locals>.<lambda>" : Str)) ∈ TT PR PT from List.Mem.head _) (huR DD) (hr.mono (by decide)) (LamX.lamS_by (show LamX.lamSB (defScope sRefd) _ = true by decide +kernel)) rfl (fun _ _ _ _ _ => rfl) (fun A' outer' s' H' E' f' c' hr' => (pe_op (op_bin_own (op := .BitAnd) rfl rfl OAnd hdC (hr'.mono (by decide)) passX) (pv 5) (pv 6)))) (pv 7) (nomark _)) (pss_one (ps_ret pe_bl)) pss_nil)
      (pss_cons (ps_if (pt_cmpR (op_neD hr.units) (LamX.pe_lamcall (k := 5) (by rfl) FT.mg_ FT.kp FT.lk FT.cd FT.b scMost rfl (.inl rfl) (most_gives EFi ff) TB rfl (show (PR, ("_law_refused.<locals>.<lambda>" : Str)) ∈ TT PR PT from List.Mem.head _) (huR DD) (hr.mono (by decide)) (LamX.lamS_by (show LamX.lamSB (defScope sRefd) _ = true by decide +kernel)) rfl (fun _ _ _ _ _ => rfl) (fun A' outer' s' H' E' f' c' hr' => (pe_op (op_bin_own (op := .Sub) rfl rfl OSub hdC (hr'.mono (by decide)) passX) (pv 5) (pv 6)))) (pv 7) (nomark _)) (pss_one (ps_ret pe_bl)) pss_nil)
      (pss_one (ps_ret (pe_cmpR (op_eqD hr.units) (LamX.pe_lamcall (k := 5) (by rfl) FT.mg_ FT.kp FT.lk FT.cd FT.b scMost rfl (.inl rfl) (most_gives EFi ff) TB rfl (show (PR, ("_law_refused.<locals>.<lambda>" : Str)) ∈ TT PR PT from List.Mem.head _) (huR DD) (hr.mono (by decide)) (LamX.lamS_by (show LamX.lamSB (defScope sRefd) _ = true by decide +kernel)) rfl (fun _ _ _ _ _ => rfl) (fun A' outer' s' H' E' f' c' hr' => (pe_op (op_bin_own (op := .BitXor) rfl rfl OXor hdC (hr'.mono (by decide)) passX) (pv 5) (pv 6)))) (pv 7) (nomark _))))))))))), ?_⟩
    refine ⟨by show 3 ≤ sizeLine; decide, fun t1 ht1 => ?_⟩
    have s1 : Same H (upd H t1 (.tup [.int 25, .int 36, .bl true])) := same_new ht1
    have e1 : (upd H t1 (.tup [.int 25, .int 36, .bl true])) t1 = some (.tup [.int 25, .int 36, .bl true]) := upd_same
    generalize upd H t1 (.tup [.int 25, .int 36, .bl true]) = H1 at s1 e1 ⊢
    refine ⟨by show 3 ≤ sizeLine; decide, fun t2 ht2 => ?_⟩
    have s2 : Same H1 (upd H1 t2 (.tup [.int 48, .int 100, .bl true])) := same_new ht2
    have e2 : (upd H1 t2 (.tup [.int 48, .int 100, .bl true])) t2 = some (.tup [.int 48, .int 100, .bl true]) := upd_same
    generalize upd H1 t2 (.tup [.int 48, .int 100, .bl true]) = H2 at s2 e2 ⊢
    have e1 := s2 _ _ e1
    refine ⟨by show 3 ≤ sizeLine; decide, fun t3 ht3 => ?_⟩
    have s3 : Same H2 (upd H2 t3 (.tup [.int 720, .int 7, .bl true])) := same_new ht3
    have e3 : (upd H2 t3 (.tup [.int 720, .int 7, .bl true])) t3 = some (.tup [.int 720, .int 7, .bl true]) := upd_same
    generalize upd H2 t3 (.tup [.int 720, .int 7, .bl true]) = H3 at s3 e3 ⊢
    have e1 := s3 _ _ e1
    have e2 := s3 _ _ e2
    refine ⟨by show 3 ≤ sizeLine; decide, fun t4 ht4 => ?_⟩
    have s4 : Same H3 (upd H3 t4 (.tup [.int 16, .int 45, .bl false])) := same_new ht4
    have e4 : (upd H3 t4 (.tup [.int 16, .int 45, .bl false])) t4 = some (.tup [.int 16, .int 45, .bl false]) := upd_same
    generalize upd H3 t4 (.tup [.int 16, .int 45, .bl false]) = H4 at s4 e4 ⊢
    have e1 := s4 _ _ e1
    have e2 := s4 _ _ e2
    have e3 := s4 _ _ e3
    refine ⟨by show 3 ≤ sizeLine; decide, fun t5 ht5 => ?_⟩
    have s5 : Same H4 (upd H4 t5 (.tup [.int 360, .int 144, .bl false])) := same_new ht5
    have e5 : (upd H4 t5 (.tup [.int 360, .int 144, .bl false])) t5 = some (.tup [.int 360, .int 144, .bl false]) := upd_same
    generalize upd H4 t5 (.tup [.int 360, .int 144, .bl false]) = H5 at s5 e5 ⊢
    have e1 := s5 _ _ e1
    have e2 := s5 _ _ e2
    have e3 := s5 _ _ e3
    have e4 := s5 _ _ e4
    have s15 := s1.trans (s2.trans (s3.trans (s4.trans s5)))
    refine ⟨by show 5 ≤ sizeLine; decide, fun q1 hq1 => ?_⟩
    have s6 : Same H5 (upd H5 q1 (.lst [.ref t1, .ref t2, .ref t3, .ref t4, .ref t5])) := same_new hq1
    have e6 : (upd H5 q1 (.lst [.ref t1, .ref t2, .ref t3, .ref t4, .ref t5])) q1 = some (.lst [.ref t1, .ref t2, .ref t3, .ref t4, .ref t5]) := upd_same
    generalize upd H5 q1 (.lst [.ref t1, .ref t2, .ref t3, .ref t4, .ref t5]) = H6 at s6 e6 ⊢
    have hP6 := (hP.same s15).same s6
    have hT6 := tabs_same (tabs_same hT s15) s6
    refine ⟨_, rfl, _, rfl, p, l, q1, ns, a, b, _, rfl, hP6, by omega, .inl (.inl e6), ne_of e6 hP6.hd (by intro q; cases q), by show 1 ≤ 5; decide, by show 5 ≤ 100000; decide, fun j1 ov a7 b7 H7 hj1 ha7 hP7 hK7 => ?_⟩
    obtain ⟨tt, m, j, g, rfl, htt, hm1, hm7, hj1, hj7, hg⟩ : ∃ (tt : Addr) (m j : Nat) (g : Bool), ov = .ref tt ∧ H7 tt = some (.tup [.int (m : Int), .int (j : Int), .bl g]) ∧ 1 ≤ m ∧ m ≤ 720 ∧ 1 ≤ j ∧ j ≤ 720 ∧ (g = true ↔ 720 < Nat.lcm m j) := by
      have hm := List.mem_of_getElem? hj1
      simp only [List.mem_cons, List.not_mem_nil, or_false] at hm
      have kk : ∀ {x : Addr} {xs : List V}, H5 x = some (.tup xs) → H7 x = some (.tup xs) := fun e => hK7 _ _ (ne_of (s6 _ _ e) hP6.hd (by intro q; cases q)) (s6 _ _ e)
      rcases hm with rfl | rfl | rfl | rfl | rfl
      · exact ⟨t1, 25, 36, true, rfl, kk e1, by decide, by decide, by decide, by decide, by decide⟩
      · exact ⟨t2, 48, 100, true, rfl, kk e2, by decide, by decide, by decide, by decide, by decide⟩
      · exact ⟨t3, 720, 7, true, rfl, kk e3, by decide, by decide, by decide, by decide, by decide⟩
      · exact ⟨t4, 16, 45, false, rfl, kk e4, by decide, by decide, by decide, by decide, by decide⟩
      · exact ⟨t5, 360, 144, false, rfl, kk e5, by decide, by decide, by decide, by decide, by decide⟩
    have hT7 := tabs_kp hT6 hK7 hP6
    refine ⟨tt, _, rfl, .inl (.inl htt), rfl, _, _, rfl, _, _, rfl, _, _, rfl, rfl, ?_⟩
    clear e1 e2 e3 e4 e5 e6 s1 s2 s3 s4 s5 s6 s15 hK7 htt
    -- one, other
    refine ⟨rfl, _, rfl, _, rfl, _, rfl, p, l, ns, a7, b7, _, rfl, hP7, by omega, by omega, by omega, fun d8 a8 b8 H8 d80 d81 ha8 hP8 hK8 => ?_⟩
    obtain ⟨r, rfl⟩ : ∃ r : Nat, d8 = (r : Int) := ⟨d8.toNat, by omega⟩
    have hrm : r < m := by omega
    have hT8 := tabs_kp hT7 hK8 hP7
    refine ⟨m, r, rfl, hm7, hrm, fun x1 H9 n1 s9 W1 => ?_⟩
    have hP9 := hP8.same s9
    have hT9 := tabs_same hT8 s9
    refine ⟨rfl, _, rfl, _, rfl, _, rfl, p, l, ns, a8, b8, _, rfl, hP9, by omega, by omega, by omega, fun d10 a10 b10 H10 d100 d101 ha10 hP10 hK10 => ?_⟩
    obtain ⟨u, rfl⟩ : ∃ u : Nat, d10 = (u : Int) := ⟨d10.toNat, by omega⟩
    have huj : u < j := by omega
    have hT10 := tabs_kp hT9 hK10 hP9
    refine ⟨j, u, rfl, hj7, huj, fun x2 H11 n2 s11 W2 => ?_⟩
    obtain ⟨m2, c2, hw2⟩ := Whr.wm W2
    obtain ⟨dx, _, _, _, _, g2, _⟩ := hw2.2.2.2.2
    refine ⟨x2, dx, _, rfl, g2, x2, [], onceR j u, rfl, W2, fun x3 bs3 rs3 H12 n3 s12 hl3 hd3 hN3 W3 => ?_⟩
    obtain ⟨m1, c1, hw1⟩ := Whr.wm W1
    obtain ⟨m3, c3, hw3⟩ := Whr.wm W3
    have hA1 := (((Kx.of_kp hK10).wm hP9.hd hw1).same s11).same s12
    obtain rfl : m1 = m := canon_rest hrm hw1.2.2.2.1
    obtain rfl : m3 = j := canon_not huj hw3.1 hw3.2.2.2.1 (by rw [onceR_len] at hd3; exact hd3) hN3
    have hT12 := tabs_same (tabs_same hT10 s11) s12
    have hP12 := (hP10.same s11).same s12
    refine ⟨by show 2 ≤ sizeLine; decide, fun tt2 htt2 => ?_⟩
    have s13 := same_new (o := .tup [.ref x1, .ref x3]) htt2
    have hA13 := hA1.same s13
    have hB13 := hw3.same s13
    have hT13 := tabs_same hT12 s13
    have hP13 := hP12.same s13
    refine ⟨tt2, _, rfl, .inl (.inl upd_same), rfl, _, _, rfl, _, _, rfl, rfl, ?_⟩
    generalize upd H12 tt2 (.tup [.ref x1, .ref x3]) = H13 at hA13 hB13 hT13 hP13 ⊢
    clear hA1 hw1 hw2 hw3 W1 W2 W3 g2
    refine due_if rfl ?_
    refine most_ask hT13 hP13 rfl rfl hA13 hB13 hg fun H14 T1 P1 A1 B1 => ?_
    refine ⟨_, rfl, ne_due ⟨_, rfl, iteF ?_⟩⟩
    refine most_ask T1 P1 rfl rfl A1 B1 hg fun H15 T2 P2 A2 B2 => ?_
    refine ⟨_, rfl, ne_due ⟨_, rfl, iteF ?_⟩⟩
    refine most_ask T2 P2 rfl rfl A2 B2 hg fun H16 T3 P3 A3 B3 => ?_
    refine ⟨_, rfl, ne_due ⟨_, rfl, iteF ?_⟩⟩
    refine most_ask T3 P3 rfl rfl A3 B3 hg fun H17 T4 P4 A4 B4 => ?_
    exact ⟨_, rfl, eq_due (q _ _ H17 (by omega) P4 T4)⟩
end
end Ef
set_option Elab.async false
set_option linter.all false
set_option maxRecDepth 100000
set_option maxHeartbeats 8000000
namespace Ef
open PySem PySem.Spec PyProof.Rows L2 ClX
abbrev sLaw : Stmt := top 39
structure TxtL (mg : Str → Option Value) : Prop extends TxtJ mg where
  min : mg "min" = none
/-- a drawn set, by its addresses -/
structure Dm where
  r : Addr
  rb : Addr
  rr : Addr
  bs : List Bool
  rs : List Bool
structure MdA (H : Hp) (t : Dm) : Prop where
  h1 : H t.r = some (.tup [.ref t.rb, .ref t.rr])
  h2 : H t.rb = some (.lst (t.bs.map V.bl))
  h3 : H t.rr = some (.lst (t.rs.map V.bl))
theorem MdA.md {H : Hp} {t : Dm} (h : MdA H t) : Md H t.r t.bs t.rs := ⟨t.rb, t.rr, h.h1, h.h2, h.h3⟩
theorem MdA.upd {H : Hp} {t : Dm} {q : Addr} {o : HO} (h : MdA H t) (n1 : t.r ≠ q) (n2 : t.rb ≠ q) (n3 : t.rr ≠ q) : MdA (upd H q o) t := ⟨by rw [upd_ne n1]; exact h.h1, by rw [upd_ne n2]; exact h.h2, by rw [upd_ne n3]; exact h.h3⟩
theorem MdA.same {H H' : Hp} {t : Dm} (h : MdA H t) (e : Same H H') : MdA H' t := ⟨e _ _ h.h1, e _ _ h.h2, e _ _ h.h3⟩
theorem MdA.kp {H H' : Hp} {t : Dm} {p : Addr} {d : List (Key × V)} (h : MdA H t) (k : Kp p H H') (hp : H p = some (.dK d)) : MdA H' t :=
  ⟨k _ _ (ne_of h.h1 hp (by intro q; cases q)) h.h1, k _ _ (ne_of h.h2 hp (by intro q; cases q)) h.h2, k _ _ (ne_of h.h3 hp (by intro q; cases q)) h.h3⟩
theorem canon_of_fn {xs ys bs rs : List Bool} {m s : Nat} (hy : 1 ≤ ys.length) (hr : 1 ≤ rs.length) (hc : Canon xs ys m s) (h : ∀ n, ftr xs ys n = ftr bs rs n) : Canon bs rs m s := by
  have hl := led_of_ftr hy hr h
  have hlf : led ys = led rs := funext hl
  have hper : PerF (led rs) m := by rw [← hlf]; exact hc.per
  have hleast : ∀ d, PerF (led rs) d → m ∣ d := by rw [← hlf]; exact hc.least
  have hs : s ≤ bs.length := by
    rcases Nat.lt_or_ge bs.length s with z | z
    · exfalso
      have e := hc.edge (by omega)
      rw [h, hl] at e
      unfold ftr at e
      rw [if_neg (by omega)] at e
      exact e rfl
    · exact z
  refine ⟨hc.m1, hleast _ (led_self rs), hper, hleast, hs, fun n h1 h2 => ?_, ?_⟩
  · have e := hc.tail h1
    rw [h n, hl n] at e
    unfold ftr at e
    rw [if_pos h2] at e
    exact e
  · rcases Nat.eq_zero_or_pos s with z | z
    · exact .inl z
    · right
      have e := hc.edge z
      rw [h, hl] at e
      unfold ftr at e
      rw [if_pos (by omega)] at e
      exact e
theorem Kx.whr {K : PySem.W.Frag} {C p q : Addr} {H H' : Hp} {bs rs : List Bool} {d : List (Key × V)} (k : Kx p H H') (hp : H p = some (.dK d)) (h : Whr K C H q bs rs) : Whr K C H' q bs rs := by
  obtain ⟨m, s, h⟩ := h.wm
  exact (k.wm hp h).whr
theorem toNil {σ : L2.St} {H : Hp} {R : List V → Hp → Prop} (h : R [] H) : tNil σ H R := h
section
variable {P : Program} {w : World} {K : PySem.W.Frag} {mg : Str → Option Value} {base : Heap}
theorem isw_ok {C x r : Addr} {xs ys bs rs : List Bool} {H : Hp} {Q : VK} {E : XK} (hW : Whr K C H x xs ys) (hM : Md H r bs rs) (h : ∀ n, ftr xs ys n = ftr bs rs n) (h1 : 1 ≤ rs.length) (h2 : rs.length ≤ 720) (h3 : bs.length ≤ 10000) (q : ∀ H', Same H H' → Q (.bl true) H') : spIsw K C [.ref x, .ref r] H Q E := by
  obtain ⟨hy, _, _, m, s, hc, hA⟩ := hW
  have hc' := canon_of_fn hy h1 hc h
  obtain ⟨_, _, e1, e2⟩ := canon_ext hy h1 hc hc' h
  exact ⟨x, r, m, s, bs, rs, xs, ys, rfl, hA, hM, h1, h2, h3, hc', e2, e1, q⟩
theorem op_w {C CF a b : Addr} {bs rs cs ts : List Bool} {op : Bool → Bool → Bool} {E : XK} {H : Hp} {Q : VK} (ha : Whr K C H a bs rs) (hb : Whr K C H b cs ts) (h1 : rs.length ≤ 12) (h2 : ts.length ≤ 12)
    (q : ∀ x xs ys H', Same H H' → (∀ n, ftr xs ys n = op (ftr bs rs n) (ftr cs ts n)) → Whr K C H' x xs ys → Q (.ref x) H') : rOwnBin C (spOp K C CF op) E (.ref a) (.ref b) H Q := by
  obtain ⟨m, s, wa⟩ := ha.wm
  obtain ⟨m', s', wb⟩ := hb.wm
  obtain ⟨dx, _, _, _, _, ga, _⟩ := wa.2.2.2.2
  obtain ⟨dy, _, _, _, _, gb, _⟩ := wb.2.2.2.2
  have a1 := wa.2.2.2.1.ml wa.1
  have b1 := wb.2.2.2.1.ml wb.1
  have hl : Nat.lcm m m' ≤ 144 := Nat.le_trans (Nat.le_of_dvd (Nat.mul_pos wa.2.2.2.1.m1 wb.2.2.2.1.m1) (Nat.lcm_dvd_mul m m')) (Nat.mul_le_mul (show m ≤ 12 by omega) (show m' ≤ 12 by omega))
  exact ⟨a, dx, b, dy, _, _, rfl, rfl, ga, gb, a, b, m, s, m', s', bs, rs, cs, ts, rfl, wa, wb, .inr ⟨by omega, fun x xs ys H' nx sm _ _ hf W => ⟨⟨x, rfl⟩, q x xs ys H' sm hf W⟩⟩⟩
theorem lb_of {L : LF} {f : Addr} {op : Bool → Bool → Bool} (S : NdefX.NScope ["a", "b"] ["a", "b"] [] L.scope) (hb : ∀ (pm ctv : Value) (us : List Value), us.length = 2 → bindArgs (PySem.W.kla_fn "<lambda>" L.qual L.params L.body L.scope [] pm (.ref L.c) ctv) ⟨us, []⟩ = pure ((["a", "b"] : List Str).zip us))
    (hbody : ∀ (A : Around) (outer : List Env) (s : Shared) (H : Hp) (x y : Bool) (Q : VK) (E : XK), Q (.bl (op x y)) H → ∃ t, PE (NdefX.ncx CX0 P w K mg base ["a", "b"] L.nf f A outer s H E) L.body t ∧ t (NdefX.startF ["a", "b"] [.bl x, .bl y] []) H Q) : Lb P w K mg base f L op :=
  lok_of S hb (fun vs H Q E ⟨x, y, e, _⟩ => by rw [e]; rfl) (fun A outer s H vs Q E hr ⟨x, y, e, q⟩ => by subst e; exact hbody A outer s H x y Q E q)
theorem orv {x y : Bool} {H : Hp} {Q : VK} (q : Q (.bl (x || y)) H) : tOrV (tVar 0) (tVar 1) (NdefX.startF ["a", "b"] [.bl x, .bl y] []) H Q := by
  refine ⟨_, rfl, _, rfl, ?_⟩
  cases x with
  | true => exact iteT q
  | false => exact iteF ⟨_, rfl, q⟩
theorem andv {x y : Bool} {H : Hp} {Q : VK} (q : Q (.bl (x && y)) H) : tAndV (tVar 0) (tVar 1) (NdefX.startF ["a", "b"] [.bl x, .bl y] []) H Q := by
  refine ⟨_, rfl, _, rfl, ?_⟩
  cases x with
  | true => exact iteT ⟨_, rfl, q⟩
  | false => exact iteF q
theorem subv {x y : Bool} {H : Hp} {Q : VK} (q : Q (.bl (x && !y)) H) : tAndV (tVar 0) (tNotV (tVar 1)) (NdefX.startF ["a", "b"] [.bl x, .bl y] []) H Q := by
  refine ⟨_, rfl, _, rfl, ?_⟩
  cases x with
  | true => exact iteT ⟨_, rfl, _, rfl, q⟩
  | false => exact iteF q
theorem xorv {x y : Bool} {H : Hp} {Q : VK} (q : Q (.bl (x != y)) H) : tOp rNe (tVar 0) (tVar 1) (NdefX.startF ["a", "b"] [.bl x, .bl y] []) H Q := by
  refine ⟨_, rfl, _, rfl, rfl, ?_⟩
  rw [show (!decide (V.bl x = V.bl y)) = (x != y) by cases x <;> cases y <;> rfl]
  exact q
theorem not_ftr {bs rs : List Bool} (hr : 1 ≤ rs.length) (n : Nat) : ftr (bs.map fun b => !b) (rs.map fun b => !b) n = !ftr bs rs n := by
  unfold ftr
  rw [List.length_map]
  by_cases h : n < bs.length
  · rw [if_pos h, if_pos h, List.getD_eq_getElem?_getD, List.getElem?_map, List.getElem?_eq_getElem h, List.getD_eq_getElem?_getD, List.getElem?_eq_getElem h]
    rfl
  · rw [if_neg h, if_neg h]
    have hlt := Nat.mod_lt n (show 0 < rs.length by omega)
    unfold led
    rw [List.length_map, List.getD_eq_getElem?_getD, List.getElem?_map, List.getElem?_eq_getElem hlt, List.getD_eq_getElem?_getD, List.getElem?_eq_getElem hlt]
    rfl
/-- what stays while a turn is looked at -/
structure LS (K : PySem.W.Frag) (C PR PT p l r0 r1 v u : Addr) (ns : List Int) (a b : Int) (bs rs cs ts : List Bool) (H : Hp) : Prop where
  hP : Pen H p l ns a b
  hT : LamX.Tabs (TT PR PT) H
  h0 : Md H r0 bs rs
  h1 : Md H r1 cs ts
  hv : Whr K C H v bs rs
  hu : Whr K C H u cs ts
theorem md_same {H H' : Hp} {r : Addr} {bs rs : List Bool} (h : Md H r bs rs) (s : Same H H') : Md H' r bs rs := by
  obtain ⟨rb, rr, e1, e2, e3⟩ := h
  exact ⟨rb, rr, s _ _ e1, s _ _ e2, s _ _ e3⟩
theorem LS.same {C PR PT p l r0 r1 v u : Addr} {ns : List Int} {a b : Int} {bs rs cs ts : List Bool} {H H' : Hp} (h : LS K C PR PT p l r0 r1 v u ns a b bs rs cs ts H) (s : Same H H') : LS K C PR PT p l r0 r1 v u ns a b bs rs cs ts H' :=
  ⟨h.hP.same s, tabs_same h.hT s, md_same h.h0 s, md_same h.h1 s, h.hv.same s, h.hu.same s⟩
theorem LS.ext {C PR PT p l r0 r1 v u : Addr} {ns : List Int} {a b : Int} {bs rs cs ts : List Bool} {H H' : Hp} (h : LS K C PR PT p l r0 r1 v u ns a b bs rs cs ts H) (e : LamX.ExtN H H') (hT : LamX.Tabs (TT PR PT) H') : LS K C PR PT p l r0 r1 v u ns a b bs rs cs ts H' :=
  ⟨h.hP.ext e, hT, (Kx.of_ext (p := p) e).md h.hP.hd h.h0, (Kx.of_ext (p := p) e).md h.hP.hd h.h1, (Kx.of_ext (p := p) e).whr h.hP.hd h.hv, (Kx.of_ext (p := p) e).whr h.hP.hd h.hu⟩
def spLaw (K : PySem.W.Frag) (PR PT : Addr) : Sp := fun vs H Q _ => ∃ (a : Addr) (ns : List Int), vs = [.ref a] ∧ SqL K H a (ns.map V.int) ∧ ns.length ≤ 63 ∧ LamX.Tabs (TT PR PT) H ∧ ∀ H', Q (.bl true) H'
theorem scLaw : FnScope ["script", "pen", "turn", "one", "other", "v", "w", "k", "truth"] ["script"] (defScope sLaw) := ⟨rfl, rfl, rfl, by decide +kernel, rfl, by decide +kernel, by decide +kernel⟩
theorem ok_law {f C CF cL PR PT : Addr} {oc kV doc pm ct : Value} {od an : Option Addr} {osl : Array (Option Value)}
    (lk : K.lookup f = some ⟨oc, od, .func (PySem.W.fnOf "law" "law" (defArgs sLaw) (defBody sLaw) (defScope sLaw) .none kV doc pm an (.ref cL) ct), osl⟩) (hcd : PySem.W.codeIn K (.ref cL) "law" = true)
    (T : TxtL mg) (CW : ClsQ K mg C) (hdC : hdIn K C = true) (OI : OwnG P w K mg base CX0 5 C "__invert__" ["self"] (spInv K C))
    (OOr : OwnG P w K mg base (CX P w) 5 C "__or__" ["self", "other"] (spOp K C CF (fun a b => a || b))) (OAnd : OwnG P w K mg base (CX P w) 5 C "__and__" ["self", "other"] (spOp K C CF (fun a b => a && b)))
    (OSub : OwnG P w K mg base (CX P w) 5 C "__sub__" ["self", "other"] (spOp K C CF (fun a b => a && !b))) (OXor : OwnG P w K mg base (CX P w) 5 C "__xor__" ["self", "other"] (spOp K C CF (fun a b => a != b)))
    (TB : LamX.TabB base mg cL PT) (DD : ¬ PR = PT)
    (Dpen : Df P w K mg base 1 "_law_pen" ["script"] (spPen K)) (Ddraw : Df P w K mg base 1 "_law_draw" ["pen", "many"] spDraw) (Dmodel : Df P w K mg base 3 "_law_model" ["pen", "most", "periods"] (spModel K)) (Dwhere : Df P w K mg base 5 "_law_where" ["model"] (spWhere K C))
    (Disw : Df P w K mg base 2 "_law_is_where" ["where", "model"] (spIsw K C)) (Djoined : Df P w K mg base 2 "_law_joined" ["one", "other", "rule"] (spJoined P w K mg base)) (Drefd : Df P w K mg base 8 "_law_refused" ["pen"] (spRefd K PR PT)) :
    FnOk P w K mg base CX0 9 f (PySem.W.fnOf "law" "law" (defArgs sLaw) (defBody sLaw) (defScope sLaw) .none kV doc pm an (.ref cL) ct) ["script"] (spLaw K PR PT) := by
  refine fn_of lk hcd scLaw (fun vs H Q E h => ?_) (fun A outer s H vs Q E hr h => ?_)
  · obtain ⟨a, ns, rfl, _⟩ := h
    rfl
  · obtain ⟨a, ns, rfl, hS, hlen, hTab, q⟩ := h
    refine ⟨_, PSs.nox (pss_cons (ps_set (i := 1) scLaw.nd rfl (.inr rfl) (Dpen.call (hr.mono (by decide)) (pa_cons (pv 0) pa_nil)))
      (pss_cons (ps_for PassesOwn.never rfl (pi_range1 (by rfl) T.range (pa_cons (pe_op op_add pe_int (pe_callB (call_min2 rfl) (by rfl) T.min (by decide +kernel) (pa_cons pe_int (pa_cons (pe_callB call_len_seq (by rfl) T.len PySem.boot_len (pa_cons (pv 0) pa_nil)) pa_nil)))) pa_nil)) (pg_name (i := 2) scLaw.nd rfl (.inl rfl))
      (pss_cons (ps_asg (pe_lc (own := [("k", 7)]) (g := gName 7) (by rfl) scLaw.nd (pi_range1 (by rfl) T.range (pa_cons pe_int pa_nil)) (blkOk_by (own := [("k", 7)]) (N := ["script", "pen", "turn", "one", "other", "v", "w", "k", "truth"]) (sc := defScope sLaw) (by decide +kernel)) (fun _ _ _ _ _ => pg_name (i := 7) scLaw.nd rfl (Or.inl rfl)) (fun _ _ _ _ _ => pts_nil) (fun _ _ _ _ _ => (Dmodel.call (hr.mono (by decide)) (pa_cons (pv 1) (pa_cons pe_int (pa_cons (pe_lst (pa_cons pe_int (pa_cons pe_int (pa_cons pe_int (pa_cons pe_int (pa_cons pe_int (pa_cons pe_int (pa_cons pe_int pa_nil)))))))) pa_nil)))))) (pg_unl (by rfl) (pgs_cons (pg_name (i := 3) scLaw.nd rfl (.inl rfl)) (pgs_cons (pg_name (i := 4) scLaw.nd rfl (.inl rfl)) pgs_nil))))
      (pss_cons (ps_if (pt_cmpR op_eq (Ddraw.call (hr.mono (by decide)) (pa_cons (pv 1) (pa_cons pe_int pa_nil))) pe_int (nomark _)) (pss_one (ps_set (i := 4) scLaw.nd rfl (.inl rfl) (pv 3))) pss_nil)
      (pss_cons (ps_par (i := 5) (j := 6) (by rfl) scLaw.nd rfl rfl (by decide) rfl rfl (pa_cons (Dwhere.call (hr.mono (by decide)) (pa_cons (pv 3) pa_nil)) (pa_cons (Dwhere.call (hr.mono (by decide)) (pa_cons (pv 4) pa_nil)) pa_nil)) (by rfl))
      (pss_cons (ps_if (pt_not (pt_val (Disw.call (hr.mono (by decide)) (pa_cons (pe_op (op_bin_own (op := .BitOr) rfl rfl OOr hdC (hr.mono (by decide)) passF) (pv 5) (pv 6)) (pa_cons (Djoined.call (hr.mono (by decide)) (pa_cons (pv 3) (pa_cons (pv 4) (pa_cons (pe_lamO TB rfl (show (PT, ("law.<locals>.<lambda>" : Str)) ∈ TT PR PT from List.Mem.tail _ (List.Mem.head _)) (huT DD) rfl rfl) pa_nil)))) pa_nil))))) (pss_one (ps_ret pe_bl)) pss_nil)
      (pss_cons (ps_if (pt_not (pt_val (Disw.call (hr.mono (by decide)) (pa_cons (pe_op (op_bin_own (op := .BitAnd) rfl rfl OAnd hdC (hr.mono (by decide)) passF) (pv 5) (pv 6)) (pa_cons (Djoined.call (hr.mono (by decide)) (pa_cons (pv 3) (pa_cons (pv 4) (pa_cons (pe_lamO TB rfl (show (PT, ("law.<locals>.<lambda>" : Str)) ∈ TT PR PT from List.Mem.tail _ (List.Mem.head _)) (huT DD) rfl rfl) pa_nil)))) pa_nil))))) (pss_one (ps_ret pe_bl)) pss_nil)
      (pss_cons (ps_if (pt_not (pt_val (Disw.call (hr.mono (by decide)) (pa_cons (pe_op (op_bin_own (op := .Sub) rfl rfl OSub hdC (hr.mono (by decide)) passF) (pv 5) (pv 6)) (pa_cons (Djoined.call (hr.mono (by decide)) (pa_cons (pv 3) (pa_cons (pv 4) (pa_cons (pe_lamO TB rfl (show (PT, ("law.<locals>.<lambda>" : Str)) ∈ TT PR PT from List.Mem.tail _ (List.Mem.head _)) (huT DD) rfl rfl) pa_nil)))) pa_nil))))) (pss_one (ps_ret pe_bl)) pss_nil)
      (pss_cons (ps_if (pt_not (pt_val (Disw.call (hr.mono (by decide)) (pa_cons (pe_op (op_bin_own (op := .BitXor) rfl rfl OXor hdC (hr.mono (by decide)) passF) (pv 5) (pv 6)) (pa_cons (Djoined.call (hr.mono (by decide)) (pa_cons (pv 3) (pa_cons (pv 4) (pa_cons (pe_lamO TB rfl (show (PT, ("law.<locals>.<lambda>" : Str)) ∈ TT PR PT from List.Mem.tail _ (List.Mem.head _)) (huT DD) rfl rfl) pa_nil)))) pa_nil))))) (pss_one (ps_ret pe_bl)) pss_nil)
      (pss_cons (ps_if (pt_not (pt_val (Disw.call (hr.mono (by decide)) (pa_cons (pe_un (un_inv_own OI (hr.mono (by decide)) pass0) (pv 5)) (pa_cons (pe_tup (pa_cons (pe_lc (own := [("truth", 8)]) (g := gName 8) (by rfl) scLaw.nd (pi_list (pe_ix ix_tup (pv 3) pe_int (fun _ _ => rfl))) (blkOk_by (own := [("truth", 8)]) (N := ["script", "pen", "turn", "one", "other", "v", "w", "k", "truth"]) (sc := defScope sLaw) (by decide +kernel)) (fun _ _ _ _ _ => pg_name (i := 8) scLaw.nd rfl (Or.inl rfl)) (fun _ _ _ _ _ => pts_nil) (fun _ _ _ _ _ => (pe_not (pv 8)))) (pa_cons (pe_lc (own := [("truth", 8)]) (g := gName 8) (by rfl) scLaw.nd (pi_list (pe_ix ix_tup (pv 3) pe_int (fun _ _ => rfl))) (blkOk_by (own := [("truth", 8)]) (N := ["script", "pen", "turn", "one", "other", "v", "w", "k", "truth"]) (sc := defScope sLaw) (by decide +kernel)) (fun _ _ _ _ _ => pg_name (i := 8) scLaw.nd rfl (Or.inl rfl)) (fun _ _ _ _ _ => pts_nil) (fun _ _ _ _ _ => (pe_not (pv 8)))) pa_nil))) pa_nil))))) (pss_one (ps_ret pe_bl)) pss_nil)
      (pss_one (ps_if (pw_or (pt_not (pt_val (Disw.call (hr.mono (by decide)) (pa_cons (pv 5) (pa_cons (pv 3) pa_nil))))) (pw_or (pt_not (pt_val (Disw.call (hr.mono (by decide)) (pa_cons (pv 6) (pa_cons (pv 4) pa_nil))))) (pw_or1 (pt_not (pt_val (Drefd.call (hr.mono (by decide)) (pa_cons (pv 1) pa_nil))))))).pt (pss_one (ps_ret pe_bl)) pss_nil)))))))))))
      (pss_one (ps_ret pe_bl)))), ?_⟩
    refine ⟨_, rfl, a, ns, rfl, hS, hlen, fun p l H0 hp0 s0 hP0 => ?_⟩
    refine ⟨_, rfl, a, _, rfl, .inl (s0.seq hS), _, _, rfl, _, _, rfl, rfl, ?_⟩
    have hz : ∃ z : Int, (if (((ns.map V.int).length : Nat) : Int) < 4 then (((ns.map V.int).length : Nat) : Int) else 4) = z ∧ 0 ≤ z ∧ z ≤ 4 := by
      refine ⟨_, rfl, ?_, ?_⟩ <;> split <;> omega
    obtain ⟨z, ez, z0, z6⟩ := hz
    rw [ez]
    refine ⟨_, rfl, by omega, by omega, ?_⟩
    refine for_range (lo := 0) (n := (3 + z).toNat) (fun i σ H' => ∃ (a' b' : Int) (y2 y3 y4 y5 y6 : Option V), Pen H' p l ns a' b' ∧ a' ≤ 20000 * i ∧ LamX.Tabs (TT PR PT) H' ∧ σ = [some (.ref a), some (.ref p), y2, y3, y4, y5, y6, none, none])
      ⟨0, 0, none, none, none, none, none, hP0, by omega, tabs_same hTab s0, rfl⟩ ?_ ?_
    · rintro i σ H1 hi ⟨a1, b1, y2, y3, y4, y5, y6, hP1, ha1, hT1, rfl⟩
      have hi9 : i < 12 := by omega
      -- models
      refine ⟨2, rfl, by decide, by decide, fun D1 hD1 => ?_⟩
      have nD1 : D1 ≠ p := fun e => by rw [e, hP1.hd] at hD1; cases hD1
      refine lc_range (lo := 0) (n := 2) (fun j H' => Kp p H1 H' ∧ ∃ (a' b' : Int) (ms : List Dm), Pen H' p l ns a' b' ∧ a' ≤ a1 + 3000 * j ∧ ms.length = j ∧ H' D1 = some (.lst (ms.map fun t => V.ref t.r)) ∧
          ∀ t ∈ ms, MdA H' t ∧ t.r ≠ D1 ∧ t.rb ≠ D1 ∧ t.rr ≠ D1 ∧ t.bs.length ≤ 12 ∧ 1 ≤ t.rs.length ∧ t.rs.length ≤ 12)
        ⟨Kp.new _ hD1, a1, b1, [], hP1.kp (Kp.new _ hD1) (upd_ne (ne_of_none hP1.hd hD1)), by omega, rfl, upd_same, fun t ht => by cases ht⟩ ?_ ?_
      · rintro j H2 hj ⟨hK2, a2, b2, ms, hP2, ha2, hml, hA2, hms⟩
        refine ⟨rfl, _, rfl, by show 7 ≤ sizeLine; decide, fun q1 hq1 => ?_⟩
        have nq1 : q1 ≠ p := fun e => by rw [e, hP2.hd] at hq1; cases hq1
        have k3 : Kp p H2 (upd H2 q1 (.lst ([1, 2, 3, 4, 6, 12, 5].map V.int))) := Kp.new _ hq1
        have hP3 : Pen (upd H2 q1 (.lst ([1, 2, 3, 4, 6, 12, 5].map V.int))) p l ns a2 b2 := hP2.kp k3 (upd_ne (Ne.symm nq1))
        have hA3 : (upd H2 q1 (.lst ([1, 2, 3, 4, 6, 12, 5].map V.int))) D1 = some (.lst (ms.map fun t => V.ref t.r)) := k3 _ _ nD1 hA2
        refine ⟨p, l, q1, ns, a2, b2, 12, [1, 2, 3, 4, 6, 12, 5], rfl, hP3, by omega, by decide, by decide, .inl (.inl upd_same), nq1, by decide, by decide, by decide, fun r rb rr bs rs a4 b4 H4 hr0 hrb0 hrr0 e1 e2 e3 hl1 hl2 ha4 hP4 hK4 => ?_⟩
        have hA4 := hK4 _ _ nD1 hA3
        have hrs : 1 ≤ rs.length ∧ rs.length ≤ 12 := by
          simp only [List.mem_cons, List.not_mem_nil, or_false] at hl2
          omega
        have nn : ∀ {x : Addr}, (upd H2 q1 (.lst ([1, 2, 3, 4, 6, 12, 5].map V.int))) x = none → x ≠ D1 := fun hx e => by rw [e, hA3] at hx; cases hx
        refine ⟨_, hA4, by rw [List.length_map, hml]; exact Nat.lt_of_le_of_lt (show j ≤ 10 by omega) (by decide), (hK2.trans (k3.trans hK4)).mut hD1, a4, b4, ms ++ [⟨r, rb, rr, bs, rs⟩], ?_, by omega, by rw [List.length_append, hml]; rfl, by rw [upd_same, List.map_append]; rfl, fun t ht => ?_⟩
        · exact ⟨by rw [upd_ne (Ne.symm nD1)]; exact hP4.hd, by rw [upd_ne (fun e => by rw [← e] at hD1; rw [hP1.hl] at hD1; cases hD1)]; exact hP4.hl, hP4.len, hP4.a0, hP4.b0⟩
        · rcases List.mem_append.mp ht with ht | ht
          · obtain ⟨hM, n1, n2, n3, hb⟩ := hms t ht
            exact ⟨((hM.kp k3 hP2.hd).kp hK4 hP3.hd).upd n1 n2 n3, n1, n2, n3, hb⟩
          · rw [List.mem_singleton.mp ht]
            have h14 : bs.length ≤ 12 := by omega
            exact ⟨MdA.upd ⟨e1, e2, e3⟩ (nn hr0) (nn hrb0) (nn hrr0), nn hr0, nn hrb0, nn hrr0, h14, hrs⟩
      rintro H2 ⟨hK2, a2, b2, ms, hP2, ha2, hml, hA2, hms⟩
      obtain ⟨t0, t1, rfl⟩ : ∃ t0 t1, ms = [t0, t1] := by
        match ms, hml with
        | [x, y], _ => exact ⟨x, y, rfl⟩
      obtain ⟨hM0, _, _, _, hb0, hr0, hd0⟩ := hms t0 (List.Mem.head _)
      obtain ⟨hM1, _, _, _, hb1, hr1, hd1⟩ := hms t1 (List.Mem.tail _ (List.Mem.head _))
      have hT2 := tabs_kp hT1 hK2 hP1
      clear hms
      refine ⟨D1, _, rfl, .inl (.inl hA2), rfl, _, _, rfl, _, _, rfl, rfl, ?_⟩
      refine ⟨_, rfl, p, l, ns, a2, b2, _, rfl, hP2, by omega, by decide, by decide, fun d3 a3 b3 H3 d30 d31 ha3 hP3 hK3 => ?_⟩
      have hM0 := hM0.kp hK3 hP2.hd
      have hM1 := hM1.kp hK3 hP2.hd
      have hT3 := tabs_kp hT2 hK3 hP2
      refine ⟨rfl, _, rfl, ?_⟩
      refine ite2 ?_ ?_
      intro _
      refine ⟨_, rfl, ?_⟩
      clear hM1 hb1 hr1 hd1
      have hM1 := hM0
      have hb1 := hb0
      have hr1 := hr0
      have hd1 := hd0
      rotate_left
      intro _
      all_goals
        refine ⟨_, rfl, _, _, _, rfl, hM0.md, hr0, by omega, by omega, fun v H4 nv s4 hv4 => ?_⟩
        refine ⟨_, rfl, _, _, _, rfl, (hM1.same s4).md, hr1, by omega, by omega, fun u H5 nu s5 hu5 => ?_⟩
        refine ⟨_, _, rfl, ?_⟩
        have s45 := s4.trans s5
        have L : LS K C PR PT p l _ _ v u ns a3 b3 _ _ _ _ H5 := ⟨hP3.same s45, tabs_same hT3 s45, md_same hM0.md s45, md_same hM1.md s45, hv4.same s5, hu5⟩
        clear hM0 hM1 hv4 hu5
        refine ⟨_, rfl, _, rfl, op_w L.hv L.hu (by omega) (by omega) fun x0 xs0 ys0 G0 s0 hf0 W0 => ?_⟩
        have L := L.same s0
        refine ⟨_, rfl, _, rfl, L.hT, fun fk0 ck0 J0 e0 en0 T0 f00 f10 c10 => ?_⟩
        have W0 := (Kx.of_ext (p := p) e0).whr L.hP.hd W0
        have L := L.ext e0 T0
        refine ⟨_, _, fk0, _, (fun a b => a || b), _, _, _, _, rfl, L.h0, L.h1, f10, c10, lb_of (NdefX.nscope_by (by dsimp only; decide +kernel)) (fun pm ctv us hl => match us, hl with | [_, _], _ => rfl) (fun A outer s H x y Q E q => ⟨_, (pe_or (pv 0) (pe_one (pv 1))), orv q⟩), by omega, by omega, hr0, by omega, hr1, by omega, fun tj0 xt0 yt0 J20 s20 M20 l10 l20 hg0 => ?_⟩
        have W0 := W0.same s20
        have L := L.same s20
        refine toNil ?_
        refine isw_ok W0 M20 (fun n => by rw [hf0 n, hg0 n]) (by rw [l20]; exact Nat.mul_pos hr0 hr1) (by rw [l20]; exact Nat.le_trans (Nat.mul_le_mul hd0 hd1) (by decide)) (by omega) fun J30 s30 => ?_
        refine ⟨_, rfl, iteF ?_⟩
        have L := L.same s30
        clear W0 M20 hf0 hg0 f10 c10 f00
        refine ⟨_, rfl, _, rfl, op_w L.hv L.hu (by omega) (by omega) fun x1 xs1 ys1 G1 s1 hf1 W1 => ?_⟩
        have L := L.same s1
        refine ⟨_, rfl, _, rfl, L.hT, fun fk1 ck1 J1 e1 en1 T1 f01 f11 c11 => ?_⟩
        have W1 := (Kx.of_ext (p := p) e1).whr L.hP.hd W1
        have L := L.ext e1 T1
        refine ⟨_, _, fk1, _, (fun a b => a && b), _, _, _, _, rfl, L.h0, L.h1, f11, c11, lb_of (NdefX.nscope_by (by dsimp only; decide +kernel)) (fun pm ctv us hl => match us, hl with | [_, _], _ => rfl) (fun A outer s H x y Q E q => ⟨_, (pe_and (pv 0) (pe_one (pv 1))), andv q⟩), by omega, by omega, hr0, by omega, hr1, by omega, fun tj1 xt1 yt1 J21 s21 M21 l11 l21 hg1 => ?_⟩
        have W1 := W1.same s21
        have L := L.same s21
        refine toNil ?_
        refine isw_ok W1 M21 (fun n => by rw [hf1 n, hg1 n]) (by rw [l21]; exact Nat.mul_pos hr0 hr1) (by rw [l21]; exact Nat.le_trans (Nat.mul_le_mul hd0 hd1) (by decide)) (by omega) fun J31 s31 => ?_
        refine ⟨_, rfl, iteF ?_⟩
        have L := L.same s31
        clear W1 M21 hf1 hg1 f11 c11 f01
        refine ⟨_, rfl, _, rfl, op_w L.hv L.hu (by omega) (by omega) fun x2 xs2 ys2 G2 s2 hf2 W2 => ?_⟩
        have L := L.same s2
        refine ⟨_, rfl, _, rfl, L.hT, fun fk2 ck2 J2 e2 en2 T2 f02 f12 c12 => ?_⟩
        have W2 := (Kx.of_ext (p := p) e2).whr L.hP.hd W2
        have L := L.ext e2 T2
        refine ⟨_, _, fk2, _, (fun a b => a && !b), _, _, _, _, rfl, L.h0, L.h1, f12, c12, lb_of (NdefX.nscope_by (by dsimp only; decide +kernel)) (fun pm ctv us hl => match us, hl with | [_, _], _ => rfl) (fun A outer s H x y Q E q => ⟨_, (pe_and (pv 0) (pe_one (pe_not (pv 1)))), subv q⟩), by omega, by omega, hr0, by omega, hr1, by omega, fun tj2 xt2 yt2 J22 s22 M22 l12 l22 hg2 => ?_⟩
        have W2 := W2.same s22
        have L := L.same s22
        refine toNil ?_
        refine isw_ok W2 M22 (fun n => by rw [hf2 n, hg2 n]) (by rw [l22]; exact Nat.mul_pos hr0 hr1) (by rw [l22]; exact Nat.le_trans (Nat.mul_le_mul hd0 hd1) (by decide)) (by omega) fun J32 s32 => ?_
        refine ⟨_, rfl, iteF ?_⟩
        have L := L.same s32
        clear W2 M22 hf2 hg2 f12 c12 f02
        refine ⟨_, rfl, _, rfl, op_w L.hv L.hu (by omega) (by omega) fun x3 xs3 ys3 G3 s3 hf3 W3 => ?_⟩
        have L := L.same s3
        refine ⟨_, rfl, _, rfl, L.hT, fun fk3 ck3 J3 e3 en3 T3 f03 f13 c13 => ?_⟩
        have W3 := (Kx.of_ext (p := p) e3).whr L.hP.hd W3
        have L := L.ext e3 T3
        refine ⟨_, _, fk3, _, (fun a b => a != b), _, _, _, _, rfl, L.h0, L.h1, f13, c13, lb_of (NdefX.nscope_by (by dsimp only; decide +kernel)) (fun pm ctv us hl => match us, hl with | [_, _], _ => rfl) (fun A outer s H x y Q E q => ⟨_, (pe_cmpR op_ne (pv 0) (pv 1) (nomark _)), xorv q⟩), by omega, by omega, hr0, by omega, hr1, by omega, fun tj3 xt3 yt3 J23 s23 M23 l13 l23 hg3 => ?_⟩
        have W3 := W3.same s23
        have L := L.same s23
        refine toNil ?_
        refine isw_ok W3 M23 (fun n => by rw [hf3 n, hg3 n]) (by rw [l23]; exact Nat.mul_pos hr0 hr1) (by rw [l23]; exact Nat.le_trans (Nat.mul_le_mul hd0 hd1) (by decide)) (by omega) fun J33 s33 => ?_
        refine ⟨_, rfl, iteF ?_⟩
        have L := L.same s33
        clear W3 M23 hf3 hg3 f13 c13 f03
        -- the opposite
        obtain ⟨mv, sv, wv⟩ := L.hv.wm
        obtain ⟨dv, _, _, _, _, gv, _⟩ := wv.2.2.2.2
        refine ⟨_, rfl, v, dv, _, rfl, gv, v, _, _, rfl, L.hv, fun x5 xs5 ys5 G5 n5 s55 hl5 hd5 hN5 W5 => ?_⟩
        have L := L.same s55
        clear gv wv
        obtain ⟨rb, rr, er, erb, err⟩ := id L.h0
        refine ⟨_, rfl, _, _, 0, _, rfl, rfl, .inl (.inl er), rfl, rb, rfl, ⟨_, .inl (.inl erb)⟩, fun D hD => ?_⟩
        refine lc_list (K := K) (a := rb) (xs := t0.bs.map V.bl) (fun i H' => Same G5 H' ∧ H' D = some (.lst (((t0.bs.take i).map fun b => !b).map V.bl))) ⟨same_new hD, upd_same⟩ (fun i H' _ h => .inl (.inl (h.1 _ _ erb))) ?_ ?_
        · rintro i y H6 hi ⟨s6, h6⟩
          rw [List.getElem?_map] at hi
          obtain ⟨c, hc, rfl⟩ := Option.map_eq_some_iff.mp hi
          refine ⟨rfl, _, rfl, _, rfl, _, h6, by rw [List.length_map, List.length_map, List.length_take]; exact Nat.lt_of_le_of_lt (show min i t0.bs.length ≤ 10000 by omega) (by decide), same_mut s6 hD, ?_⟩
          rw [upd_same, List.take_succ, hc, Option.toList_some, List.map_append, List.map_append]
          rfl
        rintro H6 ⟨s6, h6⟩
        rw [List.length_map, List.take_length] at h6
        have er := s6 _ _ er
        have err := s6 _ _ err
        refine ⟨_, rfl, _, _, 1, _, rfl, rfl, .inl (.inl er), rfl, rr, rfl, ⟨_, .inl (.inl err)⟩, fun D2 hD2 => ?_⟩
        refine lc_list (K := K) (a := rr) (xs := t0.rs.map V.bl) (fun i H' => Same H6 H' ∧ H' D2 = some (.lst (((t0.rs.take i).map fun b => !b).map V.bl))) ⟨same_new hD2, upd_same⟩ (fun i H' _ h => .inl (.inl (h.1 _ _ err))) ?_ ?_
        · rintro i y H7 hi ⟨s7, h7⟩
          rw [List.getElem?_map] at hi
          obtain ⟨c, hc, rfl⟩ := Option.map_eq_some_iff.mp hi
          refine ⟨rfl, _, rfl, _, rfl, _, h7, by rw [List.length_map, List.length_map, List.length_take]; exact Nat.lt_of_le_of_lt (show min i t0.rs.length ≤ 10000 by omega) (by decide), same_mut s7 hD2, ?_⟩
          rw [upd_same, List.take_succ, hc, Option.toList_some, List.map_append, List.map_append]
          rfl
        rintro H7 ⟨s7, h7⟩
        rw [List.length_map, List.take_length] at h7
        have h6 := s7 _ _ h6
        refine ⟨by show 2 ≤ sizeLine; decide, fun tt htt => ?_⟩
        have s8 := same_new (o := .tup [.ref D, .ref D2]) htt
        have s58 := s6.trans (s7.trans s8)
        have L := L.same s58
        have W5 := W5.same s58
        refine toNil ?_
        refine isw_ok W5 ⟨D, D2, upd_same, s8 _ _ h6, s8 _ _ h7⟩ (fun n => by rw [hN5 n, not_ftr hr0]) (by rw [List.length_map]; exact hr0) (by rw [List.length_map]; omega) (by rw [List.length_map]; omega) fun J8 s88 => ?_
        refine ⟨_, rfl, iteF ?_⟩
        have L := L.same s88
        clear W5 h6 h7 er erb err
        -- they are as they were
        refine ⟨_, rfl, _, rfl, ?_⟩
        refine toNil ?_
        refine isw_ok L.hv L.h0 (fun _ => rfl) hr0 (by omega) (by omega) fun J9 s9 => ?_
        refine ⟨_, rfl, iteF ?_⟩
        have L := L.same s9
        refine ⟨_, rfl, _, rfl, ?_⟩
        refine toNil ?_
        refine isw_ok L.hu L.h1 (fun _ => rfl) hr1 (by omega) (by omega) fun J10 s10 => ?_
        refine ⟨_, rfl, iteF ?_⟩
        have L := L.same s10
        refine ⟨_, rfl, p, l, ns, a3, b3, rfl, L.hP, by omega, L.hT, fun a9 b9 J11 ha9 hP9 hT9 => ?_⟩
        refine ⟨_, rfl, iteF ?_⟩
        exact ⟨a9, b9, _, _, _, _, _, hP9, by omega, hT9, rfl⟩
    · rintro σ H1 _
      exact q _
end
end Ef
set_option Elab.async false
set_option linter.all false
set_option maxRecDepth 100000
set_option maxHeartbeats 8000000
namespace Ef
open PySem PySem.Spec PyProof.Rows L2 ClX
theorem at_mk {K : PySem.W.Frag} {h : Heap} {mg : Str → Option Value} {x : Str} {st : Stmt} {f : Addr} {oc kV doc pm cdv ct : Value} {od an : Option Addr} {osl : Array (Option Value)} (X : K.In h) (G : h.Ns mainGlobals mg) (a : PySem.W.nsIn K mainGlobals x = some (some (.ref f)))
    (l : K.lookup f = some ⟨oc, od, .func (PySem.W.fnOf x x (defArgs st) (defBody st) (defScope st) .none kV doc pm an cdv ct), osl⟩) (c : PySem.W.codeIn K cdv x = true) (k : PySem.W.keepIn K (.ref f) = true) : At K mg x st := ⟨f, _, PySem.W.mg_of X G a, fun_mk l c k⟩
theorem exm_by {K : PySem.W.Frag} {S : Addr} {c : Value} {b : Bool} (h1 : PySem.W.subIn K (.ref S) (.type "BaseException") = some true) (h2 : PySem.W.isClsIn K S = true) (h3 : PySem.W.typeIn K (.ref S) = some (.type "type")) (h4 : PySem.W.subIn K c (.ref S) = some b) :
    PySem.W.exmOne K c (.ref S) = some b := by
  unfold PySem.W.exmOne PySem.W.kitCls
  have h2' : (PySem.W.clsIn K S).isSome = true := h2
  rw [h1, if_pos (by rfl)]
  show (if ((PySem.W.clsIn K S).isSome && PySem.W.typeIn K (.ref S) == some (.type "type")) = true then PySem.W.subIn K c (.ref S) else none) = some b
  rw [h2', h3, if_pos (by rfl)]
  exact h4
theorem all_mk {w : World} {K : PySem.W.Frag} {h : Heap} {mg : Str → Option Value} {l : PySem.W.OpenLaw} {fa C CF cL PT cR PR f0 f1 f2 f3 f4 f5 f6 f7 f8 f9 f10 f11 f12 f13 f14 f15 f16 f17 f18 f19 f20 f21 f22 f23 f24 f25 f26 f27 p28 f28 f29 : Addr} (X : K.In h) (G : h.Ns mainGlobals mg) (hfa : mg "law" = some (.ref fa))
    {od0 an0 od1 an1 od2 an2 od3 an3 od4 an4 od5 an5 od6 an6 od7 an7 od8 an8 od9 an9 od10 an10 od11 an11 od12 an12 od13 an13 od14 an14 od15 an15 od16 an16 od17 an17 od18 an18 od19 an19 od20 an20 od21 an21 od22 an22 od23 an23 od24 an24 od25 an25 od26 an26 od27 an27 od28 an28 od29 an29 : Option Addr} {sl0 sl1 sl2 sl3 sl4 sl5 sl6 sl7 sl8 sl9 sl10 sl11 sl12 sl13 sl14 sl15 sl16 sl17 sl18 sl19 sl20 sl21 sl22 sl23 sl24 sl25 sl26 sl27 sl28 sl29 : Array (Option Value)} {oc0 kV0 dc0 pm0 ct0 cd0 oc1 kV1 dc1 pm1 ct1 cd1 oc2 kV2 dc2 pm2 ct2 cd2 oc3 kV3 dc3 pm3 ct3 cd3 oc4 kV4 dc4 pm4 ct4 cd4 oc5 kV5 dc5 pm5 ct5 cd5 oc6 kV6 dc6 pm6 ct6 cd6 oc7 kV7 dc7 pm7 ct7 cd7 oc8 kV8 dc8 pm8 ct8 cd8 oc9 kV9 dc9 pm9 ct9 cd9 oc10 kV10 dc10 pm10 ct10 cd10 oc11 kV11 dc11 pm11 ct11 cd11 oc12 kV12 dc12 pm12 ct12 cd12 oc13 kV13 dc13 pm13 ct13 cd13 oc14 kV14 dc14 pm14 ct14 cd14 oc15 kV15 dc15 pm15 ct15 cd15 oc16 kV16 dc16 pm16 ct16 cd16 oc17 kV17 dc17 pm17 ct17 cd17 oc18 kV18 dc18 pm18 ct18 cd18 oc19 kV19 dc19 pm19 ct19 cd19 oc20 kV20 dc20 pm20 ct20 oc21 kV21 dc21 pm21 ct21 oc22 kV22 dc22 pm22 ct22 cd22 oc23 kV23 dc23 pm23 ct23 cd23 oc24 kV24 dc24 pm24 ct24 cd24 oc25 kV25 dc25 pm25 ct25 cd25 oc26 kV26 dc26 pm26 ct26 cd26 oc27 kV27 dc27 pm27 ct27 cd27 oc28 kV28 dc28 pm28 ct28 cd28 oc29 kV29 dc29 pm29 ct29 cd29 : Value} {rest28 : List Value} {tk0 tk1 : Tok} {nmCF qCF : Str} {NCF : Addr} {bsCF bmCF : List Value} {snCF : List Str} {subCF : List Value} {abCF : Bool} {colCF : Option Bool} {ddCF : Option Addr} {e0CF e1CF e2CF e3CF e5CF : Option Value}
    (aC : PySem.W.nsIn K mainGlobals "Where" = some (some (.ref C)))
    (a0 : PySem.W.nsIn K mainGlobals "is_int" = some (some (.ref f0)))
    (l0 : K.lookup f0 = some ⟨oc0, od0, .func (PySem.W.fnOf "is_int" "is_int" (defArgs sIsInt) (defBody sIsInt) (defScope sIsInt) .none kV0 dc0 pm0 an0 cd0 ct0), sl0⟩)
    (c0 : PySem.W.codeIn K cd0 "is_int" = true)
    (k0 : PySem.W.keepIn K (.ref f0) = true)
    (a1 : PySem.W.nsIn K mainGlobals "is_int_from" = some (some (.ref f1)))
    (l1 : K.lookup f1 = some ⟨oc1, od1, .func (PySem.W.fnOf "is_int_from" "is_int_from" (defArgs sFrom) (defBody sFrom) (defScope sFrom) .none kV1 dc1 pm1 an1 cd1 ct1), sl1⟩)
    (c1 : PySem.W.codeIn K cd1 "is_int_from" = true)
    (k1 : PySem.W.keepIn K (.ref f1) = true)
    (a2 : PySem.W.nsIn K mainGlobals "_check_truths" = some (some (.ref f2)))
    (l2 : K.lookup f2 = some ⟨oc2, od2, .func (PySem.W.fnOf "_check_truths" "_check_truths" (defArgs sCheck) (defBody sCheck) (defScope sCheck) .none kV2 dc2 pm2 an2 cd2 ct2), sl2⟩)
    (c2 : PySem.W.codeIn K cd2 "_check_truths" = true)
    (k2 : PySem.W.keepIn K (.ref f2) = true)
    (a3 : PySem.W.nsIn K mainGlobals "least_period" = some (some (.ref f3)))
    (l3 : K.lookup f3 = some ⟨oc3, od3, .func (PySem.W.fnOf "least_period" "least_period" (defArgs sLper) (defBody sLper) (defScope sLper) .none kV3 dc3 pm3 an3 cd3 ct3), sl3⟩)
    (c3 : PySem.W.codeIn K cd3 "least_period" = true)
    (k3 : PySem.W.keepIn K (.ref f3) = true)
    (a4 : PySem.W.nsIn K mainGlobals "_comes_round" = some (some (.ref f4)))
    (l4 : K.lookup f4 = some ⟨oc4, od4, .func (PySem.W.fnOf "_comes_round" "_comes_round" (defArgs sRound) (defBody sRound) (defScope sRound) .none kV4 dc4 pm4 an4 cd4 ct4), sl4⟩)
    (c4 : PySem.W.codeIn K cd4 "_comes_round" = true)
    (k4 : PySem.W.keepIn K (.ref f4) = true)
    (a5 : PySem.W.nsIn K mainGlobals "primes_of" = some (some (.ref f5)))
    (l5 : K.lookup f5 = some ⟨oc5, od5, .func (PySem.W.fnOf "primes_of" "primes_of" (defArgs sPrimes) (defBody sPrimes) (defScope sPrimes) .none kV5 dc5 pm5 an5 cd5 ct5), sl5⟩)
    (c5 : PySem.W.codeIn K cd5 "primes_of" = true)
    (k5 : PySem.W.keepIn K (.ref f5) = true)
    (a6 : PySem.W.nsIn K mainGlobals "_least_start" = some (some (.ref f6)))
    (l6 : K.lookup f6 = some ⟨oc6, od6, .func (PySem.W.fnOf "_least_start" "_least_start" (defArgs sLstart) (defBody sLstart) (defScope sLstart) .none kV6 dc6 pm6 an6 cd6 ct6), sl6⟩)
    (c6 : PySem.W.codeIn K cd6 "_least_start" = true)
    (k6 : PySem.W.keepIn K (.ref f6) = true)
    (a7 : PySem.W.nsIn K mainGlobals "truths_to" = some (some (.ref f7)))
    (l7 : K.lookup f7 = some ⟨oc7, od7, .func (PySem.W.fnOf "truths_to" "truths_to" (defArgs sTo) (defBody sTo) (defScope sTo) .none kV7 dc7 pm7 an7 cd7 ct7), sl7⟩)
    (c7 : PySem.W.codeIn K cd7 "truths_to" = true)
    (k7 : PySem.W.keepIn K (.ref f7) = true)
    (a8 : PySem.W.nsIn K mainGlobals "_paired" = some (some (.ref f8)))
    (l8 : K.lookup f8 = some ⟨oc8, od8, .func (PySem.W.fnOf "_paired" "_paired" (defArgs sPaired) (defBody sPaired) (defScope sPaired) .none kV8 dc8 pm8 an8 cd8 ct8), sl8⟩)
    (c8 : PySem.W.codeIn K cd8 "_paired" = true)
    (k8 : PySem.W.keepIn K (.ref f8) = true)
    (a9 : PySem.W.nsIn K mainGlobals "_law_pen" = some (some (.ref f9)))
    (l9 : K.lookup f9 = some ⟨oc9, od9, .func (PySem.W.fnOf "_law_pen" "_law_pen" (defArgs sPen) (defBody sPen) (defScope sPen) .none kV9 dc9 pm9 an9 cd9 ct9), sl9⟩)
    (c9 : PySem.W.codeIn K cd9 "_law_pen" = true)
    (k9 : PySem.W.keepIn K (.ref f9) = true)
    (a10 : PySem.W.nsIn K mainGlobals "_law_draw" = some (some (.ref f10)))
    (l10 : K.lookup f10 = some ⟨oc10, od10, .func (PySem.W.fnOf "_law_draw" "_law_draw" (defArgs sDraw) (defBody sDraw) (defScope sDraw) .none kV10 dc10 pm10 an10 cd10 ct10), sl10⟩)
    (c10 : PySem.W.codeIn K cd10 "_law_draw" = true)
    (k10 : PySem.W.keepIn K (.ref f10) = true)
    (a11 : PySem.W.nsIn K mainGlobals "_law_pick" = some (some (.ref f11)))
    (l11 : K.lookup f11 = some ⟨oc11, od11, .func (PySem.W.fnOf "_law_pick" "_law_pick" (defArgs sPick) (defBody sPick) (defScope sPick) .none kV11 dc11 pm11 an11 cd11 ct11), sl11⟩)
    (c11 : PySem.W.codeIn K cd11 "_law_pick" = true)
    (k11 : PySem.W.keepIn K (.ref f11) = true)
    (a12 : PySem.W.nsIn K mainGlobals "_law_truths" = some (some (.ref f12)))
    (l12 : K.lookup f12 = some ⟨oc12, od12, .func (PySem.W.fnOf "_law_truths" "_law_truths" (defArgs sTruths) (defBody sTruths) (defScope sTruths) .none kV12 dc12 pm12 an12 cd12 ct12), sl12⟩)
    (c12 : PySem.W.codeIn K cd12 "_law_truths" = true)
    (k12 : PySem.W.keepIn K (.ref f12) = true)
    (a13 : PySem.W.nsIn K mainGlobals "_law_model" = some (some (.ref f13)))
    (l13 : K.lookup f13 = some ⟨oc13, od13, .func (PySem.W.fnOf "_law_model" "_law_model" (defArgs sModel) (defBody sModel) (defScope sModel) .none kV13 dc13 pm13 an13 cd13 ct13), sl13⟩)
    (c13 : PySem.W.codeIn K cd13 "_law_model" = true)
    (k13 : PySem.W.keepIn K (.ref f13) = true)
    (a14 : PySem.W.nsIn K mainGlobals "_law_truth" = some (some (.ref f14)))
    (l14 : K.lookup f14 = some ⟨oc14, od14, .func (PySem.W.fnOf "_law_truth" "_law_truth" (defArgs sTruth) (defBody sTruth) (defScope sTruth) .none kV14 dc14 pm14 an14 cd14 ct14), sl14⟩)
    (c14 : PySem.W.codeIn K cd14 "_law_truth" = true)
    (k14 : PySem.W.keepIn K (.ref f14) = true)
    (a15 : PySem.W.nsIn K mainGlobals "_law_least_model" = some (some (.ref f15)))
    (l15 : K.lookup f15 = some ⟨oc15, od15, .func (PySem.W.fnOf "_law_least_model" "_law_least_model" (defArgs sLeast) (defBody sLeast) (defScope sLeast) .none kV15 dc15 pm15 an15 cd15 ct15), sl15⟩)
    (c15 : PySem.W.codeIn K cd15 "_law_least_model" = true)
    (k15 : PySem.W.keepIn K (.ref f15) = true)
    (a16 : PySem.W.nsIn K mainGlobals "_law_is_where" = some (some (.ref f16)))
    (l16 : K.lookup f16 = some ⟨oc16, od16, .func (PySem.W.fnOf "_law_is_where" "_law_is_where" (defArgs sIsw) (defBody sIsw) (defScope sIsw) .none kV16 dc16 pm16 an16 cd16 ct16), sl16⟩)
    (c16 : PySem.W.codeIn K cd16 "_law_is_where" = true)
    (k16 : PySem.W.keepIn K (.ref f16) = true)
    (a17 : PySem.W.nsIn K mainGlobals "_law_where" = some (some (.ref f17)))
    (l17 : K.lookup f17 = some ⟨oc17, od17, .func (PySem.W.fnOf "_law_where" "_law_where" (defArgs sWhere) (defBody sWhere) (defScope sWhere) .none kV17 dc17 pm17 an17 cd17 ct17), sl17⟩)
    (c17 : PySem.W.codeIn K cd17 "_law_where" = true)
    (k17 : PySem.W.keepIn K (.ref f17) = true)
    (a18 : PySem.W.nsIn K mainGlobals "_law_joined" = some (some (.ref f18)))
    (l18 : K.lookup f18 = some ⟨oc18, od18, .func (PySem.W.fnOf "_law_joined" "_law_joined" (defArgs sJoined) (defBody sJoined) (defScope sJoined) .none kV18 dc18 pm18 an18 cd18 ct18), sl18⟩)
    (c18 : PySem.W.codeIn K cd18 "_law_joined" = true)
    (k18 : PySem.W.keepIn K (.ref f18) = true)
    (a19 : PySem.W.nsIn K mainGlobals "_law_most" = some (some (.ref f19)))
    (l19 : K.lookup f19 = some ⟨oc19, od19, .func (PySem.W.fnOf "_law_most" "_law_most" (defArgs sMost) (defBody sMost) (defScope sMost) .none kV19 dc19 pm19 an19 cd19 ct19), sl19⟩)
    (c19 : PySem.W.codeIn K cd19 "_law_most" = true)
    (k19 : PySem.W.keepIn K (.ref f19) = true)
    (a20 : PySem.W.nsIn K mainGlobals "_law_refused" = some (some (.ref f20)))
    (l20 : K.lookup f20 = some ⟨oc20, od20, .func (PySem.W.fnOf "_law_refused" "_law_refused" (defArgs sRefd) (defBody sRefd) (defScope sRefd) .none kV20 dc20 pm20 an20 (.ref cR) ct20), sl20⟩)
    (c20 : PySem.W.codeIn K (.ref cR) "_law_refused" = true)
    (k20 : PySem.W.keepIn K (.ref f20) = true)
    (tPR : PySem.W.tabIn K "_law_refused" = some (cR, PR))
    (hPR : PySem.W.codeHdIn K cR PR = true)
    (nPR : K.lookup PR = none)
    (a21 : PySem.W.nsIn K mainGlobals "law" = some (some (.ref f21)))
    (l21 : K.lookup f21 = some ⟨oc21, od21, .func (PySem.W.fnOf "law" "law" (defArgs sLaw) (defBody sLaw) (defScope sLaw) .none kV21 dc21 pm21 an21 (.ref cL) ct21), sl21⟩)
    (c21 : PySem.W.codeIn K (.ref cL) "law" = true)
    (k21 : PySem.W.keepIn K (.ref f21) = true)
    (tP : PySem.W.tabIn K "law" = some (cL, PT))
    (hP : PySem.W.codeHdIn K cL PT = true)
    (nPT : K.lookup PT = none)
    (a22 : PySem.W.findIn K (.ref C) "__init__" = some (some (.ref f22)))
    (i22 : PySem.W.isFn K (.ref f22) = true)
    (t22 : PySem.W.typeIn K (.ref f22) = some (.type "function"))
    (l22 : K.lookup f22 = some ⟨oc22, od22, .func (PySem.W.fnOf "__init__" "Where.__init__" (defArgs sInit) (defBody sInit) (defScope sInit) .none kV22 dc22 pm22 an22 cd22 ct22), sl22⟩)
    (c22 : PySem.W.codeIn K cd22 "Where.__init__" = true)
    (k22 : PySem.W.keepIn K (.ref f22) = true)
    (a23 : PySem.W.findIn K (.ref C) "__or__" = some (some (.ref f23)))
    (i23 : PySem.W.isFn K (.ref f23) = true)
    (t23 : PySem.W.typeIn K (.ref f23) = some (.type "function"))
    (l23 : K.lookup f23 = some ⟨oc23, od23, .func (PySem.W.fnOf "__or__" "Where.__or__" (defArgs sOr) (defBody sOr) (defScope sOr) .none kV23 dc23 pm23 an23 cd23 ct23), sl23⟩)
    (c23 : PySem.W.codeIn K cd23 "Where.__or__" = true)
    (k23 : PySem.W.keepIn K (.ref f23) = true)
    (a24 : PySem.W.findIn K (.ref C) "__and__" = some (some (.ref f24)))
    (i24 : PySem.W.isFn K (.ref f24) = true)
    (t24 : PySem.W.typeIn K (.ref f24) = some (.type "function"))
    (l24 : K.lookup f24 = some ⟨oc24, od24, .func (PySem.W.fnOf "__and__" "Where.__and__" (defArgs sAnd) (defBody sAnd) (defScope sAnd) .none kV24 dc24 pm24 an24 cd24 ct24), sl24⟩)
    (c24 : PySem.W.codeIn K cd24 "Where.__and__" = true)
    (k24 : PySem.W.keepIn K (.ref f24) = true)
    (a25 : PySem.W.findIn K (.ref C) "__sub__" = some (some (.ref f25)))
    (i25 : PySem.W.isFn K (.ref f25) = true)
    (t25 : PySem.W.typeIn K (.ref f25) = some (.type "function"))
    (l25 : K.lookup f25 = some ⟨oc25, od25, .func (PySem.W.fnOf "__sub__" "Where.__sub__" (defArgs sSub) (defBody sSub) (defScope sSub) .none kV25 dc25 pm25 an25 cd25 ct25), sl25⟩)
    (c25 : PySem.W.codeIn K cd25 "Where.__sub__" = true)
    (k25 : PySem.W.keepIn K (.ref f25) = true)
    (a26 : PySem.W.findIn K (.ref C) "__xor__" = some (some (.ref f26)))
    (i26 : PySem.W.isFn K (.ref f26) = true)
    (t26 : PySem.W.typeIn K (.ref f26) = some (.type "function"))
    (l26 : K.lookup f26 = some ⟨oc26, od26, .func (PySem.W.fnOf "__xor__" "Where.__xor__" (defArgs sXor) (defBody sXor) (defScope sXor) .none kV26 dc26 pm26 an26 cd26 ct26), sl26⟩)
    (c26 : PySem.W.codeIn K cd26 "Where.__xor__" = true)
    (k26 : PySem.W.keepIn K (.ref f26) = true)
    (a27 : PySem.W.findIn K (.ref C) "__invert__" = some (some (.ref f27)))
    (i27 : PySem.W.isFn K (.ref f27) = true)
    (t27 : PySem.W.typeIn K (.ref f27) = some (.type "function"))
    (l27 : K.lookup f27 = some ⟨oc27, od27, .func (PySem.W.fnOf "__invert__" "Where.__invert__" (defArgs sInv) (defBody sInv) (defScope sInv) .none kV27 dc27 pm27 an27 cd27 ct27), sl27⟩)
    (c27 : PySem.W.codeIn K cd27 "Where.__invert__" = true)
    (k27 : PySem.W.keepIn K (.ref f27) = true)
    (a28 : PySem.W.findCls K (.ref C) (.type "type") "rest" = some (.get (.builtin "classmethod.__get__") (.ref p28) .none (.ref C)))
    (r28 : PySem.W.recIn K p28 "classmethod" = some (.ref f28 :: rest28))
    (i28 : PySem.W.fnIn K f28 = true)
    (l28 : K.lookup f28 = some ⟨oc28, od28, .func (PySem.W.fnOf "rest" "Where.rest" (defArgs sRest) (defBody sRest) (defScope sRest) .none kV28 dc28 pm28 an28 cd28 ct28), sl28⟩)
    (c28 : PySem.W.codeIn K cd28 "Where.rest" = true)
    (k28 : PySem.W.keepIn K (.ref f28) = true)
    (mCF : PySem.W.nsIn K mainGlobals "TooFine" = some (some (.ref CF)))
    (oCF : K.lookup CF = some (excClassObj nmCF qCF CF NCF bsCF bmCF true snCF subCF abCF colCF ddCF e0CF e1CF e2CF e3CF e5CF "ValueError.__new__"))
    (vCF : PySem.HandSPX.refsVE bmCF = true)
    (sCF : PySem.W.findIn K (.ref CF) "__setattr__" = some (some (.builtin "object.__setattr__")))
    (xCF : PySem.W.subIn K (.ref CF) (.type "BaseException") = some true)
    (tCF : PySem.W.typeIn K (.ref CF) = some (.type "type"))
    (kCF : PySem.W.keepIn K (.ref CF) = true)
    (iCF : PySem.W.findIn K (.ref CF) "__init__" = some (some (.ref f29)))
    (uCF : PySem.W.typeIn K (.ref f29) = some (.type "function"))
    (nCF : PySem.W.findIn K (.ref CF) "most" = some none)
    (gaCF : PySem.W.findIn K (.ref CF) "__getattribute__" = some (some (.builtin "BaseException.__getattribute__")))
    (ggCF : PySem.W.findIn K (.ref CF) "__getattr__" = some none)
    (hdCF : PySem.W.hasDictIn K CF = true)
    (l29 : K.lookup f29 = some ⟨oc29, od29, .func (PySem.W.fnOf "__init__" "TooFine.__init__" (defArgs sErrF) (defBody sErrF) (defScope sErrF) .none kV29 dc29 pm29 an29 cd29 ct29), sl29⟩)
    (c29 : PySem.W.codeIn K cd29 "TooFine.__init__" = true)
    (k29 : PySem.W.keepIn K (.ref f29) = true)
    (jCF : PySem.W.isClsIn K CF = true)
    (xCFCF : PySem.W.subIn K (.ref CF) (.ref CF) = some true)
    (dRT : ¬ PR = PT)
    (hdC : Ef.hdIn K C = true)
    (gL : PySem.W.nsIn K mainGlobals "lcm" = some (some (.builtin "math.lcm")))
    (pg : PySem.W.plainGet K C Str.empty = true)
    (hd : PySem.W.hasDictIn K C = true)
    (po : PySem.W.plainOver K C = true)
    (sa : PySem.W.findIn K (.ref C) "__setattr__" = some (some (.builtin "object.__setattr__")))
    (mk : PySem.W.makesIn K C = true)
    (kc : PySem.W.keepIn K (.ref C) = true)
    (rd : PySem.W.readsIn K C (.type "type") = true)
    (ga : PySem.W.specialIn K (.ref C) "__getattribute__" = some (some (.builtin "type.__getattribute__")))
    (cc : PySem.W.findIn K (.ref C) "__class__" = some (some (.builtin "object.__class__")))
    (cg : PySem.W.specialIn K (.builtin "object.__class__") "__get__" = some (some (.builtin "getset_descriptor.__get__")))
    (ctk : PySem.W.takesIn K (.builtin "object.__class__") = some true)
    (co : PySem.W.mroIn K C (.type "object") = some true)
    (sli : PySem.W.subIn K (.type "list") (.ref C) = some false)
    (sti : PySem.W.subIn K (.type "tuple") (.ref C) = some false)
    (n0 : PySem.W.findIn K (.ref C) "period" = some none)
    (n1 : PySem.W.findIn K (.ref C) "start" = some none)
    (n2 : PySem.W.findIn K (.ref C) "rests" = some none)
    (n3 : PySem.W.findIn K (.ref C) "below" = some none)
    (n4 : PySem.W.findIn K (.ref C) "_early" = some none)
    (n5 : PySem.W.findIn K (.ref C) "_late" = some none)
    (z0 : PySem.W.nsIn K mainGlobals "int" = some none)
    (z1 : PySem.W.nsIn K mainGlobals "len" = some none)
    (z2 : PySem.W.nsIn K mainGlobals "list" = some none)
    (z3 : PySem.W.nsIn K mainGlobals "isinstance" = some none)
    (z4 : PySem.W.nsIn K mainGlobals "bool" = some none)
    (z5 : PySem.W.nsIn K mainGlobals "enumerate" = some none)
    (z6 : PySem.W.nsIn K mainGlobals "reversed" = some none)
    (z7 : PySem.W.nsIn K mainGlobals "range" = some none)
    (z8 : PySem.W.nsIn K mainGlobals "tuple" = some none)
    (z9 : PySem.W.nsIn K mainGlobals "zip" = some none)
    (z10 : PySem.W.nsIn K mainGlobals "max" = some none)
    (z11 : PySem.W.nsIn K mainGlobals "min" = some none)
    (e0 : PySem.W.nsIn K mainGlobals "MOST_PERIOD" = some (some (.int 720 tk0)))
    (e1 : PySem.W.nsIn K mainGlobals "MOST_START" = some (some (.int 10000 tk1)))
    (Y : ∀ p : Addr, p = PT ∨ p = PR → h.get? p = some (PySem.W.tabObj #[]))
    : LamX.LawAtS l w K CX0 9 63 "script" mg fa h := by
  have e := hfa.symm.trans (PySem.W.mg_of X G a21)
  cases e
  have TW : TxtW mg := { int := PySem.W.mg_none_of X G z0, len := PySem.W.mg_none_of X G z1, list := PySem.W.mg_none_of X G z2, isinstance := PySem.W.mg_none_of X G z3, bool := PySem.W.mg_none_of X G z4, enumerate := PySem.W.mg_none_of X G z5, reversed := PySem.W.mg_none_of X G z6, range := PySem.W.mg_none_of X G z7, tuple := PySem.W.mg_none_of X G z8 }
  have TI : TxtI mg := { toTxtW := TW, MOST_PERIOD := ⟨tk0, PySem.W.mg_of X G e0⟩, MOST_START := ⟨tk1, PySem.W.mg_of X G e1⟩ }
  have TJ : TxtJ mg := { toTxtI := TI, lcm := PySem.W.mg_of X G gL, zip := PySem.W.mg_none_of X G z9, max := PySem.W.mg_none_of X G z10 }
  have T : TxtL mg := { toTxtJ := TJ, min := PySem.W.mg_none_of X G z11 }
  have CC : ClsW K mg C := ⟨⟨pg, hd, po, sa⟩, PySem.W.mg_of X G aC, n0, n1, n2, n3, n4, n5⟩
  have CW : ClsQ K mg C := { toClsW := CC, cc := cc, cg := cg, ct := ctk, co := co, sl := ⟨sli, sti⟩ }
  have F22 := fun_mk (st := sInit) l22 c22 k22
  have b22 := F22.binds (ps := ["self", "below", "rests"]) fun _ _ _ _ _ _ us hl => match us, hl with | [_, _, _], _ => rfl
  have F23 := fun_mk (st := sOr) l23 c23 k23
  have b23 := F23.binds (ps := ["self", "other"]) fun _ _ _ _ _ _ us hl => match us, hl with | [_, _], _ => rfl
  have F24 := fun_mk (st := sAnd) l24 c24 k24
  have b24 := F24.binds (ps := ["self", "other"]) fun _ _ _ _ _ _ us hl => match us, hl with | [_, _], _ => rfl
  have F25 := fun_mk (st := sSub) l25 c25 k25
  have b25 := F25.binds (ps := ["self", "other"]) fun _ _ _ _ _ _ us hl => match us, hl with | [_, _], _ => rfl
  have F26 := fun_mk (st := sXor) l26 c26 k26
  have b26 := F26.binds (ps := ["self", "other"]) fun _ _ _ _ _ _ us hl => match us, hl with | [_, _], _ => rfl
  have F27 := fun_mk (st := sInv) l27 c27 k27
  have b27 := F27.binds (ps := ["self"]) fun _ _ _ _ _ _ us hl => match us, hl with | [_], _ => rfl
  have FCF := fun_mk (st := sErrF) l29 c29 k29
  have bCF := FCF.binds (ps := ["self", "most"]) fun _ _ _ _ _ _ us hl => match us, hl with | [_, _], _ => rfl
  have FPr := fun_mk (st := sPaired) l8 c8 k8
  have bPr := FPr.binds (ps := ["v", "w"]) fun _ _ _ _ _ _ us hl => match us, hl with | [_, _], _ => rfl
  have FMo := fun_mk (st := sMost) l19 c19 k19
  have bMo := FMo.binds (ps := ["ask"]) fun _ _ _ _ _ _ us hl => match us, hl with | [_], _ => rfl
  have FRe := fun_mk (st := sRest) l28 c28 k28
  have bRe := FRe.binds (ps := ["cls", "m", "r"]) fun _ _ _ _ _ _ us hl => match us, hl with | [_, _, _], _ => rfl
  have FRd := fun_mk (st := sRefd) l20 c20 k20
  have bRd := FRd.binds (ps := ["pen"]) fun _ _ _ _ _ _ us hl => match us, hl with | [_], _ => rfl
  have ECF : ErrF K mg "TooFine" "most" CF f29 := ⟨⟨⟨_, _, _, _, _, _, _, _, _, _, _, _, _, _, _, oCF, vCF⟩, sCF, xCF, tCF, kCF⟩, PySem.W.mg_of X G mCF, iCF, uCF, nCF, ⟨gaCF, ggCF, xCF, hdCF⟩⟩
  have ff : PySem.W.exmOne K (.ref CF) (.ref CF) = some true := exm_by xCF jCF tCF xCFCF
  have M : Mk K C f22 := ⟨mk, a22, i22, kc⟩
  refine ⟨PySem.W.fnOf "law" "law" (defArgs sLaw) (defBody sLaw) (defScope sLaw) .none kV21 dc21 pm21 an21 (.ref cL) ct21, [(cL, PT), (cR, PR)], spLaw K PR PT, fun p hp => ?_, fun p hp => ?_, fun p hp => ?_, fun s u => .of_eq rfl, fun H a ns hl _ ht hS => ⟨a, ns, rfl, hS, hl, fun p hp => ?_, fun _ => rfl⟩, fun base hKb _ hTB => ?_⟩
  · rcases List.mem_cons.mp hp with z | z
    · rw [z]; exact Y _ (.inl rfl)
    · rw [List.mem_singleton.mp z]; exact Y _ (.inr rfl)
  · rcases List.mem_cons.mp hp with z | z
    · rw [z]; exact nPT
    · rw [List.mem_singleton.mp z]; exact nPR
  · rcases List.mem_cons.mp hp with z | z
    · rw [z]; exact PySem.W.codeHd_of_K X hP
    · rw [List.mem_singleton.mp z]; exact PySem.W.codeHd_of_K X hPR
  · rcases List.mem_cons.mp hp with z | z
    · rw [z]; exact LamX.TabS.nil (ht (cR, PR) (List.Mem.tail _ (List.Mem.head _)))
    · rw [List.mem_singleton.mp z]; exact LamX.TabS.nil (ht (cL, PT) (List.Mem.head _))
  have dIsInt := df_isint (P := l.prog) (w := w) (base := base) (at_mk (st := sIsInt) X G a0 l0 c0 k0) TW
  have dFrom := df_from (P := l.prog) (w := w) (base := base) (at_mk (st := sFrom) X G a1 l1 c1 k1) dIsInt
  have dCheck := df_check (P := l.prog) (w := w) (base := base) (at_mk (st := sCheck) X G a2 l2 c2 k2) TW
  have dRound := df_round (P := l.prog) (w := w) (base := base) (at_mk (st := sRound) X G a4 l4 c4 k4) TW
  have dPrimes := df_primes (P := l.prog) (w := w) (base := base) (at_mk (st := sPrimes) X G a5 l5 c5 k5) 
  have dLper := df_lper (P := l.prog) (w := w) (base := base) (at_mk (st := sLper) X G a3 l3 c3 k3) TW dPrimes dRound
  have dLstart := df_lstart (P := l.prog) (w := w) (base := base) (at_mk (st := sLstart) X G a6 l6 c6 k6) TW
  have dTo := df_to (P := l.prog) (w := w) (base := base) (at_mk (st := sTo) X G a7 l7 c7 k7) CC
  have dPen := df_pen (P := l.prog) (w := w) (base := base) (at_mk (st := sPen) X G a9 l9 c9 k9) TW.toTxtP
  have dDraw := df_draw (P := l.prog) (w := w) (base := base) (at_mk (st := sDraw) X G a10 l10 c10 k10) TW.toTxtP
  have dPick := df_pick (P := l.prog) (w := w) (base := base) (at_mk (st := sPick) X G a11 l11 c11 k11) TW.toTxtP dDraw
  have dTruths := df_truths (P := l.prog) (w := w) (base := base) (at_mk (st := sTruths) X G a12 l12 c12 k12) TW.toTxtP TW.range dDraw
  have dModel := df_model (P := l.prog) (w := w) (base := base) (at_mk (st := sModel) X G a13 l13 c13 k13) dDraw dPick dTruths
  have dTruth := df_truth (P := l.prog) (w := w) (base := base) (at_mk (st := sTruth) X G a14 l14 c14 k14) TW.toTxtP
  have dLeast := df_least (P := l.prog) (w := w) (base := base) (at_mk (st := sLeast) X G a15 l15 c15 k15) TW
  have dIsw := df_isw (P := l.prog) (w := w) (base := base) (at_mk (st := sIsw) X G a16 l16 c16 k16) TW CW dLeast
  have dJoined := df_joined (P := l.prog) (w := w) (base := base) (at_mk (st := sJoined) X G a18 l18 c18 k18) TJ dTruth
  have gCF := ok_errF (P := l.prog) (w := w) (base := base) FCF ECF
  have FI := ok_init (P := l.prog) (w := w) (base := base) F22 TI CC dCheck dLper dLstart
  have dWhere := df_where (P := l.prog) (w := w) (base := base) (at_mk (st := sWhere) X G a17 l17 c17 k17) TW.toTxtP CC M FI b22
  have PRd : DfX l.prog w K mg base 3 "_paired" ["v", "w"] (spPaired K C CF) f8 _ := ⟨PySem.W.mg_of X G a8, k8, bPr, ok_paired (P := l.prog) (w := w) (base := base) FPr TJ CC ECF gCF bCF dTo⟩
  have OI : OwnG l.prog w K mg base CX0 5 C "__invert__" ["self"] (spInv K C) := ⟨f27, _, a27, t27, b27, ok_inv (P := l.prog) (w := w) (base := base) F27 CC M FI b22⟩
  have OOr : OwnG l.prog w K mg base (CX l.prog w) 5 C "__or__" ["self", "other"] (spOp K C CF (fun a b => a || b)) := ⟨f23, _, a23, t23, b23, ok_or (P := l.prog) (w := w) (base := base) F23 TJ CC M FI b22 PRd⟩
  have OAnd : OwnG l.prog w K mg base (CX l.prog w) 5 C "__and__" ["self", "other"] (spOp K C CF (fun a b => a && b)) := ⟨f24, _, a24, t24, b24, ok_and (P := l.prog) (w := w) (base := base) F24 TJ CC M FI b22 PRd⟩
  have OSub : OwnG l.prog w K mg base (CX l.prog w) 5 C "__sub__" ["self", "other"] (spOp K C CF (fun a b => a && !b)) := ⟨f25, _, a25, t25, b25, ok_sub (P := l.prog) (w := w) (base := base) F25 TJ CC M FI b22 PRd⟩
  have OXor : OwnG l.prog w K mg base (CX l.prog w) 5 C "__xor__" ["self", "other"] (spOp K C CF (fun a b => a != b)) := ⟨f26, _, a26, t26, b26, ok_xor (P := l.prog) (w := w) (base := base) F26 TJ CC M FI b22 PRd⟩
  have GR : FnR l.prog w K mg base CX0 5 f28 (spRest K C) := (FnOk.raw (ok_rest FRe TI M FI b22 dFrom) bRe .nil).imp fun vs H Q E h => by rw [List.append_nil]; exact h
  have FA : MostAt K mg f19 _ _ _ _ _ _ _ _ _ := ⟨PySem.W.mg_of X G a19, k19, l19, c19, bMo⟩
  have gRd := ok_refd (P := l.prog) (w := w) (base := base) (mc := .type "type") l20 c20 TJ CW ⟨rd, ga⟩ ⟨a28, ⟨rest28, r28⟩, i28⟩ GR hdC OI OOr OAnd OSub OXor FA ECF ff (hTB (cR, PR) (List.Mem.tail _ (List.Mem.head _))) dRT dDraw dPick
  have dRd : Df l.prog w K mg base 8 "_law_refused" ["pen"] (spRefd K PR PT) := ⟨_, _, PySem.W.mg_of X G a20, k20, bRd, gRd⟩
  exact ok_law l21 c21 T CW hdC OI OOr OAnd OSub OXor (hTB (cL, PT) (List.Mem.head _)) dRT dPen dDraw dModel dWhere dIsw dJoined dRd
end Ef
set_option Elab.async false
set_option linter.all false
open PySem PySem.W PyProof.Rows in
set_option maxRecDepth 100000 in
set_option maxHeartbeats 0 in
theorem PySem.Challenge.cw_everyfloor_k12_whole_operators_of_sets_holds : PySem.Challenge.rw_everyfloor_k12_whole_operators_of_sets.Holds := by
  w_on; o_law; k_head; (case hw => w_witness2)
  k_fill
  refine LamX.walk_ofTs (l := PySem.Challenge.rw_everyfloor_k12_whole_operators_of_sets) (n := 63) (k := 9) (x := "script") (CX := fun _ => L2.CX0) rfl (by decide) rfl ⟨rfl, by decide, by decide⟩ (fun w h Y => Y.1) ?F (fun _ _ _ _ _ z => z)
  case F =>
    intro w mg fa h Y KX G hmg
    refine' Ef.all_mk (l := PySem.Challenge.rw_everyfloor_k12_whole_operators_of_sets) KX G hmg ?aC ?a0 ?l0 ?c0 ?k0 ?a1 ?l1 ?c1 ?k1 ?a2 ?l2 ?c2 ?k2 ?a3 ?l3 ?c3 ?k3 ?a4 ?l4 ?c4 ?k4 ?a5 ?l5 ?c5 ?k5 ?a6 ?l6 ?c6 ?k6 ?a7 ?l7 ?c7 ?k7 ?a8 ?l8 ?c8 ?k8 ?a9 ?l9 ?c9 ?k9 ?a10 ?l10 ?c10 ?k10 ?a11 ?l11 ?c11 ?k11 ?a12 ?l12 ?c12 ?k12 ?a13 ?l13 ?c13 ?k13 ?a14 ?l14 ?c14 ?k14 ?a15 ?l15 ?c15 ?k15 ?a16 ?l16 ?c16 ?k16 ?a17 ?l17 ?c17 ?k17 ?a18 ?l18 ?c18 ?k18 ?a19 ?l19 ?c19 ?k19 ?a20 ?l20 ?c20 ?k20 ?tPR ?hPR ?nPR ?a21 ?l21 ?c21 ?k21 ?tP ?hP ?nPT ?a22 ?i22 ?t22 ?l22 ?c22 ?k22 ?a23 ?i23 ?t23 ?l23 ?c23 ?k23 ?a24 ?i24 ?t24 ?l24 ?c24 ?k24 ?a25 ?i25 ?t25 ?l25 ?c25 ?k25 ?a26 ?i26 ?t26 ?l26 ?c26 ?k26 ?a27 ?i27 ?t27 ?l27 ?c27 ?k27 ?a28 ?r28 ?i28 ?l28 ?c28 ?k28 ?mCF ?oCF ?vCF ?sCF ?xCF ?tCF ?kCF ?iCF ?uCF ?nCF ?gaCF ?ggCF ?hdCF ?l29 ?c29 ?k29 ?jCF ?xCFCF ?dRT ?hdC ?gL ?pg ?hd ?po ?sa ?mk ?kc ?rd ?ga ?cc ?cg ?ctk ?co ?sli ?sti ?n0 ?n1 ?n2 ?n3 ?n4 ?n5 ?z0 ?z1 ?z2 ?z3 ?z4 ?z5 ?z6 ?z7 ?z8 ?z9 ?z10 ?z11 ?e0 ?e1 ?hYY
    (case aC => k_is)
    (case a0 => k_is)
    (case l0 => k_is)
    (case c0 => k_is)
    (case k0 => k_is)
    (case a1 => k_is)
    (case l1 => k_is)
    (case c1 => k_is)
    (case k1 => k_is)
    (case a2 => k_is)
    (case l2 => k_is)
    (case c2 => k_is)
    (case k2 => k_is)
    (case a3 => k_is)
    (case l3 => k_is)
    (case c3 => k_is)
    (case k3 => k_is)
    (case a4 => k_is)
    (case l4 => k_is)
    (case c4 => k_is)
    (case k4 => k_is)
    (case a5 => k_is)
    (case l5 => k_is)
    (case c5 => k_is)
    (case k5 => k_is)
    (case a6 => k_is)
    (case l6 => k_is)
    (case c6 => k_is)
    (case k6 => k_is)
    (case a7 => k_is)
    (case l7 => k_is)
    (case c7 => k_is)
    (case k7 => k_is)
    (case a8 => k_is)
    (case l8 => k_is)
    (case c8 => k_is)
    (case k8 => k_is)
    (case a9 => k_is)
    (case l9 => k_is)
    (case c9 => k_is)
    (case k9 => k_is)
    (case a10 => k_is)
    (case l10 => k_is)
    (case c10 => k_is)
    (case k10 => k_is)
    (case a11 => k_is)
    (case l11 => k_is)
    (case c11 => k_is)
    (case k11 => k_is)
    (case a12 => k_is)
    (case l12 => k_is)
    (case c12 => k_is)
    (case k12 => k_is)
    (case a13 => k_is)
    (case l13 => k_is)
    (case c13 => k_is)
    (case k13 => k_is)
    (case a14 => k_is)
    (case l14 => k_is)
    (case c14 => k_is)
    (case k14 => k_is)
    (case a15 => k_is)
    (case l15 => k_is)
    (case c15 => k_is)
    (case k15 => k_is)
    (case a16 => k_is)
    (case l16 => k_is)
    (case c16 => k_is)
    (case k16 => k_is)
    (case a17 => k_is)
    (case l17 => k_is)
    (case c17 => k_is)
    (case k17 => k_is)
    (case a18 => k_is)
    (case l18 => k_is)
    (case c18 => k_is)
    (case k18 => k_is)
    (case a19 => k_is)
    (case l19 => k_is)
    (case c19 => k_is)
    (case k19 => k_is)
    (case a20 => k_is)
    (case l20 => k_is)
    (case c20 => k_is)
    (case k20 => k_is)
    (case tPR => first | k_is | rfl | decide +kernel)
    (case hPR => first | k_is | rfl | decide +kernel)
    (case nPR => first | k_is | decide +kernel | rfl)
    (case a21 => k_is)
    (case l21 => k_is)
    (case c21 => k_is)
    (case k21 => k_is)
    (case tP => first | k_is | rfl | decide +kernel)
    (case hP => first | k_is | rfl | decide +kernel)
    (case nPT => first | k_is | decide +kernel | rfl)
    (case a22 => k_is)
    (case i22 => k_is)
    (case t22 => k_is)
    (case l22 => k_is)
    (case c22 => k_is)
    (case k22 => k_is)
    (case a23 => k_is)
    (case i23 => k_is)
    (case t23 => k_is)
    (case l23 => k_is)
    (case c23 => k_is)
    (case k23 => k_is)
    (case a24 => k_is)
    (case i24 => k_is)
    (case t24 => k_is)
    (case l24 => k_is)
    (case c24 => k_is)
    (case k24 => k_is)
    (case a25 => k_is)
    (case i25 => k_is)
    (case t25 => k_is)
    (case l25 => k_is)
    (case c25 => k_is)
    (case k25 => k_is)
    (case a26 => k_is)
    (case i26 => k_is)
    (case t26 => k_is)
    (case l26 => k_is)
    (case c26 => k_is)
    (case k26 => k_is)
    (case a27 => k_is)
    (case i27 => k_is)
    (case t27 => k_is)
    (case l27 => k_is)
    (case c27 => k_is)
    (case k27 => k_is)
    (case a28 => k_is)
    (case r28 => k_is)
    (case i28 => k_is)
    (case l28 => k_is)
    (case c28 => k_is)
    (case k28 => k_is)
    (case mCF => k_is)
    (case oCF => k_is)
    (case vCF => decide +kernel)
    (case sCF => k_is)
    (case xCF => k_is)
    (case tCF => k_is)
    (case kCF => k_is)
    (case iCF => k_is)
    (case uCF => k_is)
    (case nCF => k_is)
    (case gaCF => k_is)
    (case ggCF => k_is)
    (case hdCF => k_is)
    (case l29 => k_is)
    (case c29 => k_is)
    (case k29 => k_is)
    (case jCF => k_is)
    (case xCFCF => k_is)
    (case dRT => decide)
    (case hdC => first | k_is | decide +kernel | rfl)
    (case gL => k_is)
    (case pg => k_is)
    (case hd => k_is)
    (case po => k_is)
    (case sa => k_is)
    (case mk => k_is)
    (case kc => k_is)
    (case rd => k_is)
    (case ga => k_is)
    (case cc => k_is)
    (case cg => k_is)
    (case ctk => k_is)
    (case co => k_is)
    (case sli => k_is)
    (case sti => k_is)
    (case n0 => k_is)
    (case n1 => k_is)
    (case n2 => k_is)
    (case n3 => k_is)
    (case n4 => k_is)
    (case n5 => k_is)
    (case z0 => k_is)
    (case z1 => k_is)
    (case z2 => k_is)
    (case z3 => k_is)
    (case z4 => k_is)
    (case z5 => k_is)
    (case z6 => k_is)
    (case z7 => k_is)
    (case z8 => k_is)
    (case z9 => k_is)
    (case z10 => k_is)
    (case z11 => k_is)
    (case e0 => k_is)
    (case e1 => k_is)
    (case hYY => intro p hp; rcases hp with rfl | rfl <;> exact Y.2 _ (by decide))
#print axioms PySem.Challenge.cw_everyfloor_k12_whole_operators_of_sets_holds
