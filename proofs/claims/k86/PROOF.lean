import PyProof.Rows.All
import Wide.All
import OpenK.AllK
import Wide.FinOn
import HandS.ForMost
import PySem.Challenge.RW_everyfloor_k86_whole_sets_with_long_peri
import HandS.IsInst
import KE.GoesEnum
import HandS.Style
import HandS.Walk
import HandS.TupAny
import HandS.RevRange
import HandS.Conv
import HandS.ForExc
import HandS.TryMany
import HandS.ExcInit
import HandS.ExcField
import HandS.Defaults
import HandS.SetFor
import HandS.Iter
import PyProof.LongRange
import HandS.Lambda
import HandS.EndTab
import HandS.Property
import HandS.More
import HandS.ClsMeth
import HandS.OwnEq
set_option Elab.async false
set_option linter.all false
set_option maxRecDepth 100000
set_option maxHeartbeats 4000000
namespace Ef
open PySem PySem.Spec PyProof.Rows L2
def top (i : Nat) : Stmt := PySem.Challenge.pw_everyfloor_k86_whole_sets_with_long_peri.main.body.getD i (.Pass ⟨0, 0, 0, 0⟩)
abbrev sPen : Stmt := top 28
abbrev sDraw : Stmt := top 29
abbrev sPick : Stmt := top 30
/-! ### the pen -/
def penD (l : Addr) (a b : Int) : List (Key × V) := [(.inr "cells", .ref l), (.inr "at", .int a), (.inr "left", .int b)]
theorem pen_cells (l : Addr) (a b : Int) : valV (penD l a b) (Sum.inr "cells") = some (.ref l) := by with_unfolding_all rfl
theorem pen_at (l : Addr) (a b : Int) : valV (penD l a b) (Sum.inr "at") = some (.int a) := by with_unfolding_all rfl
theorem pen_left (l : Addr) (a b : Int) : valV (penD l a b) (Sum.inr "left") = some (.int b) := by with_unfolding_all rfl
theorem put_at (l : Addr) (a b c : Int) : putK (penD l a b) (Sum.inr "at") (.int c) = penD l c b := by with_unfolding_all rfl
theorem put_left (l : Addr) (a b c : Int) : putK (penD l a b) (Sum.inr "left") (.int c) = penD l a c := by with_unfolding_all rfl
/-- at p stands the pen: its list of ints at l, its place a, what is left b -/
structure Pen (H : Hp) (p l : Addr) (ns : List Int) (a b : Int) : Prop where
  hd : H p = some (.dK (penD l a b))
  hl : H l = some (.lst (ns.map V.int))
  len : ns.length ≤ 63
  a0 : 0 ≤ a
  b0 : 0 ≤ b
/-- all that is tracked but p is as it was -/
def Kp (p : Addr) (H H' : Hp) : Prop := ∀ x o, x ≠ p → H x = some o → H' x = some o
theorem Kp.refl (p : Addr) (H : Hp) : Kp p H H := fun _ _ _ h => h
theorem Kp.trans {p : Addr} {H H1 H2 : Hp} (a : Kp p H H1) (b : Kp p H1 H2) : Kp p H H2 := fun x o n h => b x o n (a x o n h)
theorem Kp.put {p : Addr} {H : Hp} (o : HO) : Kp p H (upd H p o) := fun x u n h => by rw [upd_ne n]; exact h
theorem Kp.new {p q : Addr} {H : Hp} (o : HO) (hq : H q = none) : Kp p H (upd H q o) := fun x u n h => by rw [upd_ne (ne_of_none h hq)]; exact h
/-! ### data -/
theorem dp_ints {K : PySem.W.Frag} {H : Hp} : ∀ ns : List Int, DpAll K H (ns.map V.int) (ns.map PyData.int)
  | [] => .nil
  | n :: ns => .cons (.int n) (dp_ints ns)
theorem dp_bls {K : PySem.W.Frag} {H : Hp} : ∀ bs : List Bool, DpAll K H (bs.map V.bl) (bs.map PyData.bool)
  | [] => .nil
  | n :: ns => .cons (.bl n) (dp_bls ns)
theorem can_ints : ∀ ns : List Int, PyData.canLayAll0 (ns.map PyData.int) = true ∧ PyData.depthAll (ns.map PyData.int) = 0
  | [] => ⟨rfl, rfl⟩
  | n :: ns => by
    obtain ⟨h1, h2⟩ := can_ints ns
    constructor
    · show (PyData.canLay0 (.int n) && PyData.canLayAll0 (ns.map PyData.int)) = true
      rw [h1]; rfl
    · show max (PyData.depth (.int n)) (PyData.depthAll (ns.map PyData.int)) = 0
      rw [h2]; rfl
theorem can_bls : ∀ ns : List Bool, PyData.canLayAll0 (ns.map PyData.bool) = true ∧ PyData.depthAll (ns.map PyData.bool) = 0
  | [] => ⟨rfl, rfl⟩
  | n :: ns => by
    obtain ⟨h1, h2⟩ := can_bls ns
    constructor
    · show (PyData.canLay0 (.bool n) && PyData.canLayAll0 (ns.map PyData.bool)) = true
      rw [h1]; rfl
    · show max (PyData.depth (.bool n)) (PyData.depthAll (ns.map PyData.bool)) = 0
      rw [h2]; rfl
theorem sh_list {ds : List PyData} (h1 : PyData.canLayAll0 ds = true) (h2 : PyData.depthAll ds = 0) : SeqAt.shaped (.list ds) = true ∧ SeqAt.shaped (.tuple ds) = true := by
  constructor
  · show (PyData.canLayAll0 ds && decide (PyData.depthAll ds + 1 ≤ 64)) = true
    rw [h1, h2]; rfl
  · show (PyData.canLayAll0 ds && decide (PyData.depthAll ds + 1 ≤ 64)) = true
    rw [h1, h2]; rfl
theorem eqv_nil (ns : List Int) : PyData.eqv (.list (ns.map PyData.int)) (.list []) = ns.isEmpty := by
  cases ns with
  | nil => rfl
  | cons n ns => rfl
theorem eqv_bls : ∀ as bs : List Bool, PyData.eqvAll (as.map PyData.bool) (bs.map PyData.bool) = decide (as = bs)
  | [], [] => rfl
  | [], _ :: _ => rfl
  | _ :: _, [] => rfl
  | a :: as, b :: bs => by
    show (PyData.eqv (.bool a) (.bool b) && PyData.eqvAll (as.map PyData.bool) (bs.map PyData.bool)) = _
    rw [eqv_bls as bs]
    show ((a == b) && decide (as = bs)) = decide (a :: as = b :: bs)
    by_cases h1 : a = b <;> by_cases h2 : as = bs <;> simp [h1, h2]
end Ef
set_option Elab.async false
set_option linter.all false
set_option maxRecDepth 100000
set_option maxHeartbeats 4000000
namespace Ef
open PySem PySem.Spec PyProof.Rows L2
structure TxtP (mg : Str → Option Value) : Prop where
  int : mg "int" = none
  len : mg "len" = none
  list : mg "list" = none
/-- what a draw promises -/
def spDraw : Sp := fun vs H Q _ => ∃ (p l : Addr) (ns : List Int) (a b m : Int), vs = [.ref p, .int m] ∧ Pen H p l ns a b ∧ a ≤ 1073741824 ∧ 1 ≤ m ∧ m < 1073741824 ∧
  ∀ (d a' b' : Int) (H' : Hp), 0 ≤ d → d < m → a' ≤ a + 1 → Pen H' p l ns a' b' → Kp p H H' → Q (.int d) H'
theorem scDraw : FnScope ["pen", "many", "digit", "at", "cell", "mixed"] ["pen", "many"] (defScope sDraw) := ⟨rfl, rfl, rfl, by decide +kernel, rfl, by decide +kernel, by decide +kernel⟩
section
variable {P : Program} {w : World} {K : PySem.W.Frag} {mg : Str → Option Value} {base : Heap}
theorem Pen.ne {H : Hp} {p l : Addr} {ns : List Int} {a b : Int} (h : Pen H p l ns a b) : l ≠ p := ne_of h.hl h.hd (by intro q; cases q)
theorem Pen.put {H : Hp} {p l : Addr} {ns : List Int} {a b : Int} (h : Pen H p l ns a b) {a' b' : Int} (ha : 0 ≤ a') (hb : 0 ≤ b') : Pen (upd H p (.dK (penD l a' b'))) p l ns a' b' :=
  ⟨upd_same, by rw [upd_ne h.ne]; exact h.hl, h.len, ha, hb⟩
theorem Pen.kp {H H' : Hp} {p l : Addr} {ns : List Int} {a b : Int} (h : Pen H p l ns a b) (k : Kp p H H') (hp : H' p = H p) : Pen H' p l ns a b := ⟨hp.trans h.hd, k _ _ h.ne h.hl, h.len, h.a0, h.b0⟩
theorem emB (x k : Int) (h : 0 < k) (h2 : k < 2 ^ 64) : -(2 ^ 64) < x % k ∧ x % k < 2 ^ 64 := by
  have h1 := Int.emod_nonneg x (show k ≠ 0 by omega)
  have h3 := Int.emod_lt_of_pos x h
  omega
theorem Pen.gl {H : Hp} {p l : Addr} {ns : List Int} {a b : Int} (h : Pen H p l ns a b) : DGet H p (.str "left") (some (.int b)) := by
  have z := DGet.k (k := Sum.inr "left") h.hd
  rw [pen_left] at z
  exact z
theorem Pen.ga {H : Hp} {p l : Addr} {ns : List Int} {a b : Int} (h : Pen H p l ns a b) : DGet H p (.str "at") (some (.int a)) := by
  have z := DGet.k (k := Sum.inr "at") h.hd
  rw [pen_at] at z
  exact z
theorem Pen.gc {H : Hp} {p l : Addr} {ns : List Int} {a b : Int} (h : Pen H p l ns a b) : DGet H p (.str "cells") (some (.ref l)) := by
  have z := DGet.k (k := Sum.inr "cells") h.hd
  rw [pen_cells] at z
  exact z
theorem Pen.pl {H : Hp} {p l : Addr} {ns : List Int} {a b c : Int} (h : Pen H p l ns a b) : DPut H p (.str "left") (.int c) (upd H p (.dK (penD l a c))) := by
  have z := DPut.k (k := Sum.inr "left") (v := .int c) h.hd (by show 3 < sizeLine; decide)
  rw [put_left] at z
  exact z
theorem Pen.pa {H : Hp} {p l : Addr} {ns : List Int} {a b c : Int} (h : Pen H p l ns a b) : DPut H p (.str "at") (.int c) (upd H p (.dK (penD l c b))) := by
  have z := DPut.k (k := Sum.inr "at") (v := .int c) h.hd (by show 3 < sizeLine; decide)
  rw [put_at] at z
  exact z
theorem ok_draw {f : Addr} {fd : FuncData} (F : Fun K "_law_draw" "_law_draw" sDraw f fd) (T : TxtP mg) : FnOk P w K mg base CX0 1 f fd ["pen", "many"] spDraw := by
  refine F.ok scDraw (fun vs H Q E h => ?_) (fun cdv A outer s H vs Q E hr h => ?_)
  · obtain ⟨p, l, ns, a, b, m, rfl, _⟩ := h
    rfl
  · obtain ⟨p, l, ns, a, b, m, rfl, hP, ha, hm1, hm2, q⟩ := h
    have hu := hu_of hr
    refine ⟨_, (pss_cons (ps_if (pt_cmpR op_ge (pe_dget hu (pv 0) pe_str (fun _ _ => rfl)) (pv 1) (nomark _)) (pss_cons (ps_set (i := 2) scDraw.nd rfl (.inl rfl) (pe_op op_mod (pe_callTy call_int1 (by rfl) T.int (by decide +kernel) (pa_cons (pe_dget hu (pv 0) pe_str (fun _ _ => rfl)) pa_nil)) (pv 1)))
      (pss_cons (ps_dput hu (pv 0) pe_str (pe_op op_fdiv (pe_dget hu (pv 0) pe_str (fun _ _ => rfl)) (pv 1)) rfl)
      (pss_one (ps_ret (pv 2))))) pss_nil)
      (pss_cons (ps_set (i := 3) scDraw.nd rfl (.inl rfl) (pe_dget hu (pv 0) pe_str (fun _ _ => rfl)))
      (pss_cons (ps_dput hu (pv 0) pe_str (pe_op op_add (pv 3) pe_int) rfl)
      (pss_cons (ps_set (i := 4) scDraw.nd rfl (.inl rfl) (pe_op op_add (pe_op op_mul pe_int (pv 3)) pe_int))
      (pss_cons (ps_if (pt_cmpR (op_neD hr.units) (pe_dget hu (pv 0) pe_str (fun _ _ => rfl)) (pe_lst pa_nil) (nomark _)) (pss_one (ps_set (i := 4) scDraw.nd rfl (.inl rfl) (pe_ix ix_list (pe_dget hu (pv 0) pe_str (fun _ _ => rfl)) (pe_op op_mod (pe_callTy call_int1 (by rfl) T.int (by decide +kernel) (pa_cons (pv 3) pa_nil)) (pe_callB call_len_seq (by rfl) T.len PySem.boot_len (pa_cons (pe_dget hu (pv 0) pe_str (fun _ _ => rfl)) pa_nil))) (fun _ _ => rfl)))) pss_nil)
      (pss_cons (ps_if (pw_and (pt_cmpR op_lt (pv 3) (pe_callB call_len_seq (by rfl) T.len PySem.boot_len (pa_cons (pe_dget hu (pv 0) pe_str (fun _ _ => rfl)) pa_nil)) (nomark _)) (pw_and1 (pt_cmpR op_ge (pv 4) (pe_op op_pow pe_int pe_int) (nomark _)))).pt (pss_cons (ps_dput hu (pv 0) pe_str (pe_op op_fdiv (pe_op op_sub (pv 4) (pe_op op_pow pe_int pe_int)) (pv 1)) rfl)
      (pss_one (ps_ret (pe_op op_mod (pe_callTy call_int1 (by rfl) T.int (by decide +kernel) (pa_cons (pe_op op_sub (pv 4) (pe_op op_pow pe_int pe_int)) pa_nil)) (pv 1))))) pss_nil)
      (pss_cons (ps_set (i := 5) scDraw.nd rfl (.inl rfl) (pe_op op_add (pe_op op_add (pe_op op_add (pe_op op_mul (pe_op op_mod (pe_callTy call_int1 (by rfl) T.int (by decide +kernel) (pa_cons (pv 4) pa_nil)) pe_int) pe_int) (pe_op op_mul (pe_op op_mul pe_int (pv 3)) (pv 3))) (pe_op op_mul pe_int (pv 3))) pe_int))
      (pss_cons (ps_set (i := 5) scDraw.nd rfl (.inl rfl) (pe_op op_mod (pe_callTy call_int1 (by rfl) T.int (by decide +kernel) (pa_cons (pv 5) pa_nil)) pe_int))
      (pss_cons (ps_set (i := 5) scDraw.nd rfl (.inl rfl) (pe_op op_mod (pe_callTy call_int1 (by rfl) T.int (by decide +kernel) (pa_cons (pe_op op_mul (pv 5) (pe_op op_add (pv 5) pe_int)) pa_nil)) pe_int))
      (pss_one (ps_ret (pe_op op_mod (pe_callTy call_int1 (by rfl) T.int (by decide +kernel) (pa_cons (pe_op op_fdiv (pe_op op_mod (pe_callTy call_int1 (by rfl) T.int (by decide +kernel) (pa_cons (pe_op op_mul (pv 5) (pv 5)) pa_nil)) pe_int) pe_int) pa_nil)) (pv 1))))))))))))), ?_⟩
    -- if pen['left'] >= many
    refine ⟨_, rfl, p, _, rfl, hP.gl, _, rfl, _, _, rfl, rfl, _, rfl, ?_⟩
    refine ite2 (fun hb => ?_) (fun hb => ?_)
    · -- digit; pen['left']; return
      refine ⟨_, rfl, p, _, rfl, hP.gl, .inl ⟨_, rfl, ?_⟩⟩
      refine ⟨_, rfl, _, _, rfl, rfl, by omega, ?_⟩
      refine ⟨_, rfl, p, _, rfl, hP.gl, _, rfl, _, _, rfl, rfl, ⟨by omega, hm2⟩, _, rfl, p, _, rfl, hP.pl, ?_⟩
      refine ⟨_, rfl, ?_⟩
      exact q _ _ _ _ (Int.emod_nonneg _ (by omega)) (Int.emod_lt_of_pos _ (by omega)) (by omega) (hP.put hP.a0 (Int.ediv_nonneg hP.b0 (by omega))) (Kp.put _)
    · -- at = pen['at']; pen['at'] = at + 1
      refine ⟨_, rfl, p, _, rfl, hP.ga, ?_⟩
      refine ⟨_, rfl, _, _, rfl, rfl, _, rfl, p, _, rfl, hP.pa, ?_⟩
      have hP1 := hP.put (a' := a + 1) (b' := b) (by have := hP.a0; omega) hP.b0
      have a0 := hP.a0
      have b0 := hP.b0
      have k1 : Kp p H (upd H p (.dK (penD l (a + 1) b))) := Kp.put _
      have aE : ∀ {x : Int}, x = a → -(2 ^ 64) < x ∧ x < 2 ^ 64 := fun e => by subst e; constructor <;> omega
      -- cell = 37 * at + 11
      refine ⟨_, rfl, _, _, rfl, rfl, .inl ⟨by decide, by decide⟩, _, _, rfl, rfl, ?_⟩
      -- if pen['cells'] != []
      refine ⟨_, rfl, p, _, rfl, hP1.gc, Nat.zero_le _, fun t ht => ?_⟩
      have hP2 : Pen (upd (upd H p (.dK (penD l (a + 1) b))) t (.lst [])) p l ns (a + 1) b := hP1.kp (Kp.new _ ht) (upd_ne (ne_of_none hP1.hd ht))
      have k2 := k1.trans (Kp.new (.lst []) ht)
      have hT : SqL K (upd (upd H p (.dK (penD l (a + 1) b))) t (.lst [])) t [] := .inl (.inl upd_same)
      refine ⟨_, _, .lst (.inl (.inl hP2.hl)) (dp_ints ns), .lst hT .nil, (sh_list (can_ints ns).1 (can_ints ns).2).1, (sh_list rfl rfl).1, _, rfl, ?_⟩
      generalize upd (upd H p (.dK (penD l (a + 1) b))) t (.lst []) = H2 at hP2 k2 hT ⊢
      rw [eqv_nil]
      have hm0 : (0 : Int) < m := by omega
      refine ite2 ?g1 ?g2
      case' g1 =>
        intro he
        have hn : 0 < ns.length := by
          cases ns with
          | nil => exact absurd he (by decide)
          | cons n ns => exact Nat.succ_pos _
        have hlt : (a % (ns.length : Int)).toNat < ns.length := by
          have h1 := Int.emod_nonneg a (show (ns.length : Int) ≠ 0 by omega)
          have h2 := Int.emod_lt_of_pos a (show (0 : Int) < (ns.length : Int) by omega)
          omega
        refine ⟨_, rfl, p, _, rfl, hP2.gc, _, rfl, .inl ⟨_, rfl, _, rfl, p, _, rfl, hP2.gc, _, _, rfl, .inl (.inl (.inl hP2.hl)), _, _, rfl, rfl, by rw [List.length_map]; omega, l, _, _, .int ns[(a % (ns.length : Int)).toNat], rfl, rfl, .inl (.inl hP2.hl), ?_, ?_⟩⟩
        · rw [List.length_map]
          exact at_of (Int.toNat_of_nonneg (Int.emod_nonneg a (show (ns.length : Int) ≠ 0 by omega))).symm (by rw [List.getElem?_map, List.getElem?_eq_getElem hlt]; rfl)
        generalize ns[(a % (ns.length : Int)).toNat] = c
      case' g2 =>
        intro he
        generalize 37 * a + 11 = c
      all_goals
        refine ⟨_, rfl, _, rfl, p, _, rfl, hP2.gc, _, _, rfl, .inl (.inl (.inl hP2.hl)), _, _, rfl, rfl, _, rfl, ?_⟩
        refine ite2 ?_ ?_
      all_goals intro h1
      all_goals try
        (refine ⟨_, rfl, _, _, rfl, rfl, ⟨by decide, by decide, by decide⟩, _, _, rfl, rfl, _, rfl, ?_⟩
         refine ite2 ?_ ?_ <;> intro h2)
      all_goals try
        (refine ⟨_, rfl, _, _, rfl, rfl, ⟨by decide, by decide, by decide⟩, _, _, rfl, rfl, _, rfl, _, _, rfl, rfl, ⟨hm0, hm2⟩, _, rfl, p, _, rfl, hP2.pl, ?_⟩
         refine ⟨_, rfl, _, _, rfl, rfl, ⟨by decide, by decide, by decide⟩, _, _, rfl, rfl, .inl ⟨_, rfl, _, rfl, _, _, rfl, rfl, hm0, ?_⟩⟩
         exact q _ _ _ _ (Int.emod_nonneg _ (Int.ne_of_gt hm0)) (Int.emod_lt_of_pos _ hm0) (Int.le_refl _) (hP2.put hP2.a0 (Int.ediv_nonneg (Int.sub_nonneg_of_le (of_decide_eq_true h2)) (Int.le_of_lt hm0))) (k2.trans (Kp.put _)))
      all_goals try refine iteF ?_
      all_goals
        refine ⟨_, rfl, .inl ⟨_, rfl, _, _, rfl, rfl, (by show (0 : Int) < _; decide), _, _, rfl, rfl, .inr ⟨by decide, by decide⟩, _, rfl, _, _, rfl, rfl, .inl ⟨by decide, by decide⟩, _, rfl, _, _, rfl, rfl, .inr (aE rfl), _, _, rfl, rfl, _, rfl, _, _, rfl, rfl, .inl ⟨by decide, by decide⟩, _, _, rfl, rfl, _, _, rfl, rfl, ?_⟩⟩
        refine ⟨_, rfl, .inl ⟨_, rfl, _, _, rfl, rfl, (by show (0 : Int) < _; decide), ?_⟩⟩
        refine ⟨_, rfl, _, rfl, _, _, rfl, rfl, _, _, rfl, rfl, .inl (emB _ _ (by decide) (by decide)), .inl ⟨_, rfl, _, _, rfl, rfl, (by show (0 : Int) < _; decide), ?_⟩⟩
        refine ⟨_, rfl, _, rfl, _, _, rfl, rfl, .inl (emB _ _ (by decide) (by decide)), .inl ⟨_, rfl, _, _, rfl, rfl, (by show (0 : Int) < _; decide), _, _, rfl, rfl, ⟨by decide, by decide⟩, .inl ⟨_, rfl, _, rfl, _, _, rfl, rfl, hm0, ?_⟩⟩⟩
        exact q _ _ _ _ (Int.emod_nonneg _ (Int.ne_of_gt hm0)) (Int.emod_lt_of_pos _ hm0) (Int.le_refl _) hP2 k2
end
end Ef
set_option Elab.async false
set_option linter.all false
set_option maxRecDepth 100000
set_option maxHeartbeats 4000000
namespace Ef
open PySem PySem.Spec PyProof.Rows L2
/-- a def of the text, by its name -/
structure Df (P : Program) (w : World) (K : PySem.W.Frag) (mg : Str → Option Value) (base : Heap) (k : Nat) (x : Str) (ps : List Str) (sp : Sp) : Prop where
  ex : ∃ f fd, mg x = some (.ref f) ∧ PySem.W.keepIn K (.ref f) = true ∧ Binds K fd ps [] ∧ FnOk P w K mg base CX0 k f fd ps sp
theorem Df.call {X : Cx} {k : Nat} {x : Str} {ps : List Str} {sp : Sp} {e : Expr} {es : List Expr} {t : TA} {p pos : Pos} (D : Df X.prog X.w X.K X.mg X.base k x ps sp) (hr : Room k X.A) (ha : PA X (e :: es) t) (hg : Gl X x := by rfl)
    (hdb : (x == ("__debug__" : Str)) = false := by decide) (he : starEach (e :: es) X.env = (false, eval e X.env) :: starEach es X.env := by rfl) (hpl : (backTo pos (starEach es X.env)).any (·.1) = false := by rfl) :
    PE X (.Call (.Name x p) (e :: es) [] pos) (tCall sp [] E0 t) := by
  obtain ⟨f, fd, hm, hk, hb, F⟩ := D.ex
  exact pe_call F hr hg hm hk hb .nil pass0 ha hdb he hpl
/-- where the text's def stands behind the top -/
structure At (K : PySem.W.Frag) (mg : Str → Option Value) (x : Str) (st : Stmt) : Prop where
  ex : ∃ f fd, mg x = some (.ref f) ∧ Fun K x x st f fd
section
variable {P : Program} {w : World} {K : PySem.W.Frag} {mg : Str → Option Value} {base : Heap}
theorem Kp.of_same {p : Addr} {H H' : Hp} (h : Same H H') : Kp p H H' := fun x o _ e => h x o e
theorem Kp.rd {p : Addr} {H H' : Hp} {q : Addr} {u : HO} (k : Kp p H H') (n : q ≠ p) (h : Rd H q u) : Rd H' q u := by
  rcases h with h | ⟨o, h⟩
  · exact .inl (k _ _ n h)
  · exact .inr ⟨o, k _ _ n h⟩
theorem Kp.sql {p : Addr} {H H' : Hp} {q : Addr} {xs : List V} (k : Kp p H H') (n : q ≠ p) (h : SqL K H q xs) : SqL K H' q xs := by
  rcases h with h | h
  · exact .inl (k.rd n h)
  · exact .inr h
theorem Kp.sqt {p : Addr} {H H' : Hp} {q : Addr} {xs : List V} (k : Kp p H H') (n : q ≠ p) (h : SqT K H q xs) : SqT K H' q xs := by
  rcases h with h | h
  · exact .inl (k.rd n h)
  · exact .inr h
theorem Kp.free {p : Addr} {H H' : Hp} (k : Kp p H H') {q : Addr} (n : q ≠ p) (h : H' q = none) : H q = none := by
  cases e : H q with
  | none => rfl
  | some o => rw [k q o n e] at h; cases h
theorem Kp.mut {p q : Addr} {H H' : Hp} {o : HO} (k : Kp p H H') (h : H q = none) : Kp p H (upd H' q o) := fun x u n e => by
  rw [upd_ne (ne_of_none e h)]
  exact k x u n e
theorem small1000' {n : Nat} (h : n ≤ 100000) : n < sizeLine := Nat.lt_of_le_of_lt h (by decide)
theorem df_draw (A : At K mg "_law_draw" sDraw) (T : TxtP mg) : Df P w K mg base 1 "_law_draw" ["pen", "many"] spDraw := by
  obtain ⟨f, fd, hm, F⟩ := A.ex
  exact ⟨f, fd, hm, F.kp, F.binds (fun _ _ _ _ _ _ us hl => match us, hl with | [_, _], _ => rfl), ok_draw F T⟩
/-! ### _law_pen -/
def spPen (K : PySem.W.Frag) : Sp := fun vs H Q _ => ∃ (a : Addr) (ns : List Int), vs = [.ref a] ∧ SqL K H a (ns.map V.int) ∧ ns.length ≤ 63 ∧ ∀ (p l : Addr) (H' : Hp), H p = none → Same H H' → Pen H' p l ns 0 0 → Q (.ref p) H'
theorem scPen : FnScope ["script"] ["script"] (defScope sPen) := ⟨rfl, rfl, rfl, by decide +kernel, rfl, by decide +kernel, by decide +kernel⟩
theorem cut63 (xs : List V) (h : xs.length ≤ 63) : cutV xs none (some 63) = xs := by
  unfold cutV
  rw [HT.sIx_none, show HT.sIx xs.length xs.length (some 63) = min 63 xs.length from HT.sIx_nat xs.length xs.length 63, Nat.min_eq_right h]
  simp
theorem df_pen (A : At K mg "_law_pen" sPen) (T : TxtP mg) : Df P w K mg base 1 "_law_pen" ["script"] (spPen K) := by
  obtain ⟨f, fd, hm, F⟩ := A.ex
  refine ⟨f, fd, hm, F.kp, F.binds (fun _ _ _ _ _ _ us hl => match us, hl with | [_], _ => rfl), F.ok scPen (fun vs H Q E h => ?_) (fun cdv A outer s H vs Q E hr h => ?_)⟩
  · obtain ⟨a, ns, rfl, _⟩ := h
    rfl
  · obtain ⟨a, ns, rfl, hS, hlen, q⟩ := h
    refine ⟨_, (pss_one (ps_ret (pe_disp (pps_cons pe_str (pe_callTy call_list_of (by rfl) T.list (by decide +kernel) (pa_cons (pe_slice sl_list (pv 0) po_none (po_some pe_int)) pa_nil)) (pps_cons pe_str pe_int (pps_cons pe_str pe_int pps_nil))) (by rfl) (by rfl) (fun z => by cases z) (by decide)))), ?_⟩
    intro p hp
    have s1 : Same H (upd H p (.dK [])) := fun b o e => by rw [upd_ne (ne_of_none e hp)]; exact e
    refine ⟨_, rfl, 63, rfl, a, _, rfl, s1.seq hS, fun c hc => ?_⟩
    rw [cut63 _ (by rw [List.length_map]; exact hlen)]
    have s2 : Same H (upd (upd H p (.dK [])) c (.lst (ns.map V.int))) := s1.trans fun b o e => by rw [upd_ne (ne_of_none e hc)]; exact e
    refine ⟨c, _, rfl, .inl (.inl (.inl upd_same)), fun l hl => ?_⟩
    have s3 : Same H (upd (upd (upd H p (.dK [])) c (.lst (ns.map V.int))) l (.lst (ns.map V.int))) := s2.trans fun b o e => by rw [upd_ne (ne_of_none e hl)]; exact e
    have hpc : p ≠ c := fun z => by rw [← z, upd_same] at hc; cases hc
    have hpl : p ≠ l := fun z => by rw [← z, upd_ne hpc, upd_same] at hl; cases hl
    refine ⟨by rw [upd_ne hpl, upd_ne hpc, upd_same], penD l 0 0, rfl, by show 3 ≤ 15; decide, ?_⟩
    refine q p l _ hp (fun b o e => ?_) ⟨upd_same, by rw [upd_ne hpl.symm, upd_same], hlen, Int.le_refl 0, Int.le_refl 0⟩
    rw [upd_ne (ne_of_none e hp)]
    exact s3 _ _ e
/-! ### _law_pick -/
def spPick (K : PySem.W.Frag) : Sp := fun vs H Q _ => ∃ (p l q : Addr) (ns : List Int) (a b : Int) (xs : List V), vs = [.ref p, .ref q] ∧ Pen H p l ns a b ∧ a ≤ 1073741824 ∧ SqL K H q xs ∧ q ≠ p ∧ 1 ≤ xs.length ∧ xs.length ≤ 100000 ∧
  ∀ (j : Nat) (v : V) (a' b' : Int) (H' : Hp), xs[j]? = some v → a' ≤ a + 1 → Pen H' p l ns a' b' → Kp p H H' → Q v H'
theorem scPick : FnScope ["pen", "some"] ["pen", "some"] (defScope sPick) := ⟨rfl, rfl, rfl, by decide +kernel, rfl, by decide +kernel, by decide +kernel⟩
theorem df_pick (A : At K mg "_law_pick" sPick) (T : TxtP mg) (Ddraw : Df P w K mg base 1 "_law_draw" ["pen", "many"] spDraw) : Df P w K mg base 2 "_law_pick" ["pen", "some"] (spPick K) := by
  obtain ⟨f, fd, hm, F⟩ := A.ex
  refine ⟨f, fd, hm, F.kp, F.binds (fun _ _ _ _ _ _ us hl => match us, hl with | [_, _], _ => rfl), F.ok scPick (fun vs H Q E h => ?_) (fun cdv A outer s H vs Q E hr h => ?_)⟩
  · obtain ⟨p, l, q, ns, a, b, xs, rfl, _⟩ := h
    rfl
  · obtain ⟨p, l, q, ns, a, b, xs, rfl, hP, ha, hS, hqp, h1, h2, k⟩ := h
    refine ⟨_, (pss_one (ps_ret (pe_ix ix_list (pv 1) (Ddraw.call (hr.mono (by decide)) (pa_cons (pv 0) (pa_cons (pe_callB call_len_seq (by rfl) T.len PySem.boot_len (pa_cons (pv 1) pa_nil)) pa_nil))) (fun _ _ => rfl)))), ?_⟩
    refine ⟨_, rfl, _, rfl, _, rfl, _, _, rfl, .inl hS, p, l, ns, a, b, _, rfl, hP, ha, by omega, by omega, fun d a' b' H' d0 d1 ha' hP' hK => ?_⟩
    have hd : d.toNat < xs.length := by omega
    exact ⟨q, _, _, _, rfl, rfl, hK.sql hqp hS, at_of (Int.toNat_of_nonneg d0).symm (List.getElem?_eq_getElem hd), k _ _ _ _ _ (List.getElem?_eq_getElem hd) ha' hP' hK⟩
end
end Ef
set_option Elab.async false
set_option linter.all false
set_option maxRecDepth 100000
set_option maxHeartbeats 4000000
namespace Ef
open PySem PySem.Spec PyProof.Rows L2
/-- a drawn set: the tuple of its two lists of truths -/
def Md (H : Hp) (r : Addr) (bs rs : List Bool) : Prop := ∃ rb rr, H r = some (.tup [.ref rb, .ref rr]) ∧ H rb = some (.lst (bs.map V.bl)) ∧ H rr = some (.lst (rs.map V.bl))
theorem Md.kp {H H' : Hp} {p r : Addr} {bs rs : List Bool} {d : List (Key × V)} (h : Md H r bs rs) (k : Kp p H H') (hp : H p = some (.dK d)) : Md H' r bs rs := by
  obtain ⟨rb, rr, h1, h2, h3⟩ := h
  exact ⟨rb, rr, k _ _ (ne_of h1 hp (by intro q; cases q)) h1, k _ _ (ne_of h2 hp (by intro q; cases q)) h2, k _ _ (ne_of h3 hp (by intro q; cases q)) h3⟩
theorem Md.same {H H' : Hp} {r : Addr} {bs rs : List Bool} (h : Md H r bs rs) (k : Same H H') : Md H' r bs rs := by
  obtain ⟨rb, rr, h1, h2, h3⟩ := h
  exact ⟨rb, rr, k _ _ h1, k _ _ h2, k _ _ h3⟩
/-- is n in the set -/
def mtruth (bs rs : List Bool) (n : Int) : Bool := if n < bs.length then bs.getD n.toNat false else rs.getD (n % rs.length).toNat false
theorem inV_bls (b : Bool) : ∀ bs : List Bool, inV (.bl b) (bs.map V.bl) = bs.contains b
  | [] => rfl
  | c :: bs => by
    show (eqV (.bl c) (.bl b) || inV (.bl b) (bs.map V.bl)) = _
    rw [inV_bls b bs, List.contains_cons]
    congr 1
    cases b <;> cases c <;> rfl
theorem flat_bls : ∀ bs : List Bool, (bs.map V.bl).all flatV = true
  | [] => rfl
  | c :: bs => by
    show (flatV (.bl c) && (bs.map V.bl).all flatV) = true
    rw [flat_bls bs]; rfl
theorem get_bls {bs : List Bool} {j : Nat} (h : j < bs.length) : (bs.map V.bl)[j]? = some (.bl (bs.getD j false)) := by
  rw [List.getElem?_map, List.getElem?_eq_getElem h, List.getD_eq_getElem?_getD, List.getElem?_eq_getElem h]
  rfl
section
variable {P : Program} {w : World} {K : PySem.W.Frag} {mg : Str → Option Value} {base : Heap}
end
end Ef
set_option Elab.async false
set_option linter.all false
set_option maxRecDepth 100000
set_option maxHeartbeats 2000000
/-! for i, x in enumerate(t), t a tuple -/
namespace Ef
open PySem PySem.Spec PyProof.Rows L2
def IteT (K : PySem.W.Frag) (a : Addr) : It :=
  ⟨fun i H => ∃ (xs : List V) (x : V), SqT K H a xs ∧ xs[i]? = some x, fun i H v H' => ∃ T x, v = .ref T ∧ H T = none ∧ H' = upd H T (.tup [.int (i : Nat), x]) ∧ ∀ xs, SqT K H a xs → xs[i]? = some x, fun i H => ∃ xs : List V, SqT K H a xs ∧ xs.length ≤ i⟩
/-- at vals end -/
theorem draws_end {prog : Program} {w : World} {A : Around} (hh : A.handled = none) (it t : Addr) (items : Array Value) (n : Nat) (hn : items.size ≤ n) :
    Draws prog w A it [it, t] n (fun _ _ => True) (fun i h => i = n ∧ h.IsTupleIter it t n ∧ h.IsTuple t items) where
  live := fun _ _ sta => let ⟨o, ho, _⟩ := sta.2.1; ⟨o, ho⟩
  frame := fun _ _ _ sta hk => ⟨sta.1, sta.2.1.at fun o e => hk it (by simp) o e, sta.2.2.at fun o e => hk t (by simp) o e⟩
  item := fun i s Q E hi sta hQ => absurd sta.1 (Nat.ne_of_lt hi)
  done := fun s Q E sta hE => wpAny_nextOf_tuple_end hh sta.2.1 sta.2.2 (by simp; omega) hE
theorem turn_enumT {P : Program} {w : World} {K : PySem.W.Frag} {elts : List Expr} {kk : Nat} {tpos : Pos} (a e it : Addr) :
    Turn P w K (.Tuple elts kk tpos) (IteT K a) [e, it] e (fun i h => (∃ was, IsEnum h e it (0 + ((i : Nat) : Int)) was) ∧ h.IsTupleIter it a i ∧ e ≠ it ∧ a ≠ it ∧ a ≠ e) where
  mem := by simp
  obj := fun i h sta b hb => by
    obtain ⟨⟨was, hEn⟩, ⟨o, ho, hc, hd⟩, _⟩ := sta
    have eOr : b = e ∨ b = it := by simpa using hb
    rcases eOr with z | z
    · rw [z]; exact ⟨_, hEn, fun v q => nomatch q⟩
    · rw [z]; exact ⟨o, ho, fun v q => by rw [hd] at q; cases q⟩
  keep := fun i h h' sta k => let ⟨⟨was, hEn⟩, hi, eNi⟩ := sta; ⟨⟨was, k e (by simp) _ hEn⟩, hi.at fun o q => k it (by simp) o q, eNi⟩
  item := by
    intro X hP hw hK hc i pins s σ H E I hFp sta hGo
    subst hP hw hK
    obtain ⟨⟨was, hEn⟩, hIt, eNi, aNi, aNe⟩ := sta
    obtain ⟨xs, x, hSq, hx⟩ := hGo
    obtain ⟨vals, rVs, p, zLen⟩ := I.tuple hSq
    obtain ⟨u, hu, ru⟩ := rVs.get hx
    have eIn : e < s.heap.objs.size := Heap.lt_size hEn
    have iIn : it < s.heap.objs.size := by obtain ⟨_, q, _⟩ := hIt; exact Heap.lt_size q
    have hlt : i < vals.toArray.size := by
      rcases Nat.lt_or_ge i vals.length with q | q
      · simpa using q
      · rw [List.getElem?_eq_none q] at hu; cases hu
    refine wpAny_pyNext_enum_itemC (Draws.tuple (A := X.A.in1) (I.ok.hd hc) it a aNi vals.toArray) hEn ⟨hIt, p⟩ hlt eNi (by simp [eNi, Ne.symm aNe]) fun y h' tk hy ho hit' hT zNew hk => ?_
    refine ⟨_, rfl, wpAny_letOwnedTupleGo_enum (s := { s with heap := h', toks := tk + 1 }) ho fun h'' he' sBut => ?_⟩
    have hT2 : h''.get? s.heap.objs.size = some { cls := .type "tuple", data := .seq #[.int (0 + ((i : Nat) : Int)) tk, y] } := (sBut.2 _ (Nat.ne_of_gt eIn)).trans hT
    have ey : y = u := by
      have z : vals[i]? = some y := by simpa using hy
      exact Option.some.inj (z.symm.trans hu)
    have e0 : (0 + ((i : Nat) : Int)) = (i : Int) := Int.zero_add _
    rw [e0] at hT2
    have fresh1 : ObjOk X.prog X.w (upd H s.heap.objs.size (.tup [.int (i : Nat), x])) h'' s.heap.objs.size (.tup [.int (i : Nat), x]) :=
      ⟨by show 2 ≤ sizeLine; decide, [.int i tk, y], .cons ⟨_, rfl⟩ (.cons (ey ▸ ru) .nil), ⟨_, hT2, rfl, _, rfl⟩⟩
    have J1 : Inv X pins σ (upd H s.heap.objs.size (.tup [.int (i : Nat), x])) { s with heap := h'', toks := tk + 1 } :=
      I.turnedNew (ch := [e, it]) (fun b ob hb q => (sBut.2 b (fun z => hb (by simp [z]))).trans (hk b ob (fun z => hb (by simp [z])) (fun z => hb (by simp [z])) q)) hFp (Nat.le_refl _) fresh1
    refine ⟨.ref s.heap.objs.size, _, J1, rfl, ⟨_, x, rfl, I.hok.fresh (Nat.le_refl _), rfl, fun ys hy => by rw [I.tuple_inj hy hSq]; exact hx⟩, ⟨⟨y, ?_⟩, hit'.1.at fun o q => (sBut.2 it (Ne.symm eNi)).trans q, eNi, aNi, aNe⟩, fun b hb => ?_⟩
    · have e1 : (0 + ((i + 1 : Nat) : Int)) = 0 + (i : Int) + 1 := by omega
      rw [e1]; exact he'
    · have bIn : b < s.heap.objs.size := by
        have eOr : b = e ∨ b = it := by simpa using hb
        rcases eOr with z | z
        · rw [z]; exact eIn
        · rw [z]; exact iIn
      rw [upd_ne (Nat.ne_of_lt bIn)]
      exact (hFp b hb).1
  done := by
    intro X hP hw hK hc i pins s σ H E I hFp sta hGo
    subst hP hw hK
    obtain ⟨⟨was, hEn⟩, hIt, eNi, aNi, aNe⟩ := sta
    obtain ⟨xs, hSq, hx⟩ := hGo
    obtain ⟨vals, rVs, p, zLen⟩ := I.tuple hSq
    obtain ⟨g0, g1, g2, g3, g4, g5⟩ := hFp it (by simp)
    have hl := rVs.length
    exact wpAny_pyNext_enum_endD (draws_end (A := X.A.in1) (I.ok.hd hc) it a vals.toArray i (by simp; omega)) hEn ⟨rfl, hIt, p⟩ fun h' eb => ⟨rfl, I.turned (t' := s.toks) (fun b o hb q => eb b o hb q) g0 g1 g3 g4 g5⟩
  self := fun A i s Q E sta h => let ⟨⟨_, hEn⟩, _⟩ := sta; wpAny_pyIter_enum hEn h
def iEnumT (K : PySem.W.Frag) (ta : TA) : TI := fun σ H R => ta σ H fun vs H1 => ∃ a xs, vs = [.ref a] ∧ SqT K H1 a xs ∧ R (IteT K a) H1
/-- a list or a tuple -/
def iEnumS (K : PySem.W.Frag) (ta : TA) : TI := fun σ H R => ta σ H fun vs H1 => ∃ a xs, vs = [.ref a] ∧ ((SqL K H1 a xs ∧ R (Ite K a) H1) ∨ (SqT K H1 a xs ∧ R (IteT K a) H1))
/-- enumerate(t): vals two fresh1 cells -/
theorem call_enumerate_tuple {prog : Program} {w : World} {A : Around} {E : Value → Shared → Prop} {s : Shared} {l : Addr} {items : Array Value} {Q : Value → Shared → Prop} (hL : s.heap.IsTuple l items)
    (h : ∀ h', IsEnum h' (s.heap.objs.size + 1) s.heap.objs.size (0 + ((0 : Nat) : Int)) .none → h'.IsTupleIter s.heap.objs.size l 0 → h'.objs.size = s.heap.objs.size + 2 →
      (∀ b o, s.heap.get? b = some o → h'.get? b = some o) → Q (.ref (s.heap.objs.size + 1)) { s with heap := h' }) :
    wpAny (model prog w) A (call (.type "enumerate") [.ref l]) Q E s := by
  have B := begins_tuple l items
  have M : Meets (Builtin.«enumerate.__new__» ⟨[.type "enumerate", .ref l], []⟩) (fun _ R s => s.heap.IsTuple l items ∧
      R (.ok (.ret (.ref (s.heap.push { cls := .type "tuple_iterator", data := .fields #[.ref l, .int 0 0] }).objs.size)))
        { s with heap := (s.heap.push { cls := .type "tuple_iterator", data := .fields #[.ref l, .int 0 0] }).push { cls := .type "enumerate", data := .fields #[.none, .bool false, .ref s.heap.objs.size, rawInt 0, .none, .none] } }) :=
    .of_wp fun prog w A R s h => by
      obtain ⟨heap0, g, d, tk, os⟩ := s
      obtain ⟨h1, h⟩ := h
      have subE := sub_enumerate
      have q1 : ∀ {A' : Around} {E : Value → Shared → Prop} {Q : Value → Shared → Prop}, Q (.ref heap0.objs.size) ⟨heap0.push { cls := .type "tuple_iterator", data := .fields #[.ref l, .int 0 0] }, g, d, tk, os⟩ → wpAny (model prog w) A' (pyIter (.ref l)) Q E ⟨heap0, g, d, tk, os⟩ :=
        fun q => B.iter prog w _ _ ⟨heap0, g, d, tk, os⟩ _ h1 q
      obtain ⟨oT, hoT, hcT, nT, hdT⟩ := id h1
      wp_walk using q1, AutoSeq1.wpAny_loadPart' hoT
      refine wpAny_stack_any fun sta => wpAny_pure ?_
      split
      · rename_i c _ _ _ _ _
        cases (c == Value.type "enumerate")
        · wp_walk using q1, AutoSeq1.wpAny_loadPart' hoT
          exact ⟨_, rfl, h⟩
        · wp_walk using q1, AutoSeq1.wpAny_loadPart' hoT
          exact ⟨_, rfl, h⟩
      · wp_walk using q1, AutoSeq1.wpAny_loadPart' hoT
        exact ⟨_, rfl, h⟩
  refine callType_new F.called_enumerate (by decide) (F.typeCall_enumerate_1 _) (F.newCall_enumerate_1 _) (fun obj => F.args_object_init_2 obj _) F.entry_enumerate_new M ⟨hL, ?_⟩
  have zLen : (s.heap.push { cls := .type "tuple_iterator", data := .fields #[.ref l, .int 0 0] }).objs.size = s.heap.objs.size + 1 := Heap.size_push ..
  show _ ∧ _
  rw [zLen]
  have hEn : IsEnum ((s.heap.push { cls := .type "tuple_iterator", data := .fields #[.ref l, .int 0 0] }).push
      { cls := .type "enumerate", data := .fields #[.none, .bool false, .ref s.heap.objs.size, rawInt 0, .none, .none] }) (s.heap.objs.size + 1) s.heap.objs.size 0 .none := by
    have := Heap.get?_push_size (s.heap.push { cls := .type "tuple_iterator", data := .fields #[.ref l, .int 0 0] })
      (o := { cls := .type "enumerate", data := .fields #[.none, .bool false, .ref s.heap.objs.size, rawInt 0, .none, .none] }) rfl
    rw [zLen] at this; exact this
  refine ⟨⟨_, hEn, rfl⟩, h _ hEn ⟨_, Heap.get?_push_of_some _ (Heap.get?_push_size _ rfl), rfl, rfl⟩ (by rw [Heap.size_push, zLen]) fun b o x => Heap.get?_push_of_some _ (Heap.get?_push_of_some _ x)⟩
theorem pi_enumS {X : Cx} {e : Expr} {ta : TA} {p pos tpos : Pos} {elts : List Expr} {kk : Nat} (hGo : Gl X "enumerate") (hm : X.mg "enumerate" = none) (ha : PA X [e] ta) (hs : starEach [e] X.env = [(false, eval e X.env)] := by rfl) :
    PI X (.Tuple elts kk tpos) (.Call (.Name "enumerate" p) [e] [] pos) (iEnumS X.K ta) := by
  refine ⟨fun pins s σ H R I h => ?_⟩
  refine Call_ (ld_blt I hGo hm boot_enumerate (PyProof.Rows.callWith_type1 (thn (ha.run pos pins s σ H _ I h) fun us s1 ⟨vs, H1, J1, r1, q1⟩ => ?_) hs rfl))
  obtain ⟨a, xs, ex, q⟩ := q1
  subst ex
  cases r1 with
  | cons r rr =>
    cases rr
    cases r
    have far : ∀ b, b ∈ [s1.heap.objs.size + 1, s1.heap.objs.size] → s1.heap.objs.size ≤ b := fun b hb => by
      have eOr : b = s1.heap.objs.size + 1 ∨ b = s1.heap.objs.size := by simpa using hb
      rcases eOr with z | z
      · rw [z]; exact Nat.le_add_right _ _
      · rw [z]; exact Nat.le_refl _
    rcases q with ⟨hSq, q⟩ | ⟨hSq, q⟩
    · obtain ⟨vals, rVs, pSeq, zLen⟩ := J1.list hSq
      refine call_enumerate_list pSeq.isList fun h' hEn hIt zNew hk => wpAny_pyIter_enum hEn ?_
      have J2 : Inv X pins σ H1 { s1 with heap := h' } := J1.kept (t' := s1.toks) hk
      exact ⟨s1.heap.objs.size + 1, [s1.heap.objs.size + 1, s1.heap.objs.size], _, _, H1, rfl, J2, turn_enum a (s1.heap.objs.size + 1) s1.heap.objs.size, ⟨⟨.none, hEn⟩, hIt, Nat.succ_ne_self _⟩, fun b hb => J1.fpOk (far b hb) (J1.hok.fresh (far b hb)), q⟩
    · obtain ⟨vals, rVs, pSeq, zLen⟩ := J1.tuple hSq
      have hal : a < s1.heap.objs.size := by obtain ⟨o, ho, _⟩ := (show s1.heap.IsTuple a vals.toArray from pSeq); exact Heap.lt_size ho
      refine call_enumerate_tuple (show s1.heap.IsTuple a vals.toArray from pSeq) fun h' hEn hIt zNew hk => wpAny_pyIter_enum hEn ?_
      have J2 : Inv X pins σ H1 { s1 with heap := h' } := J1.kept (t' := s1.toks) hk
      exact ⟨s1.heap.objs.size + 1, [s1.heap.objs.size + 1, s1.heap.objs.size], _, _, H1, rfl, J2, turn_enumT a (s1.heap.objs.size + 1) s1.heap.objs.size, ⟨⟨.none, hEn⟩, hIt, Nat.succ_ne_self _, Nat.ne_of_lt hal, Nat.ne_of_lt (Nat.lt_succ_of_lt hal)⟩, fun b hb => J1.fpOk (far b hb) (J1.hok.fresh (far b hb)), q⟩
end Ef
set_option Elab.async false
set_option linter.all false
set_option maxRecDepth 100000
set_option maxHeartbeats 4000000
namespace Ef
open PySem PySem.Spec PyProof.Rows L2
abbrev sIsInt : Stmt := top 15
abbrev sFrom : Stmt := top 16
abbrev sCheck : Stmt := top 21
abbrev sLper : Stmt := top 3
abbrev sRound : Stmt := top 4
abbrev sPrimes : Stmt := top 5
abbrev sLstart : Stmt := top 22
structure TxtW (mg : Str → Option Value) : Prop extends TxtP mg where
  isinstance : mg "isinstance" = none
  bool : mg "bool" = none
  enumerate : mg "enumerate" = none
  reversed : mg "reversed" = none
  range : mg "range" = none
  tuple : mg "tuple" = none
/-- no int: a value of another built-in kind, or a truth -/
def NotInt (K : PySem.W.Frag) (H : Hp) (v : V) : Prop := ∃ (n : String) (b1 b2 : Bool), TyX K H v (.type n) ∧ kitB n "int" = some b1 ∧ kitB n "bool" = some b2 ∧ (b1 && !b2) = false
section
variable {P : Program} {w : World} {K : PySem.W.Frag} {mg : Str → Option Value} {base : Heap}
def spIsInt (K : PySem.W.Frag) : Sp := fun vs H Q _ => ∃ (v : V) (n : String) (b1 b2 : Bool), vs = [v] ∧ TyX K H v (.type n) ∧ kitB n "int" = some b1 ∧ kitB n "bool" = some b2 ∧ Q (.bl (b1 && !b2)) H
theorem scIsInt : FnScope ["value"] ["value"] (defScope sIsInt) := ⟨rfl, rfl, rfl, by decide +kernel, rfl, by decide +kernel, by decide +kernel⟩
theorem df_isint (A : At K mg "is_int" sIsInt) (T : TxtW mg) : Df P w K mg base 1 "is_int" ["value"] (spIsInt K) := by
  obtain ⟨f, fd, hm, F⟩ := A.ex
  refine ⟨f, fd, hm, F.kp, F.binds (fun _ _ _ _ _ _ us hl => match us, hl with | [_], _ => rfl), F.ok scIsInt (fun vs H Q E h => ?_) (fun cdv A outer s H vs Q E hr h => ?_)⟩
  · obtain ⟨v, n, b1, b2, rfl, _⟩ := h
    rfl
  · obtain ⟨v, n, b1, b2, rfl, ht, h1, h2, q⟩ := h
    refine ⟨_, (pss_one (ps_ret (pe_and (pe_callB call_isi (by rfl) T.isinstance (by decide +kernel) (pa_cons (pv 0) (pa_cons (pe_bltn (v := .ty "int") (by rfl) T.int (by decide +kernel) rfl) pa_nil))) (pe_one (pe_not (pe_callB call_isi (by rfl) T.isinstance (by decide +kernel) (pa_cons (pv 0) (pa_cons (pe_bltn (v := .ty "bool") (by rfl) T.bool (by decide +kernel) rfl) pa_nil)))))))), ?_⟩
    refine ⟨v, rfl, _, _, _, _, _, rfl, .ty "int", ht, kit_ty h1, b1, rfl, ?_⟩
    cases b1 with
    | true =>
      refine iteT ⟨v, rfl, _, _, _, _, _, rfl, .ty "bool", ht, kit_ty h2, b2, rfl, ?_⟩
      exact q
    | false => exact iteF q
def spFrom (K : PySem.W.Frag) : Sp := fun vs H Q _ => ∃ (v : V) (low : Int), vs = [v, .int low] ∧ ((∃ i, v = .int i ∧ Q (.bl (decide (low ≤ i))) H) ∨ (NotInt K H v ∧ Q (.bl false) H))
theorem scFrom : FnScope ["value", "low"] ["value", "low"] (defScope sFrom) := ⟨rfl, rfl, rfl, by decide +kernel, rfl, by decide +kernel, by decide +kernel⟩
theorem df_from (A : At K mg "is_int_from" sFrom) (Disint : Df P w K mg base 1 "is_int" ["value"] (spIsInt K)) : Df P w K mg base 2 "is_int_from" ["value", "low"] (spFrom K) := by
  obtain ⟨f, fd, hm, F⟩ := A.ex
  refine ⟨f, fd, hm, F.kp, F.binds (fun _ _ _ _ _ _ us hl => match us, hl with | [_, _], _ => rfl), F.ok scFrom (fun vs H Q E h => ?_) (fun cdv A outer s H vs Q E hr h => ?_)⟩
  · obtain ⟨v, low, rfl, _⟩ := h
    rfl
  · obtain ⟨v, low, rfl, h⟩ := h
    refine ⟨_, (pss_one (ps_ret (pe_and (Disint.call (hr.mono (by decide)) (pa_cons (pv 0) pa_nil)) (pe_one (pe_cmpR op_ge (pv 0) (pv 1) (nomark _)))))), ?_⟩
    rcases h with ⟨i, rfl, q⟩ | ⟨⟨n, b1, b2, ht, h1, h2, hb⟩, q⟩
    · refine ⟨_, rfl, _, "int", true, false, rfl, .base (.int i), by decide +kernel, by decide +kernel, _, rfl, ?_⟩
      exact iteT ⟨_, rfl, _, rfl, _, _, rfl, rfl, q⟩
    · refine ⟨_, rfl, _, n, b1, b2, rfl, ht, h1, h2, _, rfl, ?_⟩
      rw [hb]
      exact iteF q
/-! ### _check_truths -/
/-- a list or a tuple of truths -/
def Bls (K : PySem.W.Frag) (H : Hp) (a : Addr) (bs : List Bool) : Prop := SqL K H a (bs.map V.bl) ∨ SqT K H a (bs.map V.bl)
theorem Same.tup {H H' : Hp} {a : Addr} {xs : List V} (e : Same H H') (h : SqT K H a xs) : SqT K H' a xs := by
  rcases h with (h | ⟨o, h⟩) | h
  · exact .inl (.inl (e _ _ h))
  · exact .inl (.inr ⟨o, e _ _ h⟩)
  · exact .inr h
theorem Bls.same {H H' : Hp} {a : Addr} {bs : List Bool} (h : Bls K H a bs) (e : Same H H') : Bls K H' a bs := h.elim (fun h => .inl (e.seq h)) fun h => .inr (Same.tup e h)
def spCheck (K : PySem.W.Frag) : Sp := fun vs H Q _ => ∃ (a : Addr) (bs : List Bool), vs = [.ref a] ∧ Bls K H a bs ∧ ∀ H', Same H H' → Q .non H'
theorem scCheck : FnScope ["truths", "wrong", "index", "truth"] ["truths"] (defScope sCheck) := ⟨rfl, rfl, rfl, by decide +kernel, rfl, by decide +kernel, by decide +kernel⟩
theorem walk_enumT {a : Addr} {xs : List V} : Walk (IteT K a) xs.length (fun H => SqT K H a xs) (YPair (fun i => some (.int (i : Nat))) (fun i => xs[i]?)) := by
  refine ⟨fun i _ hi q => ⟨xs, xs[i], q, by simp [hi]⟩, fun _ q => ⟨xs, q, Nat.le_refl _⟩, fun i H v H' _ q y => ?_⟩
  obtain ⟨T, x, h1, h2, h3, h4⟩ := y
  exact ⟨T, .int (i : Nat), x, h1, h2, h3, rfl, h4 xs q⟩
theorem same_mut' {H0 H : Hp} {p : Addr} {o : HO} (h : Same H0 H) (hp : H0 p = none) : Same H0 (upd H p o) := fun b x e => by rw [upd_ne (ne_of_none e hp)]; exact h b x e
theorem df_check (A : At K mg "_check_truths" sCheck) (T : TxtW mg) : Df P w K mg base 1 "_check_truths" ["truths"] (spCheck K) := by
  obtain ⟨f, fd, hm, F⟩ := A.ex
  refine ⟨f, fd, hm, F.kp, F.binds (fun _ _ _ _ _ _ us hl => match us, hl with | [_], _ => rfl), F.ok scCheck (fun vs H Q E h => ?_) (fun cdv A outer s H vs Q E hr h => ?_)⟩
  · obtain ⟨a, bs, rfl, _⟩ := h
    rfl
  · obtain ⟨a, bs, rfl, hB, q⟩ := h
    refine ⟨_, (pss_cons (ps_setLc (i := 1) (own := [("index", 2), ("truth", 3)]) (g := gTup K 2 (gCons (gName 2) (gCons (gName 3) gNil))) (by rfl) scCheck.nd rfl rfl (sw_true rfl rfl rfl (by decide +kernel)) (pi_enumS (by rfl) T.enumerate (pa_cons (pv 0) pa_nil)) (blkOk_by (own := [("index", 2), ("truth", 3)]) (N := ["truths", "wrong", "index", "truth"]) (sc := defScope sCheck) (by decide +kernel)) (fun _ _ _ _ _ => pg_tup (by rfl) (pgs_cons (pg_name (i := 2) scCheck.nd rfl (Or.inl rfl)) (pgs_cons (pg_name (i := 3) scCheck.nd rfl (Or.inl rfl)) pgs_nil))) (fun _ _ _ _ _ => (pts_one (pw_and (pt_cmpR op_notBl (pv 3) pe_bl (nomark _)) (pw_and1 (pt_cmpR op_notBl (pv 3) pe_bl (nomark _)))).pt)) (fun _ _ _ _ _ => (pv 2)))
      (pss_one (ps_if (pt_cmpR op_gt (pe_callB call_len_seq (by rfl) T.len PySem.boot_len (pa_cons (pv 1) pa_nil)) pe_int (nomark _)) (pss_one ps_never) pss_nil))), ?_⟩
    refine ⟨_, rfl, a, bs.map V.bl, rfl, ?_⟩
    have ey0 : ∀ {z : V} {i : Nat}, i < (bs.map V.bl).length → (bs.map V.bl)[i]? = some z → ∃ b, z = .bl b := fun hi e => by
      rw [get_bls (by rw [List.length_map] at hi; exact hi)] at e
      exact ⟨_, (Option.some.inj e).symm⟩
    rcases hB with hB | hB
    · refine .inl ⟨hB, fun D hD => lc_it walk_enum (fun i H' => Same H H' ∧ H' D = some (.lst [])) ⟨same_mut' (Same.refl H) hD, upd_same⟩ (fun i H' _ h => h.1.seq hB) ?_ ?_⟩
      · rintro i x H1 H2 hi ⟨s1, hx⟩ ⟨T, y, z, rfl, nT, rfl, ey, ez⟩
        obtain ⟨b, rfl⟩ := ey0 hi ez
        have sT : Same H (upd H1 T (.tup [y, .bl b])) := s1.trans fun c o e => by rw [upd_ne (ne_of_none e nT)]; exact e
        have hT : (upd H1 T (.tup [y, .bl b])) D = some (.lst []) := by rw [upd_ne (ne_of_none hx nT)]; exact hx
        refine ⟨T, _, rfl, .inl (.inl upd_same), rfl, _, _, rfl, _, _, rfl, rfl, rfl, _, rfl, _, _, rfl, rfl, _, rfl, ?_⟩
        cases b with
        | true => exact ⟨sT, hT⟩
        | false => exact iteT ⟨_, rfl, _, _, rfl, rfl, _, rfl, sT, hT⟩
      · rintro H1 ⟨s1, hx⟩
        exact ⟨_, rfl, D, [], rfl, .inl (.inl (.inl hx)), _, _, rfl, rfl, _, rfl, iteF (q _ s1)⟩
    · refine .inr ⟨hB, fun D hD => lc_it walk_enumT (fun i H' => Same H H' ∧ H' D = some (.lst [])) ⟨same_mut' (Same.refl H) hD, upd_same⟩ (fun i H' _ h => Same.tup h.1 hB) ?_ ?_⟩
      · rintro i x H1 H2 hi ⟨s1, hx⟩ ⟨T, y, z, rfl, nT, rfl, ey, ez⟩
        obtain ⟨b, rfl⟩ := ey0 hi ez
        have sT : Same H (upd H1 T (.tup [y, .bl b])) := s1.trans fun c o e => by rw [upd_ne (ne_of_none e nT)]; exact e
        have hT : (upd H1 T (.tup [y, .bl b])) D = some (.lst []) := by rw [upd_ne (ne_of_none hx nT)]; exact hx
        refine ⟨T, _, rfl, .inl (.inl upd_same), rfl, _, _, rfl, _, _, rfl, rfl, rfl, _, rfl, _, _, rfl, rfl, _, rfl, ?_⟩
        cases b with
        | true => exact ⟨sT, hT⟩
        | false => exact iteT ⟨_, rfl, _, _, rfl, rfl, _, rfl, sT, hT⟩
      · rintro H1 ⟨s1, hx⟩
        exact ⟨_, rfl, D, [], rfl, .inl (.inl (.inl hx)), _, _, rfl, rfl, _, rfl, iteF (q _ s1)⟩
end
end Ef
set_option Elab.async false
namespace Ef
/-! ### whole numbers -/
/-- ps: divisors of n from 2 on, one for each divisor of n from 2 on -/
def PrimesOk (n : Nat) (ps : List Nat) : Prop := (∀ p ∈ ps, 2 ≤ p ∧ p ∣ n) ∧ ∀ q, 2 ≤ q → q ∣ n → ∃ p ∈ ps, p ∣ q
/-- what the search for primes keeps -/
structure Seek (n left prime : Nat) (ps : List Nat) : Prop where
  l0 : 1 ≤ left
  p2 : 2 ≤ prime
  dvd : left ∣ n
  good : ∀ p ∈ ps, 2 ≤ p ∧ p ∣ n
  small : ∀ d, 2 ≤ d → d < prime → ¬ d ∣ left
  rest : ∀ q, 2 ≤ q → q ∣ n → (∃ p ∈ ps, p ∣ q) ∨ q ∣ left
theorem Seek.start {n : Nat} (h : 1 ≤ n) : Seek n n 2 [] :=
  ⟨h, Nat.le_refl 2, Nat.dvd_refl n, fun p hp => (by cases hp), fun d h2 h3 => absurd h2 (by omega), fun q _ hq => .inr hq⟩
/-- prime does not divide left -/
theorem Seek.skip {n left prime : Nat} {ps : List Nat} (h : Seek n left prime ps) (hd : ¬ prime ∣ left) : Seek n left (prime + 1) ps :=
  ⟨h.l0, by have := h.p2; omega, h.dvd, h.good, fun d h2 h3 => by
    rcases Nat.lt_or_ge d prime with z | z
    · exact h.small d h2 z
    · have : d = prime := by omega
      rw [this]; exact hd, h.rest⟩
/-- the inner loop: left' is left without some factors prime -/
structure Strip (left prime left' : Nat) : Prop where
  l0 : 1 ≤ left'
  dvd : left' ∣ left
  rest : ∀ q, ¬ prime ∣ q → q ∣ left → q ∣ left'
theorem Strip.start {left prime : Nat} (h : 1 ≤ left) : Strip left prime left := ⟨h, Nat.dvd_refl _, fun _ _ h => h⟩
/-- prime has no divisor but 1 and itself -/
def Pr (p : Nat) : Prop := 2 ≤ p ∧ ∀ d, d ∣ p → d = 1 ∨ d = p
theorem Seek.prime {n left prime : Nat} {ps : List Nat} (h : Seek n left prime ps) (hd : prime ∣ left) : Pr prime := by
  refine ⟨h.p2, fun d hdp => ?_⟩
  have hp := h.p2
  have h0 : d ≠ 0 := fun z => by
    rw [z] at hdp
    have := Nat.eq_zero_of_zero_dvd hdp
    omega
  have hle := Nat.le_of_dvd (by omega) hdp
  rcases Nat.lt_or_ge d prime with z | z
  · rcases Nat.lt_or_ge d 2 with y | y
    · left; omega
    · exact absurd (Nat.dvd_trans hdp hd) (h.small d y z)
  · right; omega
theorem Pr.coprime {p q : Nat} (h : Pr p) (hq : ¬ p ∣ q) : Nat.Coprime q p := by
  have g := h.2 (Nat.gcd q p) (Nat.gcd_dvd_right q p)
  rcases g with g | g
  · exact g
  · exact absurd (by rw [← g]; exact Nat.gcd_dvd_left q p) hq
theorem Strip.step {left prime left' : Nat} (h : Strip left prime left') (hp : Pr prime) (hd : prime ∣ left') : Strip left prime (left' / prime) := by
  obtain ⟨c, hc⟩ := hd
  have hp0 : 0 < prime := by have := hp.1; omega
  have e : left' / prime = c := by rw [hc]; exact Nat.mul_div_cancel_left c hp0
  rw [e]
  have l0 := h.l0
  refine ⟨?_, ?_, fun q hq hql => ?_⟩
  · rcases Nat.eq_zero_or_pos c with z | z
    · rw [z, Nat.mul_zero] at hc; omega
    · exact z
  · exact Nat.dvd_trans ⟨prime, by rw [hc, Nat.mul_comm]⟩ h.dvd
  · have z := h.rest q hq hql
    rw [hc] at z
    exact Nat.Coprime.dvd_of_dvd_mul_left (hp.coprime hq) z
theorem Seek.take {n left prime left' : Nat} {ps : List Nat} (h : Seek n left prime ps) (hd : prime ∣ left) (s : Strip left prime left') (hn : ¬ prime ∣ left') : Seek n left' (prime + 1) (ps ++ [prime]) := by
  refine ⟨s.l0, by have := h.p2; omega, Nat.dvd_trans s.dvd h.dvd, fun p hp => ?_, fun d h2 h3 hdl => ?_, fun q h2 hq => ?_⟩
  · rcases List.mem_append.mp hp with z | z
    · exact h.good p z
    · rw [List.mem_singleton.mp z]; exact ⟨h.p2, Nat.dvd_trans hd h.dvd⟩
  · rcases Nat.lt_or_ge d prime with z | z
    · exact h.small d h2 z (Nat.dvd_trans hdl s.dvd)
    · have : d = prime := by omega
      rw [this] at hdl; exact hn hdl
  · rcases h.rest q h2 hq with ⟨p, hp, hpq⟩ | z
    · exact .inl ⟨p, List.mem_append_left _ hp, hpq⟩
    · by_cases hpq : prime ∣ q
      · exact .inl ⟨prime, List.mem_append_right _ (List.mem_singleton.mpr rfl), hpq⟩
      · exact .inr (s.rest q hpq z)
/-- the end of the search -/
theorem Seek.fin {n left prime : Nat} {ps : List Nat} (h : Seek n left prime ps) (hb : left < prime * prime) : PrimesOk n (if 1 < left then ps ++ [left] else ps) := by
  by_cases hl : 1 < left
  · rw [if_pos hl]
    refine ⟨fun p hp => ?_, fun q h2 hq => ?_⟩
    · rcases List.mem_append.mp hp with z | z
      · exact h.good p z
      · rw [List.mem_singleton.mp z]; exact ⟨hl, h.dvd⟩
    · rcases h.rest q h2 hq with ⟨p, hp, hpq⟩ | z
      · exact ⟨p, List.mem_append_left _ hp, hpq⟩
      · refine ⟨left, List.mem_append_right _ (List.mem_singleton.mpr rfl), ?_⟩
        obtain ⟨c, hc⟩ := z
        have hqp : prime ≤ q := by
          rcases Nat.lt_or_ge q prime with y | y
          · exact absurd ⟨c, hc⟩ (h.small q h2 y)
          · exact y
        rcases Nat.lt_or_ge c 2 with y | y
        · have hc1 : c = 1 := by
            rcases Nat.eq_zero_or_pos c with x | x
            · rw [x, Nat.mul_zero] at hc; omega
            · omega
          rw [hc, hc1, Nat.mul_one]
          exact Nat.dvd_refl q
        · have hcp : prime ≤ c := by
            rcases Nat.lt_or_ge c prime with x | x
            · exact absurd ⟨q, by rw [hc, Nat.mul_comm]⟩ (h.small c y x)
            · exact x
          have := Nat.mul_le_mul hqp hcp
          omega
  · rw [if_neg hl]
    have e : left = 1 := by have := h.l0; omega
    refine ⟨h.good, fun q h2 hq => ?_⟩
    rcases h.rest q h2 hq with z | z
    · exact z
    · rw [e] at z
      have := Nat.le_of_dvd (by omega) z
      omega
/-! ### periods -/
/-- d is a period of the row f -/
def PerF (f : Nat → Bool) (d : Nat) : Prop := ∀ i, f (i + d) = f i
theorem PerF.zero (f : Nat → Bool) : PerF f 0 := fun _ => rfl
theorem PerF.mul {f : Nat → Bool} {d : Nat} (h : PerF f d) : ∀ k, PerF f (d * k)
  | 0 => fun i => rfl
  | k + 1 => fun i => by
    rw [Nat.mul_succ, ← Nat.add_assoc, h, PerF.mul h k]
theorem PerF.of_dvd {f : Nat → Bool} {d e : Nat} (h : PerF f d) (hd : d ∣ e) : PerF f e := by
  obtain ⟨k, rfl⟩ := hd
  exact h.mul k
theorem PerF.mod {f : Nat → Bool} {a b : Nat} (ha : PerF f a) (hb : PerF f b) : PerF f (a % b) := fun i => by
  have e : i + a = i + a % b + b * (a / b) := by
    have := Nat.mod_add_div a b
    omega
  rw [← (hb.mul (a / b)) (i + a % b), ← e, ha]
theorem PerF.gcd {f : Nat → Bool} : ∀ (a b : Nat), PerF f a → PerF f b → PerF f (Nat.gcd a b) := by
  intro a
  induction a using Nat.strongRecOn with
  | ind a ih =>
    intro b ha hb
    rcases Nat.eq_zero_or_pos a with z | z
    · rw [z, Nat.gcd_zero_left]; exact hb
    · rw [Nat.gcd_rec]
      exact ih (b % a) (Nat.mod_lt b z) a (hb.mod ha) ha
/-- the search has found the least period -/
theorem least_of {f : Nat → Bool} {L m : Nat} {ps : List Nat} (hp : PrimesOk L ps) (hL : 1 ≤ L) (hm : m ∣ L) (hf : PerF f m) (hn : ∀ p ∈ ps, p ∣ m → ¬ PerF f (m / p)) : ∀ d, PerF f d → m ∣ d := by
  intro d hd
  have hm0 : 1 ≤ m := by
    rcases Nat.eq_zero_or_pos m with z | z
    · rw [z] at hm
      have := Nat.eq_zero_of_zero_dvd hm
      omega
    · exact z
  have hg := PerF.gcd m d hf hd
  obtain ⟨q, hq⟩ := Nat.gcd_dvd_left m d
  rcases Nat.lt_or_ge q 2 with z | z
  · have : q = 1 := by
      rcases Nat.eq_zero_or_pos q with y | y
      · rw [y, Nat.mul_zero] at hq; omega
      · omega
    rw [this, Nat.mul_one] at hq
    rw [hq]
    exact Nat.gcd_dvd_right m d
  · have hqm : q ∣ m := ⟨Nat.gcd m d, by rw [Nat.mul_comm]; exact hq⟩
    obtain ⟨p, hpm, hpq⟩ := hp.2 q z (Nat.dvd_trans hqm hm)
    obtain ⟨c, hc⟩ := hpq
    have hp2 := (hp.1 p hpm).1
    refine absurd ?_ (hn p hpm (Nat.dvd_trans ⟨c, hc⟩ hqm))
    have e : m / p = Nat.gcd m d * c := by
      have z2 : m = p * (Nat.gcd m d * c) := by
        conv => lhs; rw [hq, hc]
        rw [Nat.mul_left_comm]
      conv => lhs; rw [z2]
      exact Nat.mul_div_cancel_left _ (by omega)
    rw [e]
    exact hg.mul c
theorem PerF.keep {f : Nat → Bool} {m m' p : Nat} (hp : 1 ≤ p) (hd : m' ∣ m) (hpm : p ∣ m') (h : PerF f (m' / p)) : PerF f (m / p) := by
  obtain ⟨k, rfl⟩ := hd
  obtain ⟨c, rfl⟩ := hpm
  rw [Nat.mul_div_cancel_left c (by omega)] at h
  rw [Nat.mul_assoc, Nat.mul_div_cancel_left _ (by omega)]
  exact h.mul k
/-- the row of truths led on for ever -/
def led (rs : List Bool) (i : Nat) : Bool := rs.getD (i % rs.length) false
theorem led_lt {rs : List Bool} {i : Nat} (h : i < rs.length) : rs[i]? = some (led rs i) := by
  unfold led
  rw [Nat.mod_eq_of_lt h, List.getD_eq_getElem?_getD, List.getElem?_eq_getElem h]
  rfl
theorem led_self (rs : List Bool) : PerF (led rs) rs.length := fun i => by
  unfold led
  rw [Nat.add_mod_right]
/-- what _comes_round asks -/
def Round (rs : List Bool) (d : Nat) : Bool := decide (rs.drop d = rs.take (rs.length - d))
theorem Round.get {rs : List Bool} {d : Nat} (h : Round rs d = true) {i : Nat} (hi : i + d < rs.length) : rs[i + d]? = rs[i]? := by
  have e := of_decide_eq_true h
  have e2 := congrArg (fun l : List Bool => l[i]?) e
  simp only [List.getElem?_drop, List.getElem?_take] at e2
  rw [if_pos (by omega), Nat.add_comm d i] at e2
  exact e2
theorem Round.get' {rs : List Bool} {d : Nat} (h : Round rs d = true) (y : Nat) : ∀ k, y + d * k < rs.length → rs[y + d * k]? = rs[y]?
  | 0, _ => rfl
  | k + 1, hk => by
    have e : y + d * (k + 1) = (y + d * k) + d := by rw [Nat.mul_succ]; omega
    rw [e] at hk ⊢
    rw [Round.get h hk]
    exact Round.get' h y k (by omega)
theorem round_per {rs : List Bool} {d : Nat} (hL : 1 ≤ rs.length) (hd : d ∣ rs.length) : Round rs d = true ↔ PerF (led rs) d := by
  have hd1 : 1 ≤ d := by
    rcases Nat.eq_zero_or_pos d with z | z
    · rw [z] at hd
      have := Nat.eq_zero_of_zero_dvd hd
      omega
    · exact z
  have hdl := Nat.le_of_dvd (by omega) hd
  constructor
  · intro h i
    unfold led
    have hx := Nat.mod_lt i (show 0 < rs.length by omega)
    have e0 : (i + d) % rs.length = (i % rs.length + d) % rs.length := by rw [Nat.mod_add_mod]
    rw [e0]
    generalize i % rs.length = x at hx
    rcases Nat.lt_or_ge (x + d) rs.length with z | z
    · rw [Nat.mod_eq_of_lt z, List.getD_eq_getElem?_getD, List.getD_eq_getElem?_getD, Round.get h z]
    · obtain ⟨c, hc⟩ := hd
      have hc1 : 1 ≤ c := by
        rcases Nat.eq_zero_or_pos c with y | y
        · rw [y, Nat.mul_zero] at hc; omega
        · exact y
      have e1 : (x + d) % rs.length = x + d - rs.length := by
        rw [Nat.mod_eq_sub_mod z, Nat.mod_eq_of_lt (by omega)]
      have e2 : x = (x + d - rs.length) + d * (c - 1) := by
        rw [Nat.mul_sub, Nat.mul_one, ← hc]; omega
      rw [e1, List.getD_eq_getElem?_getD, List.getD_eq_getElem?_getD]
      conv => rhs; rw [e2]
      rw [Round.get' h _ (c - 1) (by omega)]
  · intro h
    refine decide_eq_true (List.ext_getElem? fun i => ?_)
    rw [List.getElem?_drop, List.getElem?_take]
    rcases Nat.lt_or_ge i (rs.length - d) with z | z
    · rw [if_pos z, led_lt (show d + i < rs.length by omega), led_lt (show i < rs.length by omega), Nat.add_comm d i, h]
    · rw [if_neg (by omega), List.getElem?_eq_none (by omega)]
/-! ### the start -/
/-- s is the least start: from s on the truths below go by the rests, at s - 1 they do not -/
def StartOk (bs rs : List Bool) (s : Nat) : Prop := s ≤ bs.length ∧ (∀ n, s ≤ n → n < bs.length → bs.getD n false = led rs n) ∧ (s = 0 ∨ bs.getD (s - 1) false ≠ led rs (s - 1))
end Ef
set_option Elab.async false
set_option linter.all false
set_option maxRecDepth 100000
set_option maxHeartbeats 4000000
namespace Ef
open PySem PySem.Spec PyProof.Rows L2
/-- a tuple (t) or a list of truths -/
def BlsT (t : Bool) (K : PySem.W.Frag) (H : Hp) (a : Addr) (bs : List Bool) : Prop := if t = true then SqT K H a (bs.map V.bl) else SqL K H a (bs.map V.bl)
theorem Bls.t {K : PySem.W.Frag} {H : Hp} {a : Addr} {bs : List Bool} (h : Bls K H a bs) : ∃ t, BlsT t K H a bs := by
  rcases h with h | h
  · exact ⟨false, h⟩
  · exact ⟨true, h⟩
theorem BlsT.bls {t : Bool} {K : PySem.W.Frag} {H : Hp} {a : Addr} {bs : List Bool} (h : BlsT t K H a bs) : Bls K H a bs := by
  cases t with
  | false => exact .inl h
  | true => exact .inr h
theorem BlsT.same {t : Bool} {K : PySem.W.Frag} {H H' : Hp} {a : Addr} {bs : List Bool} (h : BlsT t K H a bs) (e : Same H H') : BlsT t K H' a bs := by
  cases t with
  | false => exact Same.seq (H := H) e h
  | true => exact Same.tup (H := H) e h
theorem same_new {H : Hp} {p : Addr} {o : HO} (h : H p = none) : Same H (upd H p o) := fun b x e => by rw [upd_ne (ne_of_none e h)]; exact e
theorem map_bl_inj {as bs : List Bool} (h : as.map V.bl = bs.map V.bl) : as = bs := by
  induction as generalizing bs with
  | nil => cases bs with
    | nil => rfl
    | cons b bs => cases h
  | cons a as ih => cases bs with
    | nil => cases h
    | cons b bs =>
      injection h with h1 h2
      injection h1 with h1
      rw [h1, ih h2]
theorem sl_bls {t : Bool} {K : PySem.W.Frag} {H : Hp} {a : Addr} {bs bs' : List Bool} {lo hi : Option Int} {Q : VK} (h : BlsT t K H a bs) (e : cutV (bs.map V.bl) lo hi = bs'.map V.bl) (q : ∀ p H', Same H H' → BlsT t K H' p bs' → Q (.ref p) H') :
    rSlL K (.ref a) lo hi H Q ∨ rSlA K (.ref a) lo hi H Q := by
  cases t with
  | false =>
    refine .inl ⟨a, _, rfl, h, fun p hp => ?_⟩
    rw [e]
    exact q p _ (same_new hp) (.inl (.inl upd_same))
  | true =>
    refine .inr ⟨a, _, rfl, h, fun hw => ?_, fun hw p hp => ?_⟩
    · refine q a H (Same.refl H) ?_
      have e2 : bs = bs' := by
        refine map_bl_inj (Eq.trans ?_ e)
        unfold cutV
        rw [hw.1, hw.2, List.drop_zero, Nat.sub_zero, List.take_length]
      rw [← e2]
      exact h
    · rw [e]
      exact q p _ (same_new hp) (.inl (.inl upd_same))
theorem eq_blsT {t : Bool} {K : PySem.W.Frag} {H : Hp} {a b : Addr} {as bs : List Bool} {Q : VK} (h1 : BlsT t K H a as) (h2 : BlsT t K H b bs) (q : Q (.bl (decide (as = bs))) H) : rEqD K (.ref a) (.ref b) H Q := by
  cases t with
  | false =>
    refine ⟨_, _, .lst h1 (dp_bls as), .lst h2 (dp_bls bs), (sh_list (can_bls as).1 (can_bls as).2).1, (sh_list (can_bls bs).1 (can_bls bs).2).1, ?_⟩
    show Q (.bl (PyData.eqvAll (as.map PyData.bool) (bs.map PyData.bool))) H
    rw [eqv_bls]
    exact q
  | true =>
    refine ⟨_, _, .tup h1 (dp_bls as), .tup h2 (dp_bls bs), (sh_list (can_bls as).1 (can_bls as).2).2, (sh_list (can_bls bs).1 (can_bls bs).2).2, ?_⟩
    show Q (.bl (PyData.eqvAll (as.map PyData.bool) (bs.map PyData.bool))) H
    rw [eqv_bls]
    exact q
theorem len_bls {K : PySem.W.Frag} {H : Hp} {a : Addr} {bs : List Bool} (h : Bls K H a bs) : SqL K H a (bs.map V.bl) ∨ SqT K H a (bs.map V.bl) := h
theorem ix_bls {K : PySem.W.Frag} {H : Hp} {a : Addr} {bs : List Bool} {i : Int} {Q : VK} (h : Bls K H a bs) (h0 : 0 ≤ i) (h1 : i < bs.length) (q : Q (.bl (bs.getD i.toNat false)) H) : rIx K (.ref a) (.int i) H Q := by
  have ha : atI (bs.map V.bl) i = some (.bl (bs.getD i.toNat false)) := at_of (Int.toNat_of_nonneg h0).symm (get_bls (by omega))
  rcases h with h | h
  · exact .inl ⟨a, _, _, _, rfl, rfl, h, ha, q⟩
  · exact .inr (.inl ⟨a, _, _, _, rfl, rfl, h, ha, q⟩)
theorem cut_lo (bs : List Bool) (k : Nat) (hk : k ≤ bs.length) : cutV (bs.map V.bl) (some (k : Int)) none = (bs.drop k).map V.bl := by
  unfold cutV
  rw [HT.sIx_none, HT.sIx_nat, List.length_map, Nat.min_eq_left hk, ← List.map_drop, ← List.map_take, List.take_of_length_le (by rw [List.length_drop]; omega)]
theorem cut_hi (bs : List Bool) (k : Nat) (hk : k ≤ bs.length) : cutV (bs.map V.bl) none (some (k : Int)) = (bs.take k).map V.bl := by
  unfold cutV
  rw [HT.sIx_none, HT.sIx_nat, List.length_map, Nat.min_eq_left hk, List.drop_zero, Nat.sub_zero, List.map_take]
section
variable {P : Program} {w : World} {K : PySem.W.Frag} {mg : Str → Option Value} {base : Heap}
/-! ### _comes_round -/
def spRound (K : PySem.W.Frag) : Sp := fun vs H Q _ => ∃ (a : Addr) (bs : List Bool) (k : Nat), vs = [.ref a, .int k] ∧ Bls K H a bs ∧ k ≤ bs.length ∧ ∀ H', Same H H' → Q (.bl (Round bs k)) H'
theorem scRound : FnScope ["row", "step"] ["row", "step"] (defScope sRound) := ⟨rfl, rfl, rfl, by decide +kernel, rfl, by decide +kernel, by decide +kernel⟩
theorem df_round (A : At K mg "_comes_round" sRound) (T : TxtW mg) : Df P w K mg base 1 "_comes_round" ["row", "step"] (spRound K) := by
  obtain ⟨f, fd, hm, F⟩ := A.ex
  refine ⟨f, fd, hm, F.kp, F.binds (fun _ _ _ _ _ _ us hl => match us, hl with | [_, _], _ => rfl), F.ok scRound (fun vs H Q E h => ?_) (fun cdv A outer s H vs Q E hr h => ?_)⟩
  · obtain ⟨a, bs, k, rfl, _⟩ := h
    rfl
  · obtain ⟨a, bs, k, rfl, hB, hk, q⟩ := h
    obtain ⟨t, hT⟩ := hB.t
    refine ⟨_, (pss_one (ps_ret (pe_cmpR (op_eqD hr.units) (pe_slice (sl_list.or sl_tupA) (pv 0) (po_some (pv 1)) po_none) (pe_slice (sl_list.or sl_tupA) (pv 0) po_none (po_some (pe_op op_sub (pe_callB call_len_seq (by rfl) T.len PySem.boot_len (pa_cons (pv 0) pa_nil)) (pv 1)))) (nomark _)))), ?_⟩
    refine ⟨_, rfl, _, rfl, _, rfl, sl_bls hT (cut_lo bs k hk) fun p H1 s1 h1 => ?_⟩
    refine ⟨_, rfl, _, rfl, a, _, rfl, len_bls (hT.same s1).bls, _, rfl, _, _, rfl, rfl, _, rfl, sl_bls (hT.same s1) (bs' := bs.take (bs.length - k)) ?_ fun p2 H2 s2 h2 => ?_⟩
    · have e : ((bs.map V.bl).length : Int) - (k : Int) = ((bs.length - k : Nat) : Int) := by rw [List.length_map]; omega
      show cutV (bs.map V.bl) none (some (((bs.map V.bl).length : Int) - (k : Int))) = _
      rw [e]
      exact cut_hi bs _ (by omega)
    · exact eq_blsT (h1.same s2) h2 (q _ (s1.trans s2))
/-! ### _primes_of -/
def spPrimes : Sp := fun vs H Q _ => ∃ (n : Nat), vs = [.int n] ∧ 1 ≤ n ∧ n ≤ 1000000 ∧ ∀ (r : Addr) (ps : List Nat) (H' : Hp), H r = none → H' r = some (.lst (ps.map fun p : Nat => V.int (p : Int))) → PrimesOk n ps → Same H H' → Q (.ref r) H'
theorem scPrimes : FnScope ["number", "primes", "left", "prime"] ["number"] (defScope sPrimes) := ⟨rfl, rfl, rfl, by decide +kernel, rfl, by decide +kernel, by decide +kernel⟩
theorem df_primes (A : At K mg "primes_of" sPrimes) : Df P w K mg base 1 "primes_of" ["number"] spPrimes := by
  obtain ⟨f, fd, hm, F⟩ := A.ex
  refine ⟨f, fd, hm, F.kp, F.binds (fun _ _ _ _ _ _ us hl => match us, hl with | [_], _ => rfl), F.ok scPrimes (fun vs H Q E h => ?_) (fun cdv A outer s H vs Q E hr h => ?_)⟩
  · obtain ⟨n, rfl, _⟩ := h
    rfl
  · obtain ⟨n, rfl, n1, n2, q⟩ := h
    refine ⟨_, (pss_cons (ps_set (i := 1) scPrimes.nd rfl (.inl rfl) (pe_lst pa_nil))
      (pss_cons (ps_set (i := 2) scPrimes.nd rfl (.inl rfl) (pv 0))
      (pss_cons (ps_set (i := 3) scPrimes.nd rfl (.inl rfl) pe_int)
      (pss_cons (ps_while PassesOwn.never (pt_cmpR op_le (pe_op op_mul (pv 3) (pv 3)) (pv 2) (nomark _))
      (pss_cons (ps_if (pt_cmpR op_eq (pe_op op_mod (pv 2) (pv 3)) pe_int (nomark _)) (pss_one (ps_expr (pe_bm PySem.F.plainAttrs_list PySem.F.slot_list_append PySem.F.type_list_append mt_append (pv 1) (pa_cons (pv 3) pa_nil)))) pss_nil)
      (pss_cons (ps_while PassesOwn.never (pt_cmpR op_eq (pe_op op_mod (pv 2) (pv 3)) pe_int (nomark _))
      (pss_one (ps_set (i := 2) scPrimes.nd rfl (.inl rfl) (pe_op op_fdiv (pv 2) (pv 3)))))
      (pss_one (ps_set (i := 3) scPrimes.nd rfl (.inl rfl) (pe_op op_add (pv 3) pe_int))))))
      (pss_cons (ps_if (pt_cmpR op_gt (pv 2) pe_int (nomark _)) (pss_one (ps_expr (pe_bm PySem.F.plainAttrs_list PySem.F.slot_list_append PySem.F.type_list_append mt_append (pv 1) (pa_cons (pv 2) pa_nil)))) pss_nil)
      (pss_one (ps_ret (pv 1)))))))), ?_⟩
    refine ⟨Nat.zero_le _, fun r hr0 => ?_⟩
    refine ⟨_, rfl, ?_⟩
    refine ⟨fun m σ H' => ∃ (ps : List Nat) (left prime : Nat), σ = [some (.int n), some (.ref r), some (.int left), some (.int prime)] ∧ m = n + 2 - prime ∧ prime ≤ n + 1 ∧ ps.length < prime ∧ Seek n left prime ps ∧ H' r = some (.lst (ps.map fun p : Nat => V.int (p : Int))) ∧ Same H H',
      ⟨_, [], n, 2, rfl, rfl, by omega, by decide, Seek.start n1, upd_same, same_new hr0⟩, fun m σ H' hW => ?_⟩
    obtain ⟨ps, left, prime, rfl, em, hpn, hpl, hS, hL, sm⟩ := hW
    have hln : left ≤ n := Nat.le_of_dvd (by omega) hS.dvd
    refine ⟨_, rfl, _, rfl, _, _, rfl, rfl, .inl ⟨by omega, by omega⟩, _, rfl, _, _, rfl, rfl, _, rfl, ?_⟩
    have hp2 := hS.p2
    have hpos : (0 : Int) < (prime : Int) := by omega
    have hmod : ∀ x : Nat, decide (V.int ((x : Int) % (prime : Int)) = V.int 0) = decide (prime ∣ x) := fun x => by
      by_cases hx : prime ∣ x
      · rw [decide_eq_true hx]
        obtain ⟨c, rfl⟩ := hx
        refine decide_eq_true ?_
        rw [Int.natCast_mul, Int.mul_emod_right]
      · rw [decide_eq_false hx]
        refine decide_eq_false fun z => hx ?_
        injection z with z
        exact Int.natCast_dvd_natCast.mp (Int.dvd_of_emod_eq_zero z)
    have hlt : ∀ ps' : List Nat, ps'.length ≤ n + 2 → (ps'.map fun p : Nat => V.int (p : Int)).length < sizeLine := fun ps' hz => by
      rw [List.length_map]
      exact Nat.lt_of_le_of_lt (show ps'.length ≤ 1000010 by omega) (by decide)
    by_cases hc : prime * prime ≤ left
    · have hcI : (prime : Int) * (prime : Int) ≤ (left : Int) := by
        have := Int.ofNat_le.mpr hc
        rw [Int.natCast_mul] at this
        exact this
      have hpn' : prime ≤ n := by
        have := Nat.mul_le_mul_right prime hp2
        omega
      have hN : ∀ (ps' : List Nat) (left' : Nat) (H' : Hp), Seek n left' (prime + 1) ps' → ps'.length < prime + 1 → H' r = some (.lst (ps'.map fun p : Nat => V.int (p : Int))) → Same H H' →
          ∃ v, [some (V.int n), some (V.ref r), some (V.int left'), some (V.int prime)][3]? = some (some v) ∧ ∃ i j, v = V.int i ∧ V.int 1 = V.int j ∧
            (fun (σ' : L2.St) (H' : Hp) => ∃ (ps : List Nat) (left : Nat), σ' = [some (.int n), some (.ref r), some (.int left), some (.int ((prime : Int) + 1))] ∧ ps.length < prime + 1 ∧ Seek n left (prime + 1) ps ∧ H' r = some (.lst (ps.map fun p : Nat => V.int (p : Int))) ∧ Same H H')
              [some (V.int n), some (V.ref r), some (V.int left'), some (V.int (i + j))] H' :=
        fun ps' left' H' h1 h2 h3 h4 => ⟨_, rfl, _, _, rfl, rfl, ps', left', rfl, h2, h1, h3, h4⟩
      refine (show ite _ _ _ from ?_)
      rw [decide_eq_true hcI, if_pos rfl]
      refine ⟨fun σ' H' => ∃ (ps : List Nat) (left : Nat), σ' = [some (.int n), some (.ref r), some (.int left), some (.int ((prime : Int) + 1))] ∧ ps.length < prime + 1 ∧ Seek n left (prime + 1) ps ∧ H' r = some (.lst (ps.map fun p : Nat => V.int (p : Int))) ∧ Same H H', fun σ' H' hz => ?_, ?_⟩
      · obtain ⟨ps', left', e, h1, h2, h3, h4⟩ := hz
        exact ⟨n + 2 - (prime + 1), by omega, ps', left', prime + 1, e, rfl, by omega, h1, h2, h3, h4⟩
      · refine ⟨_, rfl, _, rfl, _, _, rfl, rfl, hpos, rfl, _, rfl, ?_⟩
        rw [hmod left]
        by_cases hd : prime ∣ left
        · rw [decide_eq_true hd]
          refine iteT ?_
          refine ⟨_, rfl, .inl ⟨rfl, _, .inl (.inl hL)⟩, _, rfl, r, _, _, rfl, rfl, hL, hlt _ (by omega), ?_⟩
          have hL2 : (upd H' r (.lst ((ps.map fun p : Nat => V.int (p : Int)) ++ [V.int prime]))) r = some (.lst ((ps ++ [prime]).map fun p : Nat => V.int (p : Int))) := by rw [upd_same, List.map_append]; rfl
          have sm2 : Same H (upd H' r (.lst ((ps.map fun p : Nat => V.int (p : Int)) ++ [V.int prime]))) := fun b o e => by rw [upd_ne (ne_of_none e hr0)]; exact sm b o e
          generalize upd H' r (.lst ((ps.map fun p : Nat => V.int (p : Int)) ++ [V.int prime])) = H2 at hL2 sm2 ⊢
          refine ⟨fun m σ H3 => ∃ left' : Nat, σ = [some (.int n), some (.ref r), some (.int left'), some (.int prime)] ∧ m = left' ∧ Strip left prime left' ∧ H3 = H2, ⟨left, left, rfl, rfl, Strip.start hS.l0, rfl⟩, fun m σ H3 hW => ?_⟩
          obtain ⟨left', rfl, rfl, hT, rfl⟩ := hW
          refine ⟨_, rfl, _, rfl, _, _, rfl, rfl, hpos, rfl, _, rfl, ?_⟩
          rw [hmod m]
          by_cases hd' : prime ∣ m
          · refine (show ite _ _ _ from ?_)
            rw [decide_eq_true hd', if_pos rfl]
            refine ⟨fun σ' H' => σ' = [some (.int n), some (.ref r), some (.int ((m / prime : Nat) : Int)), some (.int prime)] ∧ H' = H3, fun σ' H' hz => ?_, ?_⟩
            · obtain ⟨rfl, rfl⟩ := hz
              exact ⟨m / prime, Nat.div_lt_self hT.l0 hp2, _, rfl, rfl, hT.step (hS.prime hd) hd', rfl⟩
            · refine ⟨_, rfl, _, rfl, _, _, rfl, rfl, ⟨hpos, by omega⟩, rfl, rfl⟩
          · refine (show ite _ _ _ from ?_)
            rw [decide_eq_false hd', if_neg Bool.false_ne_true]
            exact hN _ m H3 (hS.take hd hT hd') (by rw [List.length_append, List.length_singleton]; omega) hL2 sm2
        · rw [decide_eq_false hd]
          refine iteF ?_
          refine ⟨fun m σ H3 => σ = [some (.int n), some (.ref r), some (.int left), some (.int prime)] ∧ H3 = H', ⟨0, rfl, rfl⟩, fun m σ H3 hW => ?_⟩
          obtain ⟨rfl, rfl⟩ := hW
          refine ⟨_, rfl, _, rfl, _, _, rfl, rfl, hpos, rfl, _, rfl, ?_⟩
          rw [hmod left]
          refine (show ite _ _ _ from ?_)
          rw [decide_eq_false hd, if_neg Bool.false_ne_true]
          exact hN ps left H3 (hS.skip hd) (by omega) hL sm
    · have hcI : ¬ (prime : Int) * (prime : Int) ≤ (left : Int) := fun z => by
        rw [← Int.natCast_mul] at z
        exact hc (Int.ofNat_le.mp z)
      refine (show ite _ _ _ from ?_)
      rw [decide_eq_false hcI, if_neg Bool.false_ne_true]
      have fin := hS.fin (by omega)
      refine ⟨_, rfl, _, _, rfl, rfl, _, rfl, ?_⟩
      by_cases h1 : 1 < left
      · rw [if_pos h1] at fin
        rw [decide_eq_true (show (1 : Int) < (left : Int) by omega), if_pos rfl]
        refine ⟨_, rfl, .inl ⟨rfl, _, .inl (.inl hL)⟩, _, rfl, r, _, _, rfl, rfl, hL, hlt _ (by omega), ?_⟩
        exact ⟨_, rfl, q r _ _ hr0 (by rw [upd_same, List.map_append]; rfl) fin (fun b o e => by rw [upd_ne (ne_of_none e hr0)]; exact sm b o e)⟩
      · rw [if_neg h1] at fin
        rw [decide_eq_false (show ¬ (1 : Int) < (left : Int) by omega), if_neg Bool.false_ne_true]
        exact ⟨_, rfl, q r _ _ hr0 hL fin sm⟩
end
end Ef
set_option Elab.async false
set_option linter.all false
/-! a list told by its first round again and again -/
namespace Ef
theorem rep_get {α : Type} (xs : List α) (hx : 0 < xs.length) : ∀ (k i : Nat), i < xs.length * k → (List.replicate k xs).flatten[i]? = xs[i % xs.length]?
  | 0, i, h => absurd h (by rw [Nat.mul_zero]; exact Nat.not_lt_zero i)
  | k + 1, i, h => by
    rw [List.replicate_succ, List.flatten_cons]
    rcases Nat.lt_or_ge i xs.length with z | z
    · rw [List.getElem?_append_left z, Nat.mod_eq_of_lt z]
    · rw [List.getElem?_append_right z, rep_get xs hx k (i - xs.length) (by rw [Nat.mul_succ] at h; omega), Nat.mod_eq_sub_mod z]
theorem rep_len {α : Type} (xs : List α) (k : Nat) : (List.replicate k xs).flatten.length = xs.length * k := by
  induction k with
  | zero => rfl
  | succ k ih => rw [List.replicate_succ, List.flatten_cons, List.length_append, ih, Nat.mul_succ, Nat.add_comm]
/-- by d again and again, exactly if it comes round by d -/
theorem rep_per {rs : List Bool} {d : Nat} (hL : 1 ≤ rs.length) (h1 : 1 ≤ d) (hd : d ∣ rs.length) : rs = (List.replicate (rs.length / d) (rs.take d)).flatten ↔ PerF (led rs) d := by
  have hle := Nat.le_of_dvd hL hd
  have hlen : (rs.take d).length = d := by rw [List.length_take]; omega
  have hm : d * (rs.length / d) = rs.length := Nat.mul_div_cancel' hd
  have get : ∀ i, i < rs.length → (List.replicate (rs.length / d) (rs.take d)).flatten[i]? = some (led rs (i % d)) := fun i hi => by
    have hid := Nat.mod_lt i (show 0 < d by omega)
    rw [rep_get (rs.take d) (by omega) _ i (by rw [hlen, hm]; exact hi), hlen, List.getElem?_take, if_pos hid]
    exact led_lt (by omega)
  constructor
  · intro h
    have key : ∀ i, i < rs.length → led rs i = led rs (i % d) := fun i hi => by
      have a := led_lt hi
      have b := get i hi
      rw [← h] at b
      rw [a] at b
      injection b
    intro i
    have e1 : led rs (i + d) = led rs ((i + d) % rs.length) := by unfold led; rw [Nat.mod_mod]
    have e2 : led rs i = led rs (i % rs.length) := by unfold led; rw [Nat.mod_mod]
    rw [e1, e2, key _ (Nat.mod_lt _ (by omega)), key _ (Nat.mod_lt _ (by omega)), Nat.mod_mod_of_dvd _ hd, Nat.mod_mod_of_dvd _ hd, Nat.add_mod_right]
  · intro h
    refine List.ext_getElem? fun i => ?_
    rcases Nat.lt_or_ge i rs.length with z | z
    · rw [get i z, led_lt z]
      have e : i = i % d + d * (i / d) := (Nat.mod_add_div i d).symm
      conv => lhs; rw [e, h.mul (i / d)]
    · rw [List.getElem?_eq_none z, List.getElem?_eq_none (by rw [rep_len, hlen, hm]; exact z)]
end Ef
set_option Elab.async false
set_option linter.all false
/-! the least start, found by halving -/
namespace Ef
/-- from n on the truths below are those of the rounds -/
def Agree (bs rs : List Bool) (n : Nat) : Prop := ∀ k, n ≤ k → k < bs.length → bs.getD k false = led rs k
theorem start_ex (bs rs : List Bool) : ∀ n, n ≤ bs.length → Agree bs rs n → ∃ s, s ≤ n ∧ StartOk bs rs s
  | 0, h, a => ⟨0, Nat.le_refl _, h, a, .inl rfl⟩
  | n + 1, h, a => by
    by_cases e : bs.getD n false = led rs n
    · obtain ⟨s, h1, h2⟩ := start_ex bs rs n (by omega) fun k hk hl => by
        rcases Nat.lt_or_ge n k with z | z
        · exact a k z hl
        · rw [show k = n by omega]; exact e
      exact ⟨s, by omega, h2⟩
    · exact ⟨n + 1, Nat.le_refl _, h, a, .inr (by rw [Nat.add_sub_cancel]; exact e)⟩
theorem start_agree {bs rs : List Bool} {s n : Nat} (h : StartOk bs rs s) (hn : n ≤ bs.length) : Agree bs rs n ↔ s ≤ n := by
  constructor
  · intro a
    rcases Nat.lt_or_ge n s with z | z
    · rcases h.2.2 with e | e
      · omega
      · exact absurd (a (s - 1) (by omega) (by have := h.1; omega)) e
    · exact z
  · exact fun z k hk hl => h.2.1 k (by omega) hl
theorem rep_take {rs : List Bool} {n : Nat} (hr : 1 ≤ rs.length) : (List.replicate (n / rs.length + 1) rs).flatten.take n = (List.range n).map (led rs) := by
  refine List.ext_getElem? fun i => ?_
  rw [List.getElem?_take, List.getElem?_map]
  rcases Nat.lt_or_ge i n with z | z
  · have h1 : n < rs.length * (n / rs.length + 1) := by
      have := Nat.div_add_mod n rs.length
      have := Nat.mod_lt n (show 0 < rs.length by omega)
      rw [Nat.mul_succ]
      omega
    rw [if_pos z, rep_get rs (by omega) _ i (by omega), List.getElem?_range z, led_lt (Nat.mod_lt _ (by omega))]
    show some _ = some (led rs i)
    unfold led
    rw [Nat.mod_mod]
  · rw [if_neg (by omega), List.getElem?_eq_none (by rw [List.length_range]; exact z)]
    rfl
theorem drop_agree {bs rs : List Bool} {n : Nat} : bs.drop n = ((List.range bs.length).map (led rs)).drop n ↔ Agree bs rs n := by
  have g : ∀ k, k < bs.length → bs[k]? = some (bs.getD k false) := fun k hk => by
    rw [List.getD_eq_getElem?_getD, List.getElem?_eq_getElem hk]; rfl
  have g2 : ∀ k, k < bs.length → ((List.range bs.length).map (led rs))[k]? = some (led rs k) := fun k hk => by
    rw [List.getElem?_map, List.getElem?_range hk]; rfl
  constructor
  · intro h k hk hl
    have e := congrArg (fun l : List Bool => l[k - n]?) h
    simp only [List.getElem?_drop] at e
    rw [show n + (k - n) = k by omega, g k hl, g2 k hl] at e
    exact Option.some.inj e
  · intro a
    refine List.ext_getElem? fun i => ?_
    rw [List.getElem?_drop, List.getElem?_drop]
    rcases Nat.lt_or_ge (n + i) bs.length with z | z
    · rw [g _ z, g2 _ z, a _ (by omega) z]
    · rw [List.getElem?_eq_none z, List.getElem?_eq_none (by rw [List.length_map, List.length_range]; exact z)]
end Ef
set_option Elab.async false
set_option linter.all false
set_option maxRecDepth 100000
set_option maxHeartbeats 4000000
namespace Ef
open PySem PySem.Spec PyProof.Rows L2
theorem hmod_nat {prime x : Nat} (hpos : 0 < prime) : decide (V.int ((x : Int) % (prime : Int)) = V.int 0) = decide (prime ∣ x) := by
  by_cases hx : prime ∣ x
  · rw [decide_eq_true hx]
    obtain ⟨c, rfl⟩ := hx
    refine decide_eq_true ?_
    rw [Int.natCast_mul, Int.mul_emod_right]
  · rw [decide_eq_false hx]
    refine decide_eq_false fun z => hx ?_
    injection z with z
    exact Int.natCast_dvd_natCast.mp (Int.dvd_of_emod_eq_zero z)
section
variable {P : Program} {w : World} {K : PySem.W.Frag} {mg : Str → Option Value} {base : Heap}
/-! ### _least_period -/
def spLper (K : PySem.W.Frag) : Sp := fun vs H Q _ => ∃ (a : Addr) (bs : List Bool), vs = [.ref a] ∧ Bls K H a bs ∧ 1 ≤ bs.length ∧ bs.length ≤ 1000000 ∧
  ∀ (m : Nat) (H' : Hp), 1 ≤ m → m ∣ bs.length → PerF (led bs) m → (∀ d, PerF (led bs) d → m ∣ d) → Same H H' → Q (.int m) H'
theorem scLper : FnScope ["row", "period", "prime"] ["row"] (defScope sLper) := ⟨rfl, rfl, rfl, by decide +kernel, rfl, by decide +kernel, by decide +kernel⟩
theorem df_lper (A : At K mg "least_period" sLper) (T : TxtW mg) (Dprimes : Df P w K mg base 1 "primes_of" ["number"] spPrimes) (Dround : Df P w K mg base 1 "_comes_round" ["row", "step"] (spRound K)) : Df P w K mg base 2 "least_period" ["row"] (spLper K) := by
  obtain ⟨f, fd, hm, F⟩ := A.ex
  refine ⟨f, fd, hm, F.kp, F.binds (fun _ _ _ _ _ _ us hl => match us, hl with | [_], _ => rfl), F.ok scLper (fun vs H Q E h => ?_) (fun cdv A outer s H vs Q E hr h => ?_)⟩
  · obtain ⟨a, bs, rfl, _⟩ := h
    rfl
  · obtain ⟨a, bs, rfl, hB, hL1, hL2, q⟩ := h
    refine ⟨_, (pss_cons (ps_set (i := 1) scLper.nd rfl (.inl rfl) (pe_callB call_len_seq (by rfl) T.len PySem.boot_len (pa_cons (pv 0) pa_nil)))
      (pss_cons (ps_for PassesOwn.never rfl (pi_list (Dprimes.call (hr.mono (by decide)) (pa_cons (pv 1) pa_nil))) (pg_name (i := 2) scLper.nd rfl (.inl rfl))
      (pss_one (ps_while PassesOwn.never (pw_and (pt_cmpR op_eq (pe_op op_mod (pv 1) (pv 2)) pe_int (nomark _)) (pw_and1 (pt_val (Dround.call (hr.mono (by decide)) (pa_cons (pv 0) (pa_cons (pe_op op_fdiv (pv 1) (pv 2)) pa_nil)))))).pt
      (pss_one (ps_set (i := 1) scLper.nd rfl (.inl rfl) (pe_op op_fdiv (pv 1) (pv 2)))))))
      (pss_one (ps_ret (pv 1))))), ?_⟩
    refine ⟨_, rfl, a, _, rfl, len_bls hB, ?_⟩
    refine ⟨_, rfl, bs.length, by rw [List.length_map]; rfl, hL1, hL2, fun r ps H1 hr0 hA hok sm => ?_⟩
    refine ⟨r, rfl, ⟨_, .inl (.inl hA)⟩, for_list (K := K) (a := r) (xs := ps.map fun p : Nat => V.int (p : Int)) (fun i σ H' => ∃ (m : Nat) (y : Option V), σ = [some (.ref a), some (.int m), y] ∧ H' r = some (.lst (ps.map fun p : Nat => V.int (p : Int))) ∧ Same H H' ∧ 1 ≤ m ∧ m ∣ bs.length ∧ PerF (led bs) m ∧
      ∀ (j p : Nat), j < i → ps[j]? = some p → p ∣ m → ¬ PerF (led bs) (m / p)) ⟨bs.length, none, by rw [List.length_map]; rfl, hA, sm, hL1, Nat.dvd_refl _, led_self bs, fun j p hj => absurd hj (Nat.not_lt_zero j)⟩ (fun i σ H' _ ⟨m, y, _, h, _⟩ => .inl (.inl h)) ?_ ?_⟩
    · rintro i x σ H2 hi ⟨m, y, rfl, hA2, sm2, m1, mL, hper, hn⟩
      rw [List.getElem?_map] at hi
      obtain ⟨p, hp, rfl⟩ := Option.map_eq_some_iff.mp hi
      obtain ⟨p2, pL⟩ := hok.1 p (List.mem_of_getElem? hp)
      have pl : p ≤ bs.length := Nat.le_of_dvd (by omega) pL
      refine ⟨fun k σ H' => ∃ m' : Nat, k = m' ∧ σ = [some (.ref a), some (.int m'), some (.int p)] ∧ H' r = some (.lst (ps.map fun p : Nat => V.int (p : Int))) ∧ Same H H' ∧ 1 ≤ m' ∧ m' ∣ m ∧ PerF (led bs) m', ⟨m, m, rfl, rfl, hA2, sm2, m1, Nat.dvd_refl _, hper⟩, fun k σ H3 hW => ?_⟩
      obtain ⟨m', rfl, rfl, hA3, sm3, m1', md, hper'⟩ := hW
      have fin : ∀ H4, H4 r = some (.lst (ps.map fun p : Nat => V.int (p : Int))) → Same H H4 → (p ∣ k → ¬ PerF (led bs) (k / p)) → ∃ (m : Nat) (y : Option V), [some (V.ref a), some (V.int k), some (V.int p)] = [some (.ref a), some (.int m), y] ∧ H4 r = some (.lst (ps.map fun p : Nat => V.int (p : Int))) ∧ Same H H4 ∧ 1 ≤ m ∧ m ∣ bs.length ∧ PerF (led bs) m ∧
          ∀ (j p : Nat), j < i + 1 → ps[j]? = some p → p ∣ m → ¬ PerF (led bs) (m / p) := fun H4 h4 s4 hpk => by
        refine ⟨k, _, rfl, h4, s4, m1', Nat.dvd_trans md mL, hper', fun j p' hj hp' hpd hper2 => ?_⟩
        rcases Nat.lt_or_ge j i with z | z
        · exact hn j p' z hp' (Nat.dvd_trans hpd md) (hper2.keep (by have := (hok.1 p' (List.mem_of_getElem? hp')).1; omega) md hpd)
        · have e : j = i := by omega
          rw [e, hp] at hp'
          injection hp' with hp'
          subst hp'
          exact hpk hpd hper2
      refine ⟨_, rfl, _, rfl, _, _, rfl, rfl, show (0 : Int) < (p : Int) by omega, rfl, _, rfl, ?_⟩
      rw [hmod_nat (by omega)]
      by_cases hd : p ∣ k
      · rw [decide_eq_true hd]
        have kp : k / p ≤ bs.length := Nat.le_trans (Nat.div_le_self _ _) (Nat.le_of_dvd (by omega) (Nat.dvd_trans md mL))
        have kd : k / p ∣ bs.length := Nat.dvd_trans ⟨p, (Nat.div_mul_cancel hd).symm⟩ (Nat.dvd_trans md mL)
        refine iteT ⟨_, rfl, _, rfl, _, rfl, _, _, rfl, rfl, ⟨show (0 : Int) < (p : Int) by omega, show (p : Int) < 1073741824 by omega⟩, a, bs, k / p, rfl, hB.same sm3, kp, fun H4 s4 => ⟨_, rfl, ?_⟩⟩
        have sm4 := sm3.trans s4
        have hA4 := s4 _ _ hA3
        by_cases hrd : Round bs (k / p) = true
        · rw [hrd]
          have hk1 : 1 ≤ k / p := Nat.div_pos (Nat.le_of_dvd (by omega) hd) (by omega)
          refine iteT ⟨fun σ' H' => σ' = [some (.ref a), some (.int ((k / p : Nat) : Int)), some (.int p)] ∧ H' r = some (.lst (ps.map fun p : Nat => V.int (p : Int))) ∧ Same H H', fun σ' H' hz => ?_, ?_⟩
          · obtain ⟨rfl, h5, s5⟩ := hz
            exact ⟨k / p, Nat.div_lt_self (by omega) (by omega), _, rfl, rfl, h5, s5, hk1, Nat.dvd_trans ⟨p, (Nat.div_mul_cancel hd).symm⟩ md, (round_per hL1 kd).mp hrd⟩
          · exact ⟨_, rfl, _, rfl, _, _, rfl, rfl, ⟨show (0 : Int) < (p : Int) by omega, show (p : Int) < 1073741824 by omega⟩, rfl, hA4, sm4⟩
        · rw [Bool.eq_false_iff.mpr hrd]
          exact iteF (fin _ hA4 sm4 fun _ hz => hrd ((round_per hL1 kd).mpr hz))
      · rw [decide_eq_false hd]
        refine iteF ?_
        exact fin _ hA3 sm3 fun z => absurd z hd
    · rintro σ H2 ⟨m, y, rfl, hA2, sm2, m1, mL, hper, hn⟩
      refine ⟨_, rfl, q m H2 m1 mL hper (least_of hok hL1 mL hper fun p hp => ?_) sm2⟩
      obtain ⟨j, hj, rfl⟩ := List.getElem_of_mem hp
      exact hn j _ (by rw [List.length_map]; exact hj) (List.getElem?_eq_getElem hj)
/-! ### _least_start -/
def spLstart (K : PySem.W.Frag) : Sp := fun vs H Q _ => ∃ (a b : Addr) (bs rs : List Bool), vs = [.ref a, .ref b] ∧ Bls K H a bs ∧ Bls K H b rs ∧ 1 ≤ rs.length ∧ bs.length ≤ 1000000 ∧ rs.length ≤ 1000000 ∧ ∀ (s : Nat) H', Same H H' → StartOk bs rs s → Q (.int s) H'
theorem scLstart : FnScope ["below", "rests", "size", "truths", "later", "low", "high", "middle"] ["below", "rests"] (defScope sLstart) := ⟨rfl, rfl, rfl, by decide +kernel, rfl, by decide +kernel, by decide +kernel⟩
theorem df_lstart (A : At K mg "_least_start" sLstart) (T : TxtW mg) : Df P w K mg base 1 "_least_start" ["below", "rests"] (spLstart K) := by
  obtain ⟨f, fd, hm, F⟩ := A.ex
  refine ⟨f, fd, hm, F.kp, F.binds (fun _ _ _ _ _ _ us hl => match us, hl with | [_, _], _ => rfl), F.ok scLstart (fun vs H Q E h => ?_) (fun cdv A outer s H vs Q E hr h => ?_)⟩
  · obtain ⟨a, b, bs, rs, rfl, _⟩ := h
    rfl
  · obtain ⟨a, b, bs, rs, rfl, hB, hR, hr1, hb1, hr2, q⟩ := h
    refine ⟨_, (pss_cons (ps_set (i := 2) scLstart.nd rfl (.inl rfl) (pe_callB call_len_seq (by rfl) T.len PySem.boot_len (pa_cons (pv 0) pa_nil)))
      (pss_cons (ps_if (pw_or (pt_cmpR op_eq (pv 2) pe_int (nomark _)) (pw_or1 (pt_cmpR op_ne (pe_ix ix_seq (pv 0) (pe_op op_sub (pv 2) pe_int) (fun _ _ => rfl)) (pe_ix ix_seq (pv 1) (pe_op op_mod (pe_op op_sub (pv 2) pe_int) (pe_callB call_len_seq (by rfl) T.len PySem.boot_len (pa_cons (pv 1) pa_nil))) (fun _ _ => rfl)) (nomark _)))).pt (pss_one (ps_ret (pv 2))) pss_nil)
      (pss_cons (ps_set (i := 3) scLstart.nd rfl (.inl rfl) (pe_callTy call_list_of (by rfl) T.list (by decide +kernel) (pa_cons (pv 0) pa_nil)))
      (pss_cons (ps_set (i := 4) scLstart.nd rfl (.inl rfl) (pe_slice sl_list (pe_op op_rep (pe_callTy call_list_of (by rfl) T.list (by decide +kernel) (pa_cons (pv 1) pa_nil)) (pe_op op_add (pe_op op_fdiv (pv 2) (pe_callB call_len_seq (by rfl) T.len PySem.boot_len (pa_cons (pv 1) pa_nil))) pe_int)) po_none (po_some (pv 2))))
      (pss_cons (ps_par (i := 5) (j := 6) (by rfl) scLstart.nd rfl rfl (by decide) rfl rfl (pa_cons pe_int (pa_cons (pv 2) pa_nil)) (by rfl))
      (pss_cons (ps_while PassesOwn.never (pt_cmpR op_lt (pv 5) (pv 6) (nomark _))
      (pss_cons (ps_set (i := 7) scLstart.nd rfl (.inl rfl) (pe_op op_fdiv (pe_op op_add (pv 5) (pv 6)) pe_int))
      (pss_one (ps_if (pt_cmpR (op_eqD hr.units) (pe_slice sl_list (pv 3) (po_some (pv 7)) po_none) (pe_slice sl_list (pv 4) (po_some (pv 7)) po_none) (nomark _)) (pss_one (ps_set (i := 6) scLstart.nd rfl (.inl rfl) (pv 7))) (pss_one (ps_set (i := 5) scLstart.nd rfl (.inl rfl) (pe_op op_add (pv 7) pe_int)))))))
      (pss_one (ps_ret (pv 5))))))))), ?_⟩
    refine ⟨_, rfl, a, _, rfl, len_bls hB, ?_⟩
    rw [List.length_map]
    obtain ⟨s0, hs0, hS⟩ := start_ex bs rs bs.length (Nat.le_refl _) (fun k h1 h2 => absurd h2 (by omega))
    refine ⟨_, rfl, rfl, _, rfl, ?_⟩
    by_cases hz : bs.length = 0
    · rw [decide_eq_true (show V.int (bs.length : Int) = V.int 0 by rw [hz]; rfl)]
      refine iteT ⟨_, rfl, ?_⟩
      have e : s0 = bs.length := by omega
      exact q bs.length H (Same.refl H) (e ▸ hS)
    rw [decide_eq_false (show ¬ V.int (bs.length : Int) = V.int 0 from fun z => by injection z with z; omega)]
    refine iteF ?_
    obtain ⟨n, hn⟩ : ∃ n, bs.length = n + 1 := ⟨bs.length - 1, by omega⟩
    have en : ((bs.length : Nat) : Int) - 1 = (n : Int) := by omega
    have h0 := Int.emod_nonneg (n : Int) (show (rs.length : Int) ≠ 0 by omega)
    have h1 := Int.emod_lt_of_pos (n : Int) (show (0 : Int) < (rs.length : Int) by omega)
    have em : ((n : Int) % (rs.length : Int)).toNat = n % rs.length := by rw [← Int.natCast_emod]; rfl
    refine ⟨_, rfl, _, rfl, _, _, rfl, rfl, ix_bls hB (by omega) (by omega) ?_⟩
    refine ⟨_, rfl, _, rfl, _, _, rfl, rfl, _, rfl, b, _, rfl, len_bls hR, _, _, rfl, rfl, by rw [List.length_map]; omega, ?_⟩
    dsimp only
    rw [List.length_map, en]
    refine ix_bls hR h0 h1 ⟨rfl, _, rfl, ?_⟩
    rw [em, show ((n : Nat) : Int).toNat = n from rfl, show rs.getD (n % rs.length) false = led rs n from rfl]
    by_cases hx : ¬ bs.getD n false = led rs n
    · rw [decide_eq_false (fun z => hx (by injection z))]
      refine iteT ⟨_, rfl, q bs.length H (Same.refl H) ⟨Nat.le_refl _, fun k h1 h2 => absurd h2 (by omega), .inr (by rw [hn, Nat.add_sub_cancel]; exact hx)⟩⟩
    rw [decide_eq_true (congrArg V.bl (Classical.not_not.mp hx))]
    refine iteF ?_
    -- truths
    refine ⟨_, rfl, a, _, rfl, hB, fun l1 hl1 => ?_⟩
    have s1 := same_new (o := .lst (bs.map V.bl)) hl1
    have e1 : (upd H l1 (.lst (bs.map V.bl))) l1 = some (.lst (bs.map V.bl)) := upd_same
    generalize upd H l1 (.lst (bs.map V.bl)) = H1 at s1 e1 ⊢
    -- later
    refine ⟨_, rfl, b, _, rfl, hR.same s1, fun l2 hl2 => ?_⟩
    have s2 := s1.trans (same_new (o := .lst (rs.map V.bl)) hl2)
    have e1 := same_new (o := .lst (rs.map V.bl)) hl2 _ _ e1
    have e2 : (upd H1 l2 (.lst (rs.map V.bl))) l2 = some (.lst (rs.map V.bl)) := upd_same
    generalize upd H1 l2 (.lst (rs.map V.bl)) = H2 at s2 e1 e2 ⊢
    refine ⟨_, rfl, _, rfl, b, _, rfl, hR.same s2, ?_⟩
    rw [List.length_map]
    have ek : ((bs.length : Int) / (rs.length : Int) + 1) = ((bs.length / rs.length + 1 : Nat) : Int) := rfl
    have hrep : rs.length * (bs.length / rs.length + 1) ≤ 2000000 := by
      have := Nat.div_mul_le_self bs.length rs.length
      rw [Nat.mul_comm] at this
      rw [Nat.mul_succ]
      omega
    have hdiv : bs.length / rs.length ≤ bs.length := Nat.div_le_self _ _
    refine ⟨_, _, rfl, rfl, ⟨by omega, by omega⟩, _, _, rfl, rfl, ?_⟩
    dsimp only
    rw [ek]
    have hk0 := Int.natCast_nonneg (bs.length / rs.length + 1)
    have hk1 : ((bs.length / rs.length + 1 : Nat) : Int) ≤ 1000001 := Int.ofNat_le.mpr (show bs.length / rs.length + 1 ≤ 1000001 by omega)
    refine ⟨l2, _, _, rfl, rfl, e2, Int.le_trans (by decide) hk0, Int.lt_of_le_of_lt hk1 (by decide), ?_, fun l3 hl3 => ?_⟩
    · rw [List.length_map, Int.toNat_natCast]
      exact Nat.le_trans hrep (by decide)
    have ef : (List.replicate ((bs.length / rs.length + 1 : Nat) : Int).toNat (rs.map V.bl)).flatten = ((List.replicate (bs.length / rs.length + 1) rs).flatten).map V.bl := by
      rw [List.map_flatten, List.map_replicate]; rfl
    rw [ef]
    have s3 := s2.trans (same_new (o := .lst (((List.replicate (bs.length / rs.length + 1) rs).flatten).map V.bl)) hl3)
    have e1 := same_new (o := .lst (((List.replicate (bs.length / rs.length + 1) rs).flatten).map V.bl)) hl3 _ _ e1
    have e3 : (upd H2 l3 (.lst (((List.replicate (bs.length / rs.length + 1) rs).flatten).map V.bl))) l3 = some (.lst (((List.replicate (bs.length / rs.length + 1) rs).flatten).map V.bl)) := upd_same
    generalize upd H2 l3 (.lst (((List.replicate (bs.length / rs.length + 1) rs).flatten).map V.bl)) = H3 at s3 e1 e3 ⊢
    have hlen : bs.length ≤ (List.replicate (bs.length / rs.length + 1) rs).flatten.length := by
      rw [rep_len, Nat.mul_succ]
      have := Nat.div_add_mod bs.length rs.length
      have := Nat.mod_lt bs.length (show 0 < rs.length by omega)
      omega
    refine ⟨_, rfl, _, rfl, l3, _, rfl, .inl (.inl e3), fun l4 hl4 => ?_⟩
    rw [cut_hi _ _ hlen, rep_take hr1]
    have s4 := s3.trans (same_new (o := .lst (((List.range bs.length).map (led rs)).map V.bl)) hl4)
    have e1 := same_new (o := .lst (((List.range bs.length).map (led rs)).map V.bl)) hl4 _ _ e1
    have e4 : (upd H3 l4 (.lst (((List.range bs.length).map (led rs)).map V.bl))) l4 = some (.lst (((List.range bs.length).map (led rs)).map V.bl)) := upd_same
    generalize upd H3 l4 (.lst (((List.range bs.length).map (led rs)).map V.bl)) = H4 at s4 e1 e4 ⊢
    refine ⟨_, rfl, _, _, rfl, ?_⟩
    refine ⟨fun d σ H' => Same H H' ∧ H' l1 = some (.lst (bs.map V.bl)) ∧ H' l4 = some (.lst (((List.range bs.length).map (led rs)).map V.bl)) ∧ ∃ (lo hi : Nat) (y : Option V), σ = [some (.ref a), some (.ref b), some (.int (bs.length : Int)), some (.ref l1), some (.ref l4), some (.int (lo : Int)), some (.int (hi : Int)), y] ∧ lo ≤ s0 ∧ s0 ≤ hi ∧ hi ≤ bs.length ∧ d = hi - lo,
      ⟨bs.length, s4, e1, e4, 0, bs.length, none, rfl, Nat.zero_le _, hs0, Nat.le_refl _, rfl⟩, fun d σ H' hW => ?_⟩
    obtain ⟨s5, e1, e4, lo, hi, y, rfl, h1, h2, h3, rfl⟩ := hW
    refine ⟨_, rfl, _, rfl, _, _, rfl, rfl, _, rfl, ?_⟩
    by_cases hlt : lo < hi
    · rw [decide_eq_true (show (lo : Int) < (hi : Int) by omega)]
      refine iteT ⟨fun σ' H2 => ∃ d', d' < hi - lo ∧ (Same H H2 ∧ H2 l1 = some (.lst (bs.map V.bl)) ∧ H2 l4 = some (.lst (((List.range bs.length).map (led rs)).map V.bl)) ∧ ∃ (lo' hi' : Nat) (y : Option V), σ' = [some (.ref a), some (.ref b), some (.int (bs.length : Int)), some (.ref l1), some (.ref l4), some (.int (lo' : Int)), some (.int (hi' : Int)), y] ∧ lo' ≤ s0 ∧ s0 ≤ hi' ∧ hi' ≤ bs.length ∧ d' = hi' - lo'), fun σ' H2 h => h, ?_⟩
      refine ⟨_, rfl, _, rfl, _, _, rfl, rfl, _, _, rfl, rfl, ⟨by decide, by decide⟩, ?_⟩
      have emid : (((lo : Int) + (hi : Int)) / 2) = (((lo + hi) / 2 : Nat) : Int) := by omega
      dsimp only
      rw [emid]
      obtain ⟨mid, hmid⟩ : ∃ mid, (lo + hi) / 2 = mid := ⟨_, rfl⟩
      rw [hmid]
      have m1 : lo ≤ mid := by omega
      have m2 : mid < hi := by omega
      refine ⟨_, rfl, _, rfl, _, rfl, l1, _, rfl, .inl (.inl e1), fun l5 hl5 => ?_⟩
      rw [cut_lo bs mid (by omega)]
      have s6 := s5.trans (same_new (o := .lst ((bs.drop mid).map V.bl)) hl5)
      have e1 := same_new (o := .lst ((bs.drop mid).map V.bl)) hl5 _ _ e1
      have e4 := same_new (o := .lst ((bs.drop mid).map V.bl)) hl5 _ _ e4
      have e5 : (upd H' l5 (.lst ((bs.drop mid).map V.bl))) l5 = some (.lst ((bs.drop mid).map V.bl)) := upd_same
      generalize upd H' l5 (.lst ((bs.drop mid).map V.bl)) = H5 at s6 e1 e4 e5 ⊢
      refine ⟨_, rfl, _, rfl, _, rfl, l4, _, rfl, .inl (.inl e4), fun l6 hl6 => ?_⟩
      rw [cut_lo ((List.range bs.length).map (led rs)) mid (by rw [List.length_map, List.length_range]; omega)]
      have s7 := s6.trans (same_new (o := .lst ((((List.range bs.length).map (led rs)).drop mid).map V.bl)) hl6)
      have e1 := same_new (o := .lst ((((List.range bs.length).map (led rs)).drop mid).map V.bl)) hl6 _ _ e1
      have e4 := same_new (o := .lst ((((List.range bs.length).map (led rs)).drop mid).map V.bl)) hl6 _ _ e4
      have e5 := same_new (o := .lst ((((List.range bs.length).map (led rs)).drop mid).map V.bl)) hl6 _ _ e5
      have e6 : (upd H5 l6 (.lst ((((List.range bs.length).map (led rs)).drop mid).map V.bl))) l6 = some (.lst ((((List.range bs.length).map (led rs)).drop mid).map V.bl)) := upd_same
      generalize upd H5 l6 (.lst ((((List.range bs.length).map (led rs)).drop mid).map V.bl)) = H6 at s7 e1 e4 e5 e6 ⊢
      refine ⟨_, _, .lst (.inl (.inl e5)) (dp_bls _), .lst (.inl (.inl e6)) (dp_bls _), (sh_list (can_bls _).1 (can_bls _).2).1, (sh_list (can_bls _).1 (can_bls _).2).1, _, rfl, ?_⟩
      rw [show PyData.eqv (.list ((bs.drop mid).map PyData.bool)) (.list ((((List.range bs.length).map (led rs)).drop mid).map PyData.bool)) = decide (bs.drop mid = ((List.range bs.length).map (led rs)).drop mid) from eqv_bls _ _]
      by_cases hc : s0 ≤ mid
      · rw [decide_eq_true (drop_agree.mpr ((start_agree hS (by omega)).mpr hc))]
        exact iteT ⟨_, rfl, mid - lo, by omega, s7, e1, e4, lo, mid, _, rfl, h1, hc, by omega, rfl⟩
      · rw [decide_eq_false (fun z => hc ((start_agree hS (by omega)).mp (drop_agree.mp z)))]
        exact iteF ⟨_, rfl, _, _, rfl, rfl, hi - (mid + 1), by omega, s7, e1, e4, mid + 1, hi, _, rfl, by omega, h2, h3, rfl⟩
    · rw [decide_eq_false (show ¬ (lo : Int) < (hi : Int) by omega)]
      have e : lo = s0 := by omega
      subst e
      exact iteF ⟨_, rfl, q _ _ s5 hS⟩
end
end Ef
set_option Elab.async false
set_option linter.all false
/-! x is not True, for any x -/
namespace Ef
open PySem PySem.Spec PyProof.Rows L2
/-- no truth value -/
def NoBl : V → Prop
  | .int _ => True
  | .non => True
  | .str _ => True
  | .ref _ => True
  | _ => False
def rNotX : R2 := fun x y H Q => ∃ b : Bool, y = .bl b ∧ ((∃ a : Bool, x = .bl a ∧ Q (.bl (!decide (a = b))) H) ∨ (NoBl x ∧ Q (.bl true) H))
theorem op_notX {X : Cx} : OpR X (compareOp .IsNot) rNotX := by
  intro pins s σ H x y v u Q I rx ry h
  obtain ⟨b, rfl, ⟨a, rfl, q⟩ | ⟨hn, q⟩⟩ := h
  · exact op_notBl pins s σ H _ _ v u Q I rx ry ⟨a, b, rfl, rfl, q⟩
  · cases ry
    have fin : isSame v (.bool b) = pure false → wpAny (model X.prog X.w) X.A (compareOp .IsNot v (.bool b)) (EP X pins σ Q) X.xe s := fun e => by
      show wpAny _ _ (isSame v (.bool b) >>= fun z => pure (Value.bool !z)) _ _ _
      rw [e]
      exact wpAny_bind (wpAny_pure (wpAny_pure ⟨.bl true, H, I, rfl, q⟩))
    cases x with
    | int i =>
      obtain ⟨t, rfl⟩ := rx
      exact fin rfl
    | non => cases rx; exact fin rfl
    | str x =>
      obtain ⟨t, rfl⟩ := rx
      exact fin rfl
    | ref a => cases rx; exact fin rfl
    | _ => exact hn.elim
end Ef
set_option Elab.async false
set_option linter.all false
/-! x is not True, for any x at all -/
namespace Ef
open PySem PySem.Spec PyProof.Rows L2
def rNotA : R2 := fun x y H Q => ∃ b : Bool, y = .bl b ∧ ((∃ a : Bool, x = .bl a ∧ Q (.bl (!decide (a = b))) H) ∨ ((∀ c, x ≠ .bl c) ∧ Q (.bl true) H))
theorem op_notA {X : Cx} : OpR X (compareOp .IsNot) rNotA := by
  intro pins s σ H x y v u Q I rx ry h
  obtain ⟨b, rfl, ⟨a, rfl, q⟩ | ⟨hn, q⟩⟩ := h
  · exact op_notBl pins s σ H _ _ v u Q I rx ry ⟨a, b, rfl, rfl, q⟩
  · cases ry
    have fin : isSame v (.bool b) = pure false → wpAny (model X.prog X.w) X.A (compareOp .IsNot v (.bool b)) (EP X pins σ Q) X.xe s := fun e => by
      show wpAny _ _ (isSame v (.bool b) >>= fun z => pure (Value.bool !z)) _ _ _
      rw [e]
      exact wpAny_bind (wpAny_pure (wpAny_pure ⟨.bl true, H, I, rfl, q⟩))
    cases x with
    | bl c => exact absurd rfl (hn c)
    | int i =>
      obtain ⟨t, rfl⟩ := rx
      exact fin rfl
    | non => cases rx; exact fin rfl
    | str x =>
      obtain ⟨t, rfl⟩ := rx
      exact fin rfl
    | ref a => cases rx; exact fin rfl
    | byt x => obtain ⟨t, rfl⟩ := rx; exact fin rfl
    | flt x => obtain ⟨t, rfl⟩ := rx; exact fin rfl
    | ty x => cases rx; exact fin rfl
theorem NoBl.all {v : V} (h : NoBl v) : ∀ c, v ≠ .bl c := fun c e => by subst e; exact h
end Ef
set_option Elab.async false
set_option linter.all false
/-! the places at which there is no truth -/
namespace Ef
open PySem PySem.Spec PyProof.Rows L2
def isB : V → Bool
  | .bl _ => true
  | _ => false
theorem isB_not {v : V} (h : ∀ c, v ≠ .bl c) : isB v = false := by
  cases v with
  | bl c => exact absurd rfl (h c)
  | _ => rfl
/-- the wrong places below i -/
def wrongs (xs : List V) (i : Nat) : List Nat := (List.range i).filter fun j => match xs[j]? with | some v => !isB v | none => false
theorem wrongs_succ {xs : List V} {i : Nat} {v : V} (h : xs[i]? = some v) : wrongs xs (i + 1) = wrongs xs i ++ (if isB v = true then [] else [i]) := by
  unfold wrongs
  rw [List.range_succ, List.filter_append]
  congr 1
  simp only [List.filter, h]
  cases isB v <;> rfl
theorem wrongs_len (xs : List V) (i : Nat) : (wrongs xs i).length ≤ i := by
  unfold wrongs
  refine Nat.le_trans (List.length_filter_le _ _) ?_
  rw [List.length_range]; exact Nat.le_refl i
theorem wrongs_bls (bs : List Bool) (ys : List V) : ∀ i, i ≤ bs.length → wrongs (bs.map V.bl ++ ys) i = []
  | 0, _ => rfl
  | i + 1, h => by
    have hx : (bs.map V.bl ++ ys)[i]? = some (.bl (bs[i]'(by omega))) := by
      rw [List.getElem?_append_left (by rw [List.length_map]; omega), List.getElem?_map, List.getElem?_eq_getElem (by omega)]; rfl
    rw [wrongs_succ hx, wrongs_bls bs ys i (by omega)]
    rfl
theorem wrongs_all (bs : List Bool) : wrongs (bs.map V.bl) (bs.map V.bl).length = [] := by
  have := wrongs_bls bs [] bs.length (Nat.le_refl _)
  rw [List.append_nil] at this
  rw [List.length_map]
  exact this
theorem wrongs_mono (xs : List V) (i k : Nat) : ∃ zs, wrongs xs (i + k) = wrongs xs i ++ zs := by
  unfold wrongs
  rw [List.range_add, List.filter_append]
  exact ⟨_, rfl⟩
theorem wrongs_head {bs : List Bool} {v : V} {ys : List V} (hv : ∀ c, v ≠ .bl c) : ∃ zs, wrongs (bs.map V.bl ++ v :: ys) (bs.map V.bl ++ v :: ys).length = bs.length :: zs := by
  have hx : (bs.map V.bl ++ v :: ys)[bs.length]? = some v := by
    rw [List.getElem?_append_right (by rw [List.length_map]; exact Nat.le_refl _), List.length_map, Nat.sub_self]; rfl
  obtain ⟨zs, hz⟩ := wrongs_mono (bs.map V.bl ++ v :: ys) (bs.length + 1) ys.length
  rw [wrongs_succ hx, wrongs_bls bs _ _ (Nat.le_refl _), isB_not hv] at hz
  refine ⟨zs, ?_⟩
  rw [List.length_append, List.length_map, List.length_cons, show bs.length + (ys.length + 1) = bs.length + 1 + ys.length by omega, hz]
  rfl
end Ef
set_option Elab.async false
set_option linter.all false
set_option maxRecDepth 100000
set_option maxHeartbeats 2000000
/-! try with several clauses, each with a name -/
namespace Ef
open PySem PySem.Spec PyProof.Rows L2
abbrev AsC := Value × Nat × (Addr → Value → Option Addr → TS)
/-- the ends of a named clause: its name is gone behind it -/
def EndsAs (i : Nat) (D : Ends) : Ends := { nx := fun σ' H' => D.nx (σ'.set i none) H', rt := D.rt, bk := fun σ' H' => D.bk (σ'.set i none) H', ct := fun σ' H' => D.ct (σ'.set i none) H' }
def wAsL (K : PySem.W.Frag) (Wout : WX) (D : Ends) : List AsC → WX
  | [] => Wout
  | (c, i, ts) :: r => fun cls d σ H => ∃ b, PySem.W.exmOne K cls c = some b ∧ (b = true → ∀ a, H a = none → ts a cls d (EndsAs i D) (σ.set i (some (.ref a))) H) ∧ (b = false → wAsL K Wout D r cls d σ H)
inductive HdsAs (X : Cx) : List ExceptHandler → List AsC → Prop
  | nil : HdsAs X [] []
  | cons {x n : Str} {c : Value} {i : Nat} {ts : Addr → Value → Option Addr → TS} {b₀ : Stmt} {suite : List Stmt} {np pos' : Pos} {hds : List ExceptHandler} {l : List AsC}
      (hi : X.N[i]? = some n) (hln : X.env.kindOf n = some NameKind.local) (hc : Names X x c)
      (hsu : ∀ (a : Addr) (oe : Obj) (cls : Value) (d : Option Addr) (pn : List (Addr × Obj)), Zc cls d oe → (∃ vs, oe.data = Data.fields vs) → PSs (X.suite a ((a, oe) :: pn)) (b₀ :: suite) (ts a cls d))
      (r : HdsAs X hds l) : HdsAs X (ExceptHandler.ExceptHandler (some (Expr.Name x np)) (some n) (b₀ :: suite) pos' :: hds) ((c, i, ts) :: l)
/-- what stands when a clause is looked for -/
structure LandAs (X : Cx) (pins : List (Addr × Obj)) (σ : L2.St) (H : Hp) (sI : Shared) (B : Heap) (a : Addr) (cls : Value) (d : Option Addr) (s : Shared) : Prop where
  J : Inv X pins σ H sI
  nb : ∀ (b : Addr) (o : Obj), sI.heap.get? b = some o → ¬b ∈ frs X.stack → B.get? b = some o
  up : sI.heap.UpToSlots s.heap
  fl : PySem.HandSPX.FlyingZ B (X.env :: X.outer) a (Zc cls d) s.heap
  na : H a = none
  os : s.os = sI.os
  ag : PyProof.Rows.AllBare s.gens
theorem handle_as {X : Cx} {pins : List (Addr × Obj)} {σ : L2.St} {H : Hp} {sI : Shared} {B : Heap} {a : Addr} {cls : Value} {d : Option Addr} {D : Ends} {Wout : WX} (hs : X.stack = X.env :: X.outer) (hf : X.env.frame = some X.env.locals) (hN : X.N.Nodup) (tk : Takes X Wout) :
    ∀ {hds : List ExceptHandler} {l : List AsC}, HdsAs X hds l → ∀ {s : Shared}, LandAs X pins σ H sI B a cls d s → wAsL X.K Wout D l cls d σ H →
      wpAny (model X.prog X.w) X.A (handleBy (.ref a) X.env hds) (SP X pins D) X.xe s := by
  intro hds l hh
  induction hh with
  | nil =>
    intro s L h
    have k := id L.fl
    obtain ⟨k1, k2, k3, oe, vs, T, oT, ts', he, hz, hd, h1, hr⟩ := k
    refine wpAny_handleBy_nil ?_
    refine wpAny_bind (wpAny_field he hd h1 ?_)
    rw [if_neg (by simp)]
    refine wpAny_bind ?_
    rw [hf]
    refine PySem.HandSPX.setFlight_upZ L.fl fun h4 hh4 up4 => wpAny_throw (tk _ _ ⟨a, B, sI, pins, σ, H, cls, d, rfl, L.J, L.nb, Heap.UpToSlots.trans L.up up4, Or.inr (Or.inr (by rw [hs]; exact hh4)), L.na, L.os, L.ag, h⟩)
  | @cons x n c i ts b₀ suite np pos' hds l hi hln hc hsu r ih =>
    intro s L h
    have ok := L.J.ok
    have hloc : L2.Loc X.env.scope n := Or.inl hln
    have J3 := Inv.landed L.J L.nb L.fl.1 L.up L.os L.ag
    obtain ⟨oe3, vs3, he3, hz3, hd3⟩ := L.fl.there
    have notFr : ∀ {h' : Heap} {oe : Obj} {vs : Array Value}, h'.FunFrames B (X.env :: X.outer) → h'.get? a = some oe → oe.data = Data.fields vs → a ∉ List.filterMap (fun (x : Env) => x.frame) (X.env :: X.outer) := fun ff e dd hm => by
      obtain ⟨_, o', e', hnf⟩ := Heap.FunFrames.mem ff hm
      rw [e] at e'
      cases e'
      exact hnf _ dd
    have nfr := notFr L.fl.2.2.1 he3 hd3
    have nL : a ≠ X.env.locals := fun z => nfr (List.mem_filterMap.mpr ⟨X.env, List.mem_cons_self, by rw [hf, z]⟩)
    have nF : a ∉ X.fs := fun hm => by
      obtain ⟨e, he, q⟩ := List.mem_filterMap.mp hm
      exact nfr (List.mem_filterMap.mpr ⟨e, List.mem_cons_of_mem _ he, q⟩)
    have S3 := Inv.suite J3 he3 hd3 L.na nL nF
    obtain ⟨b, hb1, hyes, hno⟩ := h
    refine wpAny_handleBy_cons (codeAny_handlers_test ?_) (fun q => nomatch q)
    have LM : PySem.W.Looks (model X.prog X.w) s.heap (excMatches (.ref a) c) b := PySem.W.exm_one J3.kIn (fun A Q E s k q => wpAny_typeOf_ref (k a oe3 he3) (by rw [hz3.1]; exact q)) hb1
    have test : ∀ {Q E}, Q c s → wpAny (model X.prog X.w) (X.suite a ((a, oe3) :: (X.pn ++ pins))).A (eval (.Name x np) X.env) Q E s := fun {Q E} q => by
      obtain ⟨hg, hdbg, hm | ⟨hm, hv, hnn⟩⟩ := hc
      · exact ld_glob S3 hg hm q hdbg
      · exact ld_blt S3 hg hm hv q hnn hdbg
    refine test (LM.here ?_)
    cases b with
    | false => exact ih L (hno rfl)
    | true =>
      refine codeAny_handlers_suite_as (PySem.HandSPX.lands_againZ L.fl fun h4 fl4 up4 => ?_)
      have J4 := Inv.landed (s' := { s with heap := h4 }) L.J L.nb fl4.1 (Heap.UpToSlots.trans L.up up4) L.os L.ag
      obtain ⟨oe4, vs4, he4, hz4, hd4⟩ := fl4.there
      have S4 := Inv.suite J4 he4 hd4 L.na nL nF
      refine store_ok (X := X.suite a ((a, oe4) :: (X.pn ++ pins))) (pins := []) (v := .ref a) S4 hN hi hloc rfl (fun s5 S5 => wpAny_mono ((hsu a oe4 cls d (X.pn ++ pins) hz4 ⟨vs4, hd4⟩).run [] s5 (σ.set i (some (.ref a))) H (EndsAs i D) S5 (hyes rfl a L.na)) (fun f s6 hsp => ?_) fun _ _ z => False.elim z) (Or.inr hln)
      have end_ : ∀ {σ6 : L2.St} {H6 : Hp} {Q : Unit → Shared → Prop}, Inv (X.suite a ((a, oe4) :: (X.pn ++ pins))) [] σ6 H6 s6 → (∀ s7, Inv X pins (σ6.set i none) H6 s7 → Q () s7) → wpAny (model X.prog X.w) X.A (do bindName X.env n Value.none; unbindBehindTheSuite X.env n pos') Q X.xe s6 := fun S6 hq => gone_ok (Inv.unsuite S6 ok) hN hi hln hq
      cases f with
      | next => obtain ⟨σ6, H6, S6, q6⟩ := hsp; exact end_ S6 fun s7 J7 => ⟨_, _, J7, q6⟩
      | brk => obtain ⟨σ6, H6, S6, q6⟩ := hsp; exact end_ S6 fun s7 J7 => ⟨_, _, J7, q6⟩
      | cont => obtain ⟨σ6, H6, S6, q6⟩ := hsp; exact end_ S6 fun s7 J7 => ⟨_, _, J7, q6⟩
      | ret u => obtain ⟨v6, σ6, H6, S6, r6, q6⟩ := hsp; exact end_ S6 fun s7 J7 => ⟨v6, _, _, J7, r6, q6⟩
theorem ps_try_asL {X : Cx} {h₀ : ExceptHandler} {hds : List ExceptHandler} {l : List AsC} {body : List Stmt} {pos : Pos} {tb : WX → TS} {Wout : WX} (hs : X.stack = X.env :: X.outer) (hf : X.env.frame = some X.env.locals) (hN : X.N.Nodup) (tk : Takes X Wout)
    (hb : ∀ (W : WX) (pn : List (Addr × Obj)) (xe : Value → Shared → Prop), Takes (X.tr pn xe) W → PassesOwn (model X.prog X.w) X.A X.env xe → PSs (X.tr pn xe) body (tb W)) (hh : HdsAs X (h₀ :: hds) l) :
    PS X (.Try body (h₀ :: hds) [] [] pos) fun D σ H => tb (wAsL X.K Wout D l) D σ H := by
  refine ⟨fun pins s σ H D I h => ?_⟩
  have ok := I.ok
  have hfr : X.A.frames = some (X.env :: X.outer) := by rw [ok.frames, hs]
  refine wpAny_Try_except (wpAny_mono ((hb (wAsL X.K Wout D l) (X.pn ++ pins) _ (fun u s' xx => ?_) PassesOwn.looking).run [] s σ H D (Inv.toTry I _) h) (fun f s1 hsp => ?_) fun e s1 he => he)
  · obtain ⟨a, B, sI, pins', σ', H', cls, d, rfl, J', nb, up, sky, na, os, ag, hw⟩ := xx
    have J := Inv.ofTry J' ok
    have sky' : Sky B (X.env :: X.outer) a (Zc cls d) X.env.locals s'.heap := by rw [← hs]; exact sky
    exact Sky.land Zc.steady hfr hf sky' fun h3 fl3 up3 => handle_as hs hf hN tk hh ⟨J, nb, Heap.UpToSlots.trans up up3, fl3, na, os, ag⟩ hw
  · cases f with
    | next => obtain ⟨σ', H', J', q⟩ := hsp; exact wpAny_execs_nil ⟨σ', H', Inv.ofTry J' ok, q⟩
    | brk => obtain ⟨σ', H', J', q⟩ := hsp; exact ⟨σ', H', Inv.ofTry J' ok, q⟩
    | cont => obtain ⟨σ', H', J', q⟩ := hsp; exact ⟨σ', H', Inv.ofTry J' ok, q⟩
    | ret u => obtain ⟨v, σ', H', J', r, q⟩ := hsp; exact ⟨v, σ', H', Inv.ofTry J' ok, r, q⟩
end Ef
set_option Elab.async false
set_option linter.all false
set_option maxRecDepth 100000
set_option maxHeartbeats 4000000
namespace Ef
open PySem PySem.Spec PyProof.Rows L2
abbrev sInit : Stmt := inClass (top 20) 0
/-- the least period and the least start -/
structure Canon (bs rs : List Bool) (m s : Nat) : Prop where
  m1 : 1 ≤ m
  dvd : m ∣ rs.length
  per : PerF (led rs) m
  least : ∀ d, PerF (led rs) d → m ∣ d
  start : StartOk bs rs s
/-- the attributes -/
def wf (m s : Int) (ra ba ea la : Addr) : List (Str × V) :=
  putF "_late" (.ref la) (putF "_early" (.ref ea) (putF "below" (.ref ba) (putF "rests" (.ref ra) (putF "start" (.int s) (putF "period" (.int m) [])))))
def earlyL (bs : List Bool) (s : Nat) : List Nat := (List.range s).filter fun n => bs.getD n false
def lateL (rs : List Bool) (m s : Nat) : List Nat := ((List.range m).map fun i => s + i).filter fun n => led rs n
/-- at p a Where of the period m, the start s, the truths bs below and rs -/
def WAt (K : PySem.W.Frag) (C : Addr) (H : Hp) (p : Addr) (m s : Nat) (bs rs : List Bool) : Prop := ∃ dx ra ba ea la : Addr,
  H p = some (.ins C dx (wf m s ra ba ea la)) ∧ SqT K H ra ((rs.take m).map V.bl) ∧ SqT K H ba ((bs.take s).map V.bl) ∧ SqT K H ea ((earlyL bs s).map fun n : Nat => V.int (n : Int)) ∧ SqT K H la ((lateL rs m s).map fun n : Nat => V.int (n : Int))
theorem WAt.same {K : PySem.W.Frag} {C : Addr} {H H' : Hp} {p : Addr} {m s : Nat} {bs rs : List Bool} (h : WAt K C H p m s bs rs) (e : Same H H') : WAt K C H' p m s bs rs := by
  obtain ⟨dx, ra, ba, ea, la, h1, h2, h3, h4, h5⟩ := h
  exact ⟨dx, ra, ba, ea, la, e _ _ h1, Same.tup e h2, Same.tup e h3, Same.tup e h4, Same.tup e h5⟩
theorem nm1 : ¬ (("start" : Str) = "period") := by decide +kernel
theorem nm2 : ¬ (("rests" : Str) = "period") := by decide +kernel
theorem nm3 : ¬ (("rests" : Str) = "start") := by decide +kernel
/-- the class, what the text has of it -/
structure ClsW (K : PySem.W.Frag) (mg : Str → Option Value) (C : Addr) : Prop where
  cl : Cls K C
  mgC : mg "Where" = some (.ref C)
  nP : NoAttr K C "period"
  nS : NoAttr K C "start"
  nR : NoAttr K C "rests"
  nB : NoAttr K C "below"
  nE : NoAttr K C "_early"
  nL : NoAttr K C "_late"
structure TxtI (mg : Str → Option Value) : Prop extends TxtW mg where
  MOST_PERIOD : ∃ t, mg "MOST_PERIOD" = some (.int 720 t)
  MOST_START : ∃ t, mg "MOST_START" = some (.int 10000 t)
abbrev sErrT : Stmt := inClass (top 10) 0
abbrev sErrF : Stmt := inClass (top 12) 0
abbrev sErrL : Stmt := inClass (top 13) 0
section
variable {P : Program} {w : World} {K : PySem.W.Frag} {mg : Str → Option Value} {base : Heap}
/-! ### errors with one field -/
/-- the error class x at C with one field f -/
structure ErrF (K : PySem.W.Frag) (mg : Str → Option Value) (x fl : Str) (C fI : Addr) : Prop where
  oex : OexC K C
  mgC : mg x = some (.ref C)
  iC : PySem.W.findIn K (.ref C) "__init__" = some (some (.ref fI))
  tI : PySem.W.typeIn K (.ref fI) = some (.type "function")
  nN : PySem.W.findIn K (.ref C) fl = some none
  xf : XfC K C
def spErr (K : PySem.W.Frag) (C : Addr) (fl : Str) : Sp := fun vs H Q _ => ∃ (a : Addr) (v : V), vs = [.ref a, v] ∧ H a = some (exo a C none) ∧ ∀ dx, H dx = none → dx ≠ a → Q .non (upd (upd H dx (exd dx [(fl, v)])) a (exo a C (some dx)))
/-- an error made and flying -/
theorem mk_err {C : Addr} {fl : Str} {H : Hp} {v : V} {R : XK} (h : ∀ d H', Same H H' → H d = none → H' d = some (.xd [(fl, v)]) → R (.ref C) (some d) H') :
    [v].length ≤ 1000 ∧ ∀ a, H a = none → spErr K C fl (.ref a :: ([v] ++ [])) (upd H a (exo a C none)) (fun v H2 => v = .non ∧ ∃ (d : Addr) (fs : List (Str × V)), H2 a = some (exo a C (some d)) ∧ H2 d = some (exd d fs) ∧ H d = none ∧ R (.ref C) (some d) (upd (del H2 a) d (.xd fs))) (fun _ _ _ => False) := by
  refine ⟨by show 1 ≤ 1000; decide, fun a ha => ⟨a, v, rfl, upd_same, fun dx h1 h2 => ⟨rfl, dx, _, upd_same, by rw [upd_ne h2, upd_same], ?_, ?_⟩⟩⟩
  · rw [upd_ne h2] at h1; exact h1
  · have hdx : H dx = none := by rw [upd_ne h2] at h1; exact h1
    refine h dx _ (fun b o e => ?_) hdx upd_same
    have nb : b ≠ dx := ne_of_none e hdx
    have na : b ≠ a := ne_of_none e ha
    rw [upd_ne nb]
    unfold del
    rw [if_neg na, upd_ne na, upd_ne nb, upd_ne na]
    exact e
/-- a def that may raise, by its name -/
structure DfX (P : Program) (w : World) (K : PySem.W.Frag) (mg : Str → Option Value) (base : Heap) (k : Nat) (x : Str) (ps : List Str) (sp : Sp) (f : Addr) (fd : FuncData) : Prop where
  at_ : mg x = some (.ref f)
  kp : PySem.W.keepIn K (.ref f) = true
  b : Binds K fd ps []
  F : FnOk P w K mg base (CX P w) k f fd ps sp

def Seqs (K : PySem.W.Frag) (H : Hp) (a : Addr) (xs : List V) : Prop := SqL K H a xs ∨ SqT K H a xs
theorem Seqs.same {H H' : Hp} {a : Addr} {xs : List V} (h : Seqs K H a xs) (e : Same H H') : Seqs K H' a xs := h.elim (fun h => .inl (e.seq h)) fun h => .inr (Same.tup e h)
theorem scErrT : FnScope ["self", "index"] ["self", "index"] (defScope sErrT) := ⟨rfl, rfl, rfl, by decide +kernel, rfl, by decide +kernel, by decide +kernel⟩
theorem scErrF : FnScope ["self", "most"] ["self", "most"] (defScope sErrF) := ⟨rfl, rfl, rfl, by decide +kernel, rfl, by decide +kernel, by decide +kernel⟩
theorem scErrL : FnScope ["self", "most"] ["self", "most"] (defScope sErrL) := ⟨rfl, rfl, rfl, by decide +kernel, rfl, by decide +kernel, by decide +kernel⟩
theorem ok_errT {f C fI : Addr} {fd : FuncData} (F : Fun K "__init__" "BadTruth.__init__" sErrT f fd) (T : ErrF K mg "BadTruth" "index" C fI) : FnOk P w K mg base CX0 1 f fd ["self", "index"] (spErr K C "index") := by
  refine F.ok scErrT (fun vs H Q E h => ?_) (fun cdv A outer s H vs Q E hr h => ?_)
  · obtain ⟨a, v, rfl, _⟩ := h
    rfl
  · obtain ⟨a, v, rfl, ha, q⟩ := h
    refine ⟨_, (pss_one (ps_ost (pv 0) (pv 1))), ?_⟩
    exact ⟨_, rfl, _, rfl, a, C, rfl, T.oex, T.nN, .inl ⟨ha, fun dx h1 h2 => q dx h1 h2⟩⟩
theorem ok_errF {f C fI : Addr} {fd : FuncData} (F : Fun K "__init__" "TooFine.__init__" sErrF f fd) (T : ErrF K mg "TooFine" "most" C fI) : FnOk P w K mg base CX0 1 f fd ["self", "most"] (spErr K C "most") := by
  refine F.ok scErrF (fun vs H Q E h => ?_) (fun cdv A outer s H vs Q E hr h => ?_)
  · obtain ⟨a, v, rfl, _⟩ := h
    rfl
  · obtain ⟨a, v, rfl, ha, q⟩ := h
    refine ⟨_, (pss_one (ps_ost (pv 0) (pv 1))), ?_⟩
    exact ⟨_, rfl, _, rfl, a, C, rfl, T.oex, T.nN, .inl ⟨ha, fun dx h1 h2 => q dx h1 h2⟩⟩
theorem ok_errL {f C fI : Addr} {fd : FuncData} (F : Fun K "__init__" "TooLate.__init__" sErrL f fd) (T : ErrF K mg "TooLate" "most" C fI) : FnOk P w K mg base CX0 1 f fd ["self", "most"] (spErr K C "most") := by
  refine F.ok scErrL (fun vs H Q E h => ?_) (fun cdv A outer s H vs Q E hr h => ?_)
  · obtain ⟨a, v, rfl, _⟩ := h
    rfl
  · obtain ⟨a, v, rfl, ha, q⟩ := h
    refine ⟨_, (pss_one (ps_ost (pv 0) (pv 1))), ?_⟩
    exact ⟨_, rfl, _, rfl, a, C, rfl, T.oex, T.nN, .inl ⟨ha, fun dx h1 h2 => q dx h1 h2⟩⟩
/-- what a look at truths tells -/
def ChkX (CT : Addr) (H : Hp) (xs : List V) (Q : VK) (E : XK) : Prop := (∃ bs : List Bool, xs = bs.map V.bl ∧ ∀ H', Same H H' → Q .non H') ∨ (∃ (bs : List Bool) (v : V) (ys : List V), xs = bs.map V.bl ++ v :: ys ∧ NoBl v ∧ ∀ d H', Same H H' → H d = none → H' d = some (.xd [("index", .int (bs.length : Int))]) → E (.ref CT) (some d) H')
def spCheckX (K : PySem.W.Frag) (CT : Addr) : Sp := fun vs H Q E => ∃ (a : Addr) (xs : List V), vs = [.ref a] ∧ Seqs K H a xs ∧ xs.length ≤ 1000000 ∧ ChkX CT H xs Q E
theorem dx_check {f CT fT : Addr} {fd fdT : FuncData} (hm : mg "_check_truths" = some (.ref f)) (F : Fun K "_check_truths" "_check_truths" sCheck f fd) (T : TxtW mg) (ET : ErrF K mg "BadTruth" "index" CT fT) (FT : FnOk P w K mg base CX0 1 fT fdT ["self", "index"] (spErr K CT "index")) (bT : Binds K fdT ["self", "index"] []) :
    DfX P w K mg base 3 "_check_truths" ["truths"] (spCheckX K CT) f fd := by
  refine ⟨hm, F.kp, F.binds (fun _ _ _ _ _ _ us hl => match us, hl with | [_], _ => rfl), F.okX scCheck (fun vs H Q E h => ?_) (fun cdv A outer s H vs Q E hr h => ?_)⟩
  · obtain ⟨a, xs, rfl, _⟩ := h
    rfl
  · obtain ⟨a, xs, rfl, hB, hlen, q⟩ := h
    refine ⟨_, (pss_cons (ps_setLc (i := 1) (own := [("index", 2), ("truth", 3)]) (g := gTup K 2 (gCons (gName 2) (gCons (gName 3) gNil))) (by rfl) scCheck.nd rfl rfl (sw_true rfl rfl rfl (by decide +kernel)) (pi_enumS (by rfl) T.enumerate (pa_cons (pv 0) pa_nil)) (blkOk_by (own := [("index", 2), ("truth", 3)]) (N := ["truths", "wrong", "index", "truth"]) (sc := defScope sCheck) (by decide +kernel)) (fun _ _ _ _ _ => pg_tup (by rfl) (pgs_cons (pg_name (i := 2) scCheck.nd rfl (Or.inl rfl)) (pgs_cons (pg_name (i := 3) scCheck.nd rfl (Or.inl rfl)) pgs_nil))) (fun _ _ _ _ _ => (pts_one (pw_and (pt_cmpR op_notA (pv 3) pe_bl (nomark _)) (pw_and1 (pt_cmpR op_notA (pv 3) pe_bl (nomark _)))).pt)) (fun _ _ _ _ _ => (pv 2)))
      (pss_one (ps_if (pt_cmpR op_gt (pe_callB call_len_seq (by rfl) T.len PySem.boot_len (pa_cons (pv 1) pa_nil)) pe_int (nomark _)) (pss_one (ps_raise rfl (takes_of rfl rfl rfl rfl) (pmk_oex ET.oex ET.iC ET.tI FT (hr.mono (by decide)) bT .nil pass0 (by rfl) ET.mgC (pa_cons (pe_ix ix_list (pv 1) pe_int (fun _ _ => rfl)) pa_nil)))) pss_nil))), ?_⟩
    refine ⟨_, rfl, a, xs, rfl, ?_⟩
    have hlt : ∀ i, i ≤ xs.length → ((wrongs xs i).map fun n : Nat => V.int (n : Int)).length < sizeLine := fun i hi => by
      rw [List.length_map]
      exact Nat.lt_of_le_of_lt (Nat.le_trans (wrongs_len xs i) (Nat.le_trans hi hlen)) (by decide)
    rcases hB with hB | hB
    case' inl => refine .inl ⟨hB, fun D hD => lc_it walk_enum (fun i H' => Same H H' ∧ H' D = some (.lst ((wrongs xs i).map fun n : Nat => V.int (n : Int)))) ⟨same_mut' (Same.refl H) hD, upd_same⟩ (fun i H' _ h => h.1.seq hB) ?_ ?_⟩
    case' inr => refine .inr ⟨hB, fun D hD => lc_it walk_enumT (fun i H' => Same H H' ∧ H' D = some (.lst ((wrongs xs i).map fun n : Nat => V.int (n : Int)))) ⟨same_mut' (Same.refl H) hD, upd_same⟩ (fun i H' _ h => Same.tup h.1 hB) ?_ ?_⟩
    case' inl.refine_1 | inr.refine_1 =>
      rintro i x H1 H2 hi ⟨s1, hx⟩ ⟨T, y, z, rfl, nT, rfl, ey, ez⟩
      have ei : y = .int (i : Nat) := (Option.some.inj ey).symm
      subst ei
      have ez : xs[i]? = some z := ez
      have sT : Same H (upd H1 T (.tup [.int (i : Nat), z])) := s1.trans fun c o e => by rw [upd_ne (ne_of_none e nT)]; exact e
      have hT : (upd H1 T (.tup [.int (i : Nat), z])) D = some (.lst ((wrongs xs i).map fun n : Nat => V.int (n : Int))) := by rw [upd_ne (ne_of_none hx nT)]; exact hx
      refine ⟨T, _, rfl, .inl (.inl upd_same), rfl, _, _, rfl, _, _, rfl, rfl, rfl, _, rfl, _, rfl, ?_⟩
      generalize upd H1 T (.tup [.int (i : Nat), z]) = H3 at sT hT ⊢
      have fin : isB z = false → ∃ acc, H3 D = some (.lst acc) ∧ acc.length < sizeLine ∧ Same H (upd H3 D (.lst (acc ++ [.int (i : Nat)]))) ∧ (upd H3 D (.lst (acc ++ [.int (i : Nat)]))) D = some (.lst ((wrongs xs (i + 1)).map fun n : Nat => V.int (n : Int))) := fun e =>
        ⟨_, hT, hlt i (Nat.le_of_lt hi), same_mut' sT hD, by rw [upd_same, wrongs_succ ez, e, if_neg Bool.false_ne_true, List.map_append]; rfl⟩
      by_cases hb : ∃ c, z = .bl c
      · obtain ⟨c, rfl⟩ := hb
        have fine : Same H H3 ∧ H3 D = some (.lst ((wrongs xs (i + 1)).map fun n : Nat => V.int (n : Int))) := ⟨sT, by rw [hT, wrongs_succ ez, show isB (.bl c) = true from rfl, if_pos rfl, List.append_nil]⟩
        refine .inl ⟨c, rfl, _, rfl, ?_⟩
        cases c with
        | true => exact fine
        | false => exact iteT ⟨_, rfl, _, rfl, .inl ⟨_, rfl, _, rfl, fine⟩⟩
      · have hb : ∀ c, z ≠ .bl c := fun c e => hb ⟨c, e⟩
        refine .inr ⟨hb, _, rfl, iteT ⟨_, rfl, _, rfl, .inr ⟨hb, _, rfl, ?_⟩⟩⟩
        exact iteT ⟨_, rfl, fin (isB_not hb)⟩
    case' inl.refine_2 | inr.refine_2 =>
      rintro H1 ⟨s1, hx⟩
      refine ⟨_, rfl, D, _, rfl, .inl (.inl (.inl hx)), _, _, rfl, rfl, _, rfl, ?_⟩
      rw [List.length_map]
      rcases q with ⟨bs, rfl, q⟩ | ⟨bs, v, ys, rfl, hN, q⟩
      · rw [wrongs_all]
        exact iteF (q _ s1)
      · obtain ⟨zs, hz⟩ := wrongs_head (bs := bs) (ys := ys) hN.all
        rw [hz] at hx ⊢
        rw [decide_eq_true (show (0 : Int) < ((bs.length :: zs).length : Int) by rw [List.length_cons]; omega)]
        refine iteT ?_
        exact ⟨_, rfl, D, _, _, _, rfl, rfl, .inl (.inl hx), at_of (j := 0) rfl rfl, mk_err (v := .int (bs.length : Int)) (R := E) fun d H' s2 hd hq => q d H' (s1.trans s2) (s1.free hd) hq⟩
theorem same_mut {H0 H : Hp} {p : Addr} {o : HO} (h : Same H0 H) (hp : H0 p = none) : Same H0 (upd H p o) := fun b x e => by rw [upd_ne (ne_of_none e hp)]; exact h b x e
/-- tuple(xs[:k]) -/
theorem rd_tup {K : PySem.W.Frag} {σ : L2.St} {H : Hp} {Q : VK} {i j k : Nat} {a : Addr} {bs : List Bool} (hi : σ[i]? = some (some (.ref a))) (hj : σ[j]? = some (some (.int k))) (hB : Bls K H a bs) (hk : k ≤ bs.length)
    (q : ∀ l H', Same H H' → SqT K H' l ((bs.take k).map V.bl) → Q (.ref l) H') :
    tCB (fun xs H Q => ∃ p ys, xs = [V.ref p] ∧ ((SqL K H p ys ∧ ∀ l, H l = none → Q (.ref l) (upd H l (.tup ys))) ∨ (SqT K H p ys ∧ Q (.ref p) H)))
      (tCons (tSl (fun x lo hi H Q => rSlL K x lo hi H Q ∨ rSlA K x lo hi H Q) (tVar i) tNoPart (tPart (tVar j))) tNil) σ H Q := by
  obtain ⟨t, hT⟩ := hB.t
  refine ⟨_, hi, _, hj, _, rfl, sl_bls hT (cut_hi bs k hk) fun p H5 s5 h5 => ?_⟩
  cases t with
  | false => exact ⟨p, _, rfl, .inl ⟨h5, fun l hl => q l _ (s5.trans (same_new hl)) (.inl (.inl upd_same))⟩⟩
  | true => exact ⟨p, _, rfl, .inr ⟨h5, q p H5 s5 h5⟩⟩
theorem early_succ (bs : List Bool) (i : Nat) : (earlyL bs (i + 1)).map (fun n : Nat => V.int (n : Int)) = (earlyL bs i).map (fun n : Nat => V.int (n : Int)) ++ (if bs.getD i false = true then [V.int (i : Int)] else []) := by
  unfold earlyL
  rw [List.range_succ, List.filter_append, List.map_append]
  congr 1
  by_cases h : bs.getD i false = true
  · rw [if_pos h, show List.filter (fun n => bs.getD n false) [i] = [i] by simp only [List.filter, h]]; rfl
  · rw [if_neg h, show List.filter (fun n => bs.getD n false) [i] = [] by simp only [List.filter, Bool.eq_false_iff.mpr h]]; rfl
theorem late_succ (rs : List Bool) (m s : Nat) : (lateL rs (m + 1) s).map (fun n : Nat => V.int (n : Int)) = (lateL rs m s).map (fun n : Nat => V.int (n : Int)) ++ (if led rs (s + m) = true then [V.int ((s + m : Nat) : Int)] else []) := by
  unfold lateL
  rw [List.range_succ, List.map_append, List.filter_append, List.map_append]
  congr 1
  show List.map _ (List.filter _ [s + m]) = _
  by_cases h : led rs (s + m) = true
  · rw [if_pos h, show List.filter (fun n => led rs n) [s + m] = [s + m] by simp only [List.filter, h]]; rfl
  · rw [if_neg h, show List.filter (fun n => led rs n) [s + m] = [] by simp only [List.filter, Bool.eq_false_iff.mpr h]]; rfl
theorem early_len (bs : List Bool) (s : Nat) : (earlyL bs s).length ≤ s := by
  unfold earlyL
  refine Nat.le_trans (List.length_filter_le _ _) ?_
  rw [List.length_range]; exact Nat.le_refl s
theorem late_len (rs : List Bool) (m s : Nat) : (lateL rs m s).length ≤ m := by
  unfold lateL
  refine Nat.le_trans (List.length_filter_le _ _) ?_
  rw [List.length_map, List.length_range]; exact Nat.le_refl m
theorem led_mod {rs : List Bool} {m : Nat} (h : PerF (led rs) m) (h1 : 1 ≤ m) (hm : m ≤ rs.length) (n : Nat) : rs.getD (n % m) false = led rs n := by
  have e : n = n % m + m * (n / m) := (Nat.mod_add_div n m).symm
  conv => rhs; rw [e, h.mul (n / m)]
  unfold led
  rw [Nat.mod_eq_of_lt (Nat.lt_of_lt_of_le (Nat.mod_lt n h1) hm)]
theorem sqt_upd {K : PySem.W.Frag} {H : Hp} {a p C dx : Addr} {fs : List (Str × V)} {xs : List V} {o : HO} (h : SqT K H a xs) (hp : H p = some (.ins C dx fs)) : SqT K (upd H p o) a xs := by
  rcases h with (h | ⟨z, h⟩) | h
  · exact .inl (.inl (by rw [upd_ne (ne_of h hp (by intro q; cases q))]; exact h))
  · exact .inl (.inr ⟨z, by rw [upd_ne (ne_of h hp (by intro q; cases q))]; exact h⟩)
  · exact .inr h
end
end Ef
set_option Elab.async false
set_option linter.all false
set_option maxRecDepth 100000
set_option maxHeartbeats 4000000
namespace Ef
open PySem PySem.Spec PyProof.Rows L2
section
variable {P : Program} {w : World} {K : PySem.W.Frag} {mg : Str → Option Value} {base : Heap}
/-- what the making of a set tells -/
def MadeX (K : PySem.W.Frag) (C CT CF CL : Addr) (H0 : Hp) (p : Addr) (xs ys : List V) (Q : VK) (E : XK) : Prop :=
  (∃ (bs : List Bool) (v : V) (zs : List V), xs = bs.map V.bl ++ v :: zs ∧ NoBl v ∧ ∀ d H', Same H0 H' → H0 d = none → H' d = some (.xd [("index", .int (bs.length : Int))]) → E (.ref CT) (some d) H') ∨
  (∃ bs : List Bool, xs = bs.map V.bl ∧ ((∃ (rs : List Bool) (v : V) (zs : List V), ys = rs.map V.bl ++ v :: zs ∧ NoBl v ∧ ∀ d H', Same H0 H' → H0 d = none → H' d = some (.xd [("index", .int (rs.length : Int))]) → E (.ref CT) (some d) H') ∨
    (ys = [] ∧ ∀ d H', Same H0 H' → H0 d = none → H' d = some (.xd [("index", .int 0)]) → E (.ref CT) (some d) H') ∨
    (∃ rs : List Bool, ys = rs.map V.bl ∧ 1 ≤ rs.length ∧ rs.length ≤ 50000 ∧ bs.length ≤ 50000 ∧ ∀ m s : Nat, Canon bs rs m s →
      ((720 < m ∧ ∀ d H', Same H0 H' → H0 d = none → H' d = some (.xd [("most", .int 720)]) → E (.ref CF) (some d) H') ∨ (m ≤ 720 ∧ 10000 < s ∧ ∀ d H', Same H0 H' → H0 d = none → H' d = some (.xd [("most", .int 10000)]) → E (.ref CL) (some d) H') ∨
        (m ≤ 720 ∧ s ≤ 10000 ∧ ∀ H', Same H0 H' → WAt K C H' p m s bs rs → Q .non H')))))
def spInit (K : PySem.W.Frag) (C CT CF CL : Addr) : Sp := fun vs H Q E => ∃ (H0 : Hp) (p dx a b : Addr) (xs ys : List V), vs = [.ref p, .ref a, .ref b] ∧ Same H0 H ∧ H0 p = none ∧ H p = some (.ins C dx []) ∧ Seqs K H0 a xs ∧ Seqs K H0 b ys ∧ xs.length ≤ 1000000 ∧ ys.length ≤ 1000000 ∧ MadeX K C CT CF CL H0 p xs ys Q E
theorem scInit : FnScope ["self", "below", "rests", "period", "start", "n", "truth"] ["self", "below", "rests"] (defScope sInit) := ⟨rfl, rfl, rfl, by decide +kernel, rfl, by decide +kernel, by decide +kernel⟩
theorem lkB {m s : Int} {ra ba : Addr} : (putF "below" (V.ref ba) (putF "rests" (.ref ra) (putF "start" (.int s) (putF "period" (.int m) [])))).lookup ("below" : Str) = some (.ref ba) := by with_unfolding_all rfl
theorem ok_init {f C CT CF CL fT fF fL fk : Addr} {fd fdT fdF fdL fdk : FuncData} (F : Fun K "__init__" "Where.__init__" sInit f fd) (T : TxtI mg) (CW : ClsW K mg C)
    (ET : ErrF K mg "BadTruth" "index" CT fT) (FT : FnOk P w K mg base CX0 1 fT fdT ["self", "index"] (spErr K CT "index")) (bT : Binds K fdT ["self", "index"] []) (EF_ : ErrF K mg "TooFine" "most" CF fF) (FF : FnOk P w K mg base CX0 1 fF fdF ["self", "most"] (spErr K CF "most")) (bF : Binds K fdF ["self", "most"] [])
    (EL : ErrF K mg "TooLate" "most" CL fL) (FL : FnOk P w K mg base CX0 1 fL fdL ["self", "most"] (spErr K CL "most")) (bL : Binds K fdL ["self", "most"] []) (CKR : DfX P w K mg base 3 "_check_truths" ["truths"] (spCheckX K CT) fk fdk) (Dlper : Df P w K mg base 2 "least_period" ["row"] (spLper K)) (Dlstart : Df P w K mg base 1 "_least_start" ["below", "rests"] (spLstart K)) :
    FnOk P w K mg base (CX P w) 4 f fd ["self", "below", "rests"] (spInit K C CT CF CL) := by
  refine F.okX scInit (fun vs H Q E h => ?_) (fun cdv A outer s H vs Q E hr h => ?_)
  · obtain ⟨H0, p, dx, a, b, xs, ys, rfl, _⟩ := h
    rfl
  · obtain ⟨H0, p, dx, a, b, xs, ys, rfl, s0, p0, hp, hBx, hRx, hxl, hyl, q⟩ := h
    obtain ⟨tMP, eMP⟩ := T.MOST_PERIOD
    obtain ⟨tMS, eMS⟩ := T.MOST_START
    refine ⟨_, (pss_cons (ps_expr (pe_callS CKR.F (hr.mono (by decide)) (by rfl) CKR.at_ CKR.kp CKR.b (fun σ => passAt (takes_of rfl rfl rfl rfl) σ) (pa_cons (pv 1) pa_nil)))
      (pss_cons (ps_expr (pe_callS CKR.F (hr.mono (by decide)) (by rfl) CKR.at_ CKR.kp CKR.b (fun σ => passAt (takes_of rfl rfl rfl rfl) σ) (pa_cons (pv 2) pa_nil)))
      (pss_cons (ps_if (pt_cmpR op_eq (pe_callB call_len_seq (by rfl) T.len PySem.boot_len (pa_cons (pv 2) pa_nil)) pe_int (nomark _)) (pss_one (ps_raise rfl (takes_of rfl rfl rfl rfl) (pmk_oex ET.oex ET.iC ET.tI FT (hr.mono (by decide)) bT .nil pass0 (by rfl) ET.mgC (pa_cons pe_int pa_nil)))) pss_nil)
      (pss_cons (ps_set (i := 3) scInit.nd rfl (.inr rfl) (Dlper.call (hr.mono (by decide)) (pa_cons (pv 2) pa_nil)))
      (pss_cons (ps_set (i := 4) scInit.nd rfl (.inl rfl) (Dlstart.call (hr.mono (by decide)) (pa_cons (pv 1) (pa_cons (pv 2) pa_nil))))
      (pss_cons (ps_if (pt_cmpR op_gt (pv 3) (pe_glob (v := .int 720) rfl eMP ⟨_, rfl⟩) (nomark _)) (pss_one (ps_raise rfl (takes_of rfl rfl rfl rfl) (pmk_oex EF_.oex EF_.iC EF_.tI FF (hr.mono (by decide)) bF .nil pass0 (by rfl) EF_.mgC (pa_cons (pe_glob (v := .int 720) rfl eMP ⟨_, rfl⟩) pa_nil)))) pss_nil)
      (pss_cons (ps_if (pt_cmpR op_gt (pv 4) (pe_glob (v := .int 10000) rfl eMS ⟨_, rfl⟩) (nomark _)) (pss_one (ps_raise rfl (takes_of rfl rfl rfl rfl) (pmk_oex EL.oex EL.iC EL.tI FL (hr.mono (by decide)) bL .nil pass0 (by rfl) EL.mgC (pa_cons (pe_glob (v := .int 10000) rfl eMS ⟨_, rfl⟩) pa_nil)))) pss_nil)
      (pss_cons (ps_fld (pv 0) (pv 3) rfl)
      (pss_cons (ps_fld (pv 0) (pv 4) rfl)
      (pss_cons (ps_fld (pv 0) (pe_callTy call_tuple_of (by rfl) T.tuple (by decide +kernel) (pa_cons (pe_slice (sl_list.or sl_tupA) (pv 2) po_none (po_some (pv 3))) pa_nil)) rfl)
      (pss_cons (ps_fld (pv 0) (pe_callTy call_tuple_of (by rfl) T.tuple (by decide +kernel) (pa_cons (pe_slice (sl_list.or sl_tupA) (pv 1) po_none (po_some (pv 4))) pa_nil)) rfl)
      (pss_cons (ps_fld (pv 0) (pe_callTy call_tuple_of (by rfl) T.tuple (by decide +kernel) (pa_cons (pe_lc (own := [("n", 5), ("truth", 6)]) (g := gTup K 2 (gCons (gName 5) (gCons (gName 6) gNil))) (by rfl) scInit.nd (pi_enumS (by rfl) T.enumerate (pa_cons (pe_fld (pv 0) rfl) pa_nil)) (blkOk_by (own := [("n", 5), ("truth", 6)]) (N := ["self", "below", "rests", "period", "start", "n", "truth"]) (sc := defScope sInit) (by decide +kernel)) (fun _ _ _ _ _ => pg_tup (by rfl) (pgs_cons (pg_name (i := 5) scInit.nd rfl (Or.inl rfl)) (pgs_cons (pg_name (i := 6) scInit.nd rfl (Or.inl rfl)) pgs_nil))) (fun _ _ _ _ _ => (pts_one (pt_val (pv 6)))) (fun _ _ _ _ _ => (pv 5))) pa_nil)) rfl)
      (pss_one (ps_fld (pv 0) (pe_callTy call_tuple_of (by rfl) T.tuple (by decide +kernel) (pa_cons (pe_lc (own := [("n", 5)]) (g := gName 5) (by rfl) scInit.nd (pi_range2 (by rfl) T.range (pa_cons (pv 4) (pa_cons (pe_op op_add (pv 4) (pv 3)) pa_nil))) (blkOk_by (own := [("n", 5)]) (N := ["self", "below", "rests", "period", "start", "n", "truth"]) (sc := defScope sInit) (by decide +kernel)) (fun _ _ _ _ _ => pg_name (i := 5) scInit.nd rfl (Or.inl rfl)) (fun _ _ _ _ _ => (pts_one (pt_val (pe_ix (show IxR _ (rIx K) from ix_seq) (pv 2) (pe_op op_mod (pv 5) (pv 3)) (fun _ _ => rfl))))) (fun _ _ _ _ _ => (pv 5))) pa_nil)) rfl)))))))))))))), ?_⟩
    refine ⟨_, rfl, a, xs, rfl, hBx.same s0, hxl, ?_⟩
    rcases q with ⟨bs, v, zs, e, hN, q⟩ | ⟨bs, rfl, q⟩
    · exact .inr ⟨bs, v, zs, e, hN, fun d H' s1 hd hx => q d H' (s0.trans s1) (s0.free hd) hx⟩
    refine .inl ⟨bs, rfl, fun H1 s1 => ?_⟩
    have s01 := s0.trans s1
    refine ⟨_, rfl, b, ys, rfl, hRx.same s01, hyl, ?_⟩
    rcases q with ⟨rs, v, zs, e, hN, q⟩ | ⟨rfl, q⟩ | ⟨rs, rfl, hr1, hr2, hb2, q⟩
    · exact .inr ⟨rs, v, zs, e, hN, fun d H' s2 hd hx => q d H' (s01.trans s2) (s01.free hd) hx⟩
    · refine .inl ⟨[], rfl, fun H2 s2 => ?_⟩
      have s02 := s01.trans s2
      refine ⟨_, rfl, b, _, rfl, hRx.same s02, rfl, _, rfl, ?_⟩
      refine iteT ?_
      exact mk_err (v := .int 0) (R := E) fun d H' s3 hd hx => q d H' (s02.trans s3) (s02.free hd) hx
    refine .inl ⟨rs, rfl, fun H2 s2 => ?_⟩
    have s02 := s01.trans s2
    have hB : Bls K H0 a bs := hBx
    have hR : Bls K H0 b rs := hRx
    refine ⟨_, rfl, b, _, rfl, len_bls (hR.same s02), rfl, _, rfl, ?_⟩
    rw [decide_eq_false (show ¬ V.int ((rs.map V.bl).length : Int) = V.int 0 from fun z => by
      injection z with z
      rw [List.length_map] at z
      omega)]
    refine iteF ?_
    refine ⟨_, rfl, b, rs, rfl, hR.same s02, hr1, by omega, fun m H3a m1 md mper mleast s3a => ?_⟩
    have s03a := s02.trans s3a
    refine ⟨_, rfl, _, rfl, a, b, bs, rs, rfl, hB.same s03a, hR.same s03a, hr1, by omega, by omega, fun s H3 s3b hs => ?_⟩
    have s3 := s3a.trans s3b
    have s03 := s02.trans s3
    have hm : m ≤ rs.length := Nat.le_of_dvd (by omega) md
    have hsb := hs.1
    have hp3 : H3 p = some (.ins C dx []) := s3 _ _ (s2 _ _ (s1 _ _ hp))
    rcases q m s ⟨m1, md, mper, mleast, hs⟩ with ⟨hm7, q⟩ | ⟨hm7, hs7, q⟩ | ⟨hm7, hs7, q⟩
    · refine ⟨_, rfl, _, _, rfl, rfl, _, rfl, ?_⟩
      rw [decide_eq_true (show (720 : Int) < (m : Int) by omega)]
      refine iteT ?_
      exact mk_err (v := .int 720) (R := E) fun d H' s4 hd hx => q d H' (s03.trans s4) (s03.free hd) hx
    · refine ⟨_, rfl, _, _, rfl, rfl, _, rfl, ?_⟩
      rw [decide_eq_false (show ¬ (720 : Int) < (m : Int) by omega)]
      refine iteF ?_
      refine ⟨_, rfl, _, _, rfl, rfl, _, rfl, ?_⟩
      rw [decide_eq_true (show (10000 : Int) < (s : Int) by omega)]
      refine iteT ?_
      exact mk_err (v := .int 10000) (R := E) fun d H' s4 hd hx => q d H' (s03.trans s4) (s03.free hd) hx
    refine ⟨_, rfl, _, _, rfl, rfl, _, rfl, ?_⟩
    rw [decide_eq_false (show ¬ (720 : Int) < (m : Int) by omega)]
    refine iteF ?_
    refine ⟨_, rfl, _, _, rfl, rfl, _, rfl, ?_⟩
    rw [decide_eq_false (show ¬ (10000 : Int) < (s : Int) by omega)]
    refine iteF ?_
    -- self.period, self.start
    refine ⟨_, rfl, _, rfl, p, C, dx, _, rfl, hp3, CW.cl, CW.nP, (by show 0 < 1000; decide), ?_⟩
    refine ⟨_, rfl, _, rfl, p, C, dx, _, rfl, upd_same, CW.cl, CW.nS, (by show 1 < 1000; decide), ?_⟩
    rw [upd_upd]
    have s04 : Same H0 (upd H3 p (.ins C dx (putF "start" (.int s) (putF "period" (.int m) [])))) := same_mut s03 p0
    have hp4 : (upd H3 p (.ins C dx (putF "start" (.int s) (putF "period" (.int m) [])))) p = some (.ins C dx (putF "start" (.int s) (putF "period" (.int m) []))) := upd_same
    generalize upd H3 p (.ins C dx (putF "start" (.int s) (putF "period" (.int m) []))) = H4 at s04 hp4 ⊢
    -- self.rests
    dsimp only [tSeq, sFld]
    refine rd_tup (k := m) (by rfl) (by rfl) (hR.same s04) hm fun ra H6 s6 h6 => ?_
    have s06 := s04.trans s6
    have hp6 := s6 _ _ hp4
    refine ⟨_, rfl, p, C, dx, _, rfl, hp6, CW.cl, CW.nR, (by show 2 < 1000; decide), ?_⟩
    have hra := sqt_upd (o := .ins C dx (putF "rests" (.ref ra) (putF "start" (.int s) (putF "period" (.int m) [])))) h6 hp6
    have s07 : Same H0 (upd H6 p (.ins C dx (putF "rests" (.ref ra) (putF "start" (.int s) (putF "period" (.int m) []))))) := same_mut s06 p0
    have hp7 : (upd H6 p (.ins C dx (putF "rests" (.ref ra) (putF "start" (.int s) (putF "period" (.int m) []))))) p = some (.ins C dx (putF "rests" (.ref ra) (putF "start" (.int s) (putF "period" (.int m) [])))) := upd_same
    generalize upd H6 p (.ins C dx (putF "rests" (.ref ra) (putF "start" (.int s) (putF "period" (.int m) [])))) = H7 at s07 hp7 hra ⊢
    -- self.below
    refine rd_tup (k := s) (by rfl) (by rfl) (hB.same s07) hsb fun ba H9 s79 h9 => ?_
    have hp9 := s79 _ _ hp7
    refine ⟨_, rfl, p, C, dx, _, rfl, hp9, CW.cl, CW.nB, (by show 3 < 1000; decide), ?_⟩
    have hra := sqt_upd (o := .ins C dx (putF "below" (.ref ba) (putF "rests" (.ref ra) (putF "start" (.int s) (putF "period" (.int m) []))))) (Same.tup s79 hra) hp9
    have hba := sqt_upd (o := .ins C dx (putF "below" (.ref ba) (putF "rests" (.ref ra) (putF "start" (.int s) (putF "period" (.int m) []))))) h9 hp9
    have s10 : Same H0 (upd H9 p (.ins C dx (putF "below" (.ref ba) (putF "rests" (.ref ra) (putF "start" (.int s) (putF "period" (.int m) [])))))) := same_mut (s07.trans s79) p0
    have hp10 : (upd H9 p (.ins C dx (putF "below" (.ref ba) (putF "rests" (.ref ra) (putF "start" (.int s) (putF "period" (.int m) [])))))) p = some (.ins C dx (putF "below" (.ref ba) (putF "rests" (.ref ra) (putF "start" (.int s) (putF "period" (.int m) []))))) := upd_same
    generalize upd H9 p (.ins C dx (putF "below" (.ref ba) (putF "rests" (.ref ra) (putF "start" (.int s) (putF "period" (.int m) []))))) = H10 at s10 hp10 hra hba ⊢
    -- self._early
    refine ⟨_, rfl, p, C, dx, _, _, rfl, hp10, CW.cl, CW.nB, lkB, ba, _, rfl, .inr ⟨hba, fun D hD => ?_⟩⟩
    refine lc_it walk_enumT (fun i H' => Same H10 H' ∧ H' D = some (.lst ((earlyL bs i).map fun n : Nat => V.int (n : Int)))) ⟨same_new hD, upd_same⟩ (fun i H' _ h => Same.tup h.1 hba) ?_ ?_
    · rintro i x Hx H2 hi ⟨sx, hx⟩ ⟨T, y, z, rfl, nT, rfl, ey, ez⟩
      have ei : y = .int (i : Nat) := (Option.some.inj ey).symm
      subst ei
      rw [List.length_map, List.length_take] at hi
      have his : i < s := by omega
      have ez2 : ((bs.take s).map V.bl)[i]? = some (.bl (bs.getD i false)) := by rw [List.map_take, List.getElem?_take, if_pos his, get_bls (by omega)]
      have ez3 : z = .bl (bs.getD i false) := (Option.some.inj (ez2.symm.trans ez)).symm
      subst ez3
      have sT : Same H10 (upd Hx T (.tup [.int (i : Nat), .bl (bs.getD i false)])) := sx.trans (same_new nT)
      have hT : (upd Hx T (.tup [.int (i : Nat), .bl (bs.getD i false)])) D = some (.lst ((earlyL bs i).map fun n : Nat => V.int (n : Int))) := by rw [upd_ne (ne_of_none hx nT)]; exact hx
      refine ⟨T, _, rfl, .inl (.inl upd_same), rfl, _, _, rfl, _, _, rfl, rfl, rfl, _, rfl, _, rfl, ?_⟩
      refine ite2 (fun hb => ?_) (fun hb => ?_)
      · refine ⟨_, rfl, _, hT, by rw [List.length_map]; exact small1000' (Nat.le_trans (early_len bs i) (by omega)), same_mut sT hD, ?_⟩
        rw [upd_same, early_succ, if_pos hb]
      · refine ⟨sT, ?_⟩
        rw [hT, early_succ, if_neg hb, List.append_nil]
    · rintro H11 ⟨s11, h11⟩
      rw [List.length_map, List.length_take, Nat.min_eq_left hsb] at h11
      refine ⟨D, _, rfl, .inl ⟨.inl (.inl h11), fun ea hea => ?_⟩⟩
      have s12 := s11.trans (same_new (o := .tup ((earlyL bs s).map fun n : Nat => V.int (n : Int))) hea)
      have hea2 : SqT K (upd H11 ea (.tup ((earlyL bs s).map fun n : Nat => V.int (n : Int)))) ea ((earlyL bs s).map fun n : Nat => V.int (n : Int)) := .inl (.inl upd_same)
      generalize upd H11 ea (.tup ((earlyL bs s).map fun n : Nat => V.int (n : Int))) = H12 at s12 hea2 ⊢
      have hp12 := s12 _ _ hp10
      refine ⟨_, rfl, p, C, dx, _, rfl, hp12, CW.cl, CW.nE, (by show 4 < 1000; decide), ?_⟩
      have hra := sqt_upd (o := .ins C dx (putF "_early" (.ref ea) (putF "below" (.ref ba) (putF "rests" (.ref ra) (putF "start" (.int s) (putF "period" (.int m) [])))))) (Same.tup s12 hra) hp12
      have hba := sqt_upd (o := .ins C dx (putF "_early" (.ref ea) (putF "below" (.ref ba) (putF "rests" (.ref ra) (putF "start" (.int s) (putF "period" (.int m) [])))))) (Same.tup s12 hba) hp12
      have hea := sqt_upd (o := .ins C dx (putF "_early" (.ref ea) (putF "below" (.ref ba) (putF "rests" (.ref ra) (putF "start" (.int s) (putF "period" (.int m) [])))))) hea2 hp12
      have s13 : Same H0 (upd H12 p (.ins C dx (putF "_early" (.ref ea) (putF "below" (.ref ba) (putF "rests" (.ref ra) (putF "start" (.int s) (putF "period" (.int m) []))))))) := same_mut (s10.trans s12) p0
      have hp13 : (upd H12 p (.ins C dx (putF "_early" (.ref ea) (putF "below" (.ref ba) (putF "rests" (.ref ra) (putF "start" (.int s) (putF "period" (.int m) []))))))) p = some (.ins C dx (putF "_early" (.ref ea) (putF "below" (.ref ba) (putF "rests" (.ref ra) (putF "start" (.int s) (putF "period" (.int m) [])))))) := upd_same
      generalize upd H12 p (.ins C dx (putF "_early" (.ref ea) (putF "below" (.ref ba) (putF "rests" (.ref ra) (putF "start" (.int s) (putF "period" (.int m) [])))))) = H13 at s13 hp13 hra hba hea ⊢
      -- self._late
      refine ⟨_, rfl, _, rfl, _, rfl, _, _, rfl, rfl, _, _, rfl, ⟨by omega, by omega, by omega, by omega⟩, fun D2 hD2 => ?_⟩
      have en : ((((s : Nat) : Int) + ((m : Nat) : Int)) - ((s : Nat) : Int)).toNat = m := by omega
      rw [en]
      refine lc_range (lo := (s : Int)) (n := m) (fun i H' => Same H13 H' ∧ H' D2 = some (.lst ((lateL rs i s).map fun n : Nat => V.int (n : Int)))) ⟨same_new hD2, upd_same⟩ ?_ ?_
      · rintro i Hx hi ⟨sx, hx⟩
        have e0 : (((s : Nat) : Int) + ((i : Nat) : Int)) = ((s + i : Nat) : Int) := rfl
        have em : (((s : Int) + (i : Int)) % ((m : Nat) : Int)).toNat = (s + i) % m := by rw [← Int.natCast_add, ← Int.natCast_emod]; rfl
        have h0 := Int.emod_nonneg ((s : Int) + (i : Int)) (show (m : Int) ≠ 0 by omega)
        have h1 := Int.emod_lt_of_pos ((s : Int) + (i : Int)) (show (0 : Int) < (m : Int) by omega)
        refine ⟨rfl, _, rfl, _, rfl, _, rfl, _, _, rfl, rfl, show (0 : Int) < (m : Int) by omega, ix_bls (hR.same (s13.trans sx)) h0 (by omega) ⟨_, rfl, ?_⟩⟩
        rw [em, led_mod mper m1 hm]
        refine ite2 (fun hb => ?_) (fun hb => ?_)
        · refine ⟨_, rfl, _, hx, by rw [List.length_map]; exact small1000' (Nat.le_trans (late_len rs i s) (by omega)), same_mut sx hD2, ?_⟩
          rw [upd_same, late_succ, if_pos hb]
          rfl
        · refine ⟨sx, ?_⟩
          rw [hx, late_succ, if_neg hb, List.append_nil]
      · rintro H14 ⟨s14, h14⟩
        refine ⟨D2, _, rfl, .inl ⟨.inl (.inl h14), fun la hla => ?_⟩⟩
        have s15 := s14.trans (same_new (o := .tup ((lateL rs m s).map fun n : Nat => V.int (n : Int))) hla)
        have hla2 : SqT K (upd H14 la (.tup ((lateL rs m s).map fun n : Nat => V.int (n : Int)))) la ((lateL rs m s).map fun n : Nat => V.int (n : Int)) := .inl (.inl upd_same)
        generalize upd H14 la (.tup ((lateL rs m s).map fun n : Nat => V.int (n : Int))) = H15 at s15 hla2 ⊢
        have hp15 := s15 _ _ hp13
        refine ⟨_, rfl, p, C, dx, _, rfl, hp15, CW.cl, CW.nL, (by show 5 < 1000; decide), ?_⟩
        exact q _ (same_mut (s13.trans s15) p0) ⟨dx, ra, ba, ea, la, upd_same, sqt_upd (Same.tup s15 hra) hp15, sqt_upd (Same.tup s15 hba) hp15, sqt_upd (Same.tup s15 hea) hp15, sqt_upd hla2 hp15⟩
end
end Ef
set_option Elab.async false
set_option linter.all false
namespace Ef
/-- how many n below k there are with f n -/
def cntF (f : Nat → Bool) (k : Nat) : Nat := ((List.range k).filter f).length
theorem cntF_zero (f : Nat → Bool) : cntF f 0 = 0 := rfl
theorem cntF_succ (f : Nat → Bool) (k : Nat) : cntF f (k + 1) = cntF f k + if f k = true then 1 else 0 := by
  unfold cntF
  rw [List.range_succ, List.filter_append, List.length_append]
  congr 1
  by_cases h : f k = true
  · rw [if_pos h, List.filter_cons_of_pos h]; rfl
  · rw [if_neg h, List.filter_cons_of_neg h]; rfl
theorem cntF_mono {f : Nat → Bool} {a b : Nat} (h : a ≤ b) : cntF f a ≤ cntF f b := by
  induction b with
  | zero => have : a = 0 := by omega
            rw [this]; exact Nat.le_refl _
  | succ b ih =>
    rcases Nat.lt_or_ge b a with z | z
    · have : a = b + 1 := by omega
      rw [this]; exact Nat.le_refl _
    · rw [cntF_succ]; exact Nat.le_trans (ih z) (Nat.le_add_right _ _)
theorem cntF_lt {f : Nat → Bool} {a b : Nat} (h : a < b) (ha : f a = true) : cntF f a < cntF f b := by
  have h1 := cntF_succ f a
  rw [if_pos ha] at h1
  have h2 := cntF_mono (f := f) (show a + 1 ≤ b by omega)
  omega
theorem cntF_inj {f : Nat → Bool} {a b : Nat} (ha : f a = true) (hb : f b = true) (h : cntF f a = cntF f b) : a = b := by
  rcases Nat.lt_trichotomy a b with z | z | z
  · have := cntF_lt z ha; omega
  · exact z
  · have := cntF_lt z hb; omega
/-- the members from a on, b of them looked at -/
def memL (f : Nat → Bool) (a b : Nat) : List Nat := ((List.range b).map fun i => a + i).filter f
theorem memL_append (f : Nat → Bool) (a b : Nat) : (List.range a).filter f ++ memL f a b = (List.range (a + b)).filter f := by
  unfold memL
  rw [← List.filter_append, List.range_add]
theorem memL_len (f : Nat → Bool) (a b : Nat) : cntF f (a + b) = cntF f a + (memL f a b).length := by
  unfold cntF
  rw [← memL_append, List.length_append]
/-- the k-th member of a row of places -/
theorem nth_range (f : Nat → Bool) (n : Nat) : ∀ (k j : Nat), ((List.range n).filter f)[k]? = some j → j < n ∧ f j = true ∧ cntF f j = k := by
  induction n with
  | zero => intro k j h; cases h
  | succ n ih =>
    intro k j h
    rw [List.range_succ, List.filter_append] at h
    rcases Nat.lt_or_ge k (cntF f n) with z | z
    · rw [List.getElem?_append_left z] at h
      obtain ⟨a, b, c⟩ := ih k j h
      exact ⟨by omega, b, c⟩
    · rw [List.getElem?_append_right z] at h
      by_cases hf : f n = true
      · rw [List.filter_cons_of_pos hf] at h
        cases hk : k - ((List.range n).filter f).length with
        | zero =>
          rw [hk] at h
          injection h with h
          rw [← h]
          refine ⟨by omega, hf, ?_⟩
          have : cntF f n = ((List.range n).filter f).length := rfl
          omega
        | succ i => rw [hk] at h; cases h
      · rw [List.filter_cons_of_neg hf] at h
        cases h
theorem nth_mem {f : Nat → Bool} {a b k j : Nat} (h : (memL f a b)[k]? = some j) : a ≤ j ∧ j < a + b ∧ f j = true ∧ cntF f j = cntF f a + k := by
  have h2 : ((List.range (a + b)).filter f)[cntF f a + k]? = some j := by
    rw [← memL_append, List.getElem?_append_right (show ((List.range a).filter f).length ≤ cntF f a + k from Nat.le_add_right _ _), show cntF f a + k - ((List.range a).filter f).length = k from Nat.add_sub_cancel_left _ _]
    exact h
  obtain ⟨h3, h4, h5⟩ := nth_range f (a + b) _ _ h2
  refine ⟨?_, h3, h4, h5⟩
  have hm := List.mem_of_getElem? h
  unfold memL at hm
  rw [List.mem_filter, List.mem_map] at hm
  obtain ⟨⟨i, _, e⟩, _⟩ := hm
  omega
/-- f comes round by m from s on -/
def RoundF (f : Nat → Bool) (s m : Nat) : Prop := ∀ n, s ≤ n → f (n + m) = f n
theorem RoundF.mul {f : Nat → Bool} {s m : Nat} (h : RoundF f s m) (n q : Nat) (hn : s ≤ n) : f (n + q * m) = f n := by
  induction q with
  | zero => rw [Nat.zero_mul]; rfl
  | succ q ih => rw [Nat.succ_mul, ← Nat.add_assoc, h _ (by omega), ih]
theorem cntF_round {f : Nat → Bool} {s m : Nat} (h : RoundF f s m) : ∀ d, cntF f (s + d + m) = cntF f (s + d) + (memL f s m).length := by
  intro d
  induction d with
  | zero => exact memL_len f s m
  | succ d ih =>
    rw [show s + (d + 1) + m = (s + d + m) + 1 by omega, cntF_succ, ih, h _ (by omega), ← Nat.add_assoc s d 1, cntF_succ]
    omega
theorem cntF_rounds {f : Nat → Bool} {s m : Nat} (h : RoundF f s m) (d q : Nat) : cntF f (s + d + q * m) = cntF f (s + d) + q * (memL f s m).length := by
  induction q with
  | zero => rw [Nat.zero_mul, Nat.zero_mul]; rfl
  | succ q ih =>
    rw [Nat.succ_mul, Nat.succ_mul, show s + d + (q * m + m) = s + (d + q * m) + m by omega, cntF_round h, show s + (d + q * m) = s + d + q * m by omega, ih]
    omega
/-- a row is parted at k by x -/
def Spl (P : List Nat) (x : Int) (k : Nat) : Prop := k ≤ P.length ∧ (∀ i p, i < k → P[i]? = some p → (p : Int) < x) ∧ ∀ i p, k ≤ i → P[i]? = some p → x ≤ (p : Int)
theorem spl_range {f : Nat → Bool} {s n : Nat} (h : n ≤ s) : Spl ((List.range s).filter f) (n : Int) (cntF f n) := by
  have hL := memL_append f n (s - n)
  rw [show n + (s - n) = s by omega] at hL
  refine ⟨cntF_mono h, fun i p hi hp => ?_, fun i p hi hp => ?_⟩
  · obtain ⟨a, b, c⟩ := nth_range f s i p hp
    rcases Nat.lt_or_ge p n with z | z
    · omega
    · have := cntF_mono (f := f) z; omega
  · obtain ⟨a, b, c⟩ := nth_range f s i p hp
    rcases Nat.lt_or_ge p n with z | z
    · have := cntF_lt (f := f) z b; omega
    · omega
theorem spl_neg {f : Nat → Bool} {s : Nat} {n : Int} (h : n ≤ 0) : Spl ((List.range s).filter f) n 0 :=
  ⟨Nat.zero_le _, fun i p hi => absurd hi (Nat.not_lt_zero i), fun i p _ _ => by omega⟩
theorem spl_mem {f : Nat → Bool} {s m r : Nat} (h : r ≤ m) : Spl (memL f s m) ((s : Int) + (r : Int)) (memL f s r).length := by
  have e1 := memL_len f s m
  have e2 := memL_len f s r
  have e3 := cntF_mono (f := f) (show s + r ≤ s + m by omega)
  refine ⟨by omega, fun i p hi hp => ?_, fun i p hi hp => ?_⟩
  · obtain ⟨a, b, c, d⟩ := nth_mem hp
    rcases Nat.lt_or_ge p (s + r) with z | z
    · omega
    · have := cntF_mono (f := f) z; omega
  · obtain ⟨a, b, c, d⟩ := nth_mem hp
    rcases Nat.lt_or_ge p (s + r) with z | z
    · have := cntF_lt (f := f) z c; omega
    · omega
theorem count_filter (f : Nat → Bool) (xs : List Nat) : (xs.map f).count true = (xs.filter f).length := by
  induction xs with
  | nil => rfl
  | cons a xs ih =>
    rw [List.map_cons, List.count_cons, ih]
    by_cases h : f a = true
    · rw [List.filter_cons_of_pos h, if_pos (by rw [h]; rfl)]; rfl
    · rw [List.filter_cons_of_neg h, if_neg (by simpa using h)]; rfl
end Ef
set_option Elab.async false
set_option linter.all false
set_option maxRecDepth 100000
set_option maxHeartbeats 2000000
/-! xs.count(b) of a list of truths -/
namespace Ef
open PySem PySem.Spec PyProof.Rows L2
def eqb (k : Bool) (v : Value) : Bool := match v with
  | .bool n => n == k
  | _ => false
theorem vals_bls : ∀ {bs : List Bool} {us : List Value}, Vals (bs.map V.bl) us → us = bs.map Value.bool
  | [], _, .nil => rfl
  | b :: bs, _, .cons r t => by
    cases r
    rw [vals_bls t]
    rfl
theorem eqb_at {A : Around} {sh : Shared} {k : Bool} {us : List Value} {bs : List Bool} (h : us = bs.map Value.bool) : ∀ y ∈ us, SeqAt.EqAt A sh y (.bool k) (eqb k y) := fun y hy => by
  rw [h] at hy
  obtain ⟨b, _, rfl⟩ := List.mem_map.mp hy
  exact SeqAt.EqAt.bool_bool b k
theorem eqb_count {k : Bool} : ∀ bs : List Bool, (bs.map Value.bool).countP (eqb k) = bs.count k
  | [] => rfl
  | b :: bs => by
    have ih := eqb_count (k := k) bs
    rw [List.map_cons, List.countP_cons, List.count_cons, ih] <;> rfl
def rCntB (K : PySem.W.Frag) : V → List V → Hp → VK → Prop := fun x xs H Q => ∃ (p : Addr) (bs : List Bool) (k : Bool), x = .ref p ∧ xs = [.bl k] ∧ SqL K H p (bs.map V.bl) ∧ Q (.int (bs.count k : Nat)) H
section
variable {X : Cx}
theorem mt_lcountB : MtR X "list.count" (rCntB X.K) := by
  intro pins s σ H x xs v us Q I rx rxs h
  obtain ⟨p, bs, k, rfl, rfl, hs, q⟩ := h
  cases rx
  obtain ⟨u, rfl, ru⟩ := rxs.one
  cases ru
  obtain ⟨its, rv, ⟨⟨cls, dd, data, sl⟩, n, ho, hc, hdn, hd⟩, hlen⟩ := I.list hs
  simp only at hc hd
  subst hc hd
  have hi := vals_bls rv
  refine call_meets PySem.F.slot_list_count ⟨_, ho, rfl⟩ PySem.F.entry_list_count (PySem.F.args_list_count_2 _ _)
    (SeqAt.list_countAt p its.toArray n dd sl (.bool k) (eqb k)) ⟨ho, fun y hy => eqb_at hi y (by simpa using hy), ?_⟩
  have ec : its.toArray.toList.countP (eqb k) = bs.count k := by
    show its.countP (eqb k) = _
    rw [hi, eqb_count]
  refine ⟨.int (bs.count k : Nat), H, I.tok _, ⟨s.toks, ?_⟩, q⟩
  show Value.int ((its.toArray.toList.countP (eqb k) : Nat) : Int) s.toks = Value.int ((bs.count k : Nat) : Int) s.toks
  rw [ec]
end
end Ef
set_option Elab.async false
set_option linter.all false
set_option maxRecDepth 100000
set_option maxHeartbeats 4000000
namespace Ef
open PySem PySem.Spec PyProof.Rows L2
abbrev sMless : Stmt := top 23
abbrev sSince : Stmt := inClass (top 20) 2
abbrev sSize : Stmt := inClass (top 20) 17

abbrev sMember : Stmt := inClass (top 20) 21
abbrev sBelow : Stmt := inClass (top 20) 22
abbrev sNumb : Stmt := inClass (top 20) 23
theorem same_inst {H : Hp} {x dx C : Addr} {fs : List (Str × V)} (nx : H x = none) (nd : H dx = none) : Same H (upd (upd H dx (.own x)) x (.ins C dx fs)) := fun b o e => by
  rw [upd_ne (ne_of_none e nx), upd_ne (ne_of_none e nd)]
  exact e
theorem lk_ne {f g : Str} {v : V} {fs : List (Str × V)} (h : ¬ g = f) : (putF f v fs).lookup g = fs.lookup g := by rw [lookup_putF, if_neg h]
theorem lk_eq {f : Str} {v : V} {fs : List (Str × V)} : (putF f v fs).lookup f = some v := by rw [lookup_putF, if_pos rfl]
section
variable {m s : Int} {ra ba ea la : Addr}
theorem wf_late : (wf m s ra ba ea la).lookup ("_late" : Str) = some (.ref la) := lk_eq
theorem wf_early : (wf m s ra ba ea la).lookup ("_early" : Str) = some (.ref ea) := (lk_ne (by decide +kernel)).trans lk_eq
theorem wf_start : (wf m s ra ba ea la).lookup ("start" : Str) = some (.int s) := (lk_ne (by decide +kernel)).trans ((lk_ne (by decide +kernel)).trans ((lk_ne (by decide +kernel)).trans ((lk_ne (by decide +kernel)).trans lk_eq)))
theorem wf_period : (wf m s ra ba ea la).lookup ("period" : Str) = some (.int m) :=
  (lk_ne (by decide +kernel)).trans ((lk_ne (by decide +kernel)).trans ((lk_ne (by decide +kernel)).trans ((lk_ne (by decide +kernel)).trans ((lk_ne (by decide +kernel)).trans lk_eq))))
end
/-- the truth at n of the set told by bs and rs -/
def ftr (bs rs : List Bool) (n : Nat) : Bool := if n < bs.length then bs.getD n false else led rs n
theorem mtruth_ftr (bs rs : List Bool) (n : Nat) : mtruth bs rs (n : Int) = ftr bs rs n := by
  unfold mtruth ftr led
  by_cases h : n < bs.length
  · rw [if_pos h, if_pos (by omega)]; rfl
  · rw [if_neg h, if_neg (by omega), ← Int.natCast_emod]; rfl
theorem Canon.tail {bs rs : List Bool} {m s n : Nat} (h : Canon bs rs m s) (hn : s ≤ n) : ftr bs rs n = led rs n := by
  unfold ftr
  split
  · exact h.start.2.1 n hn ‹_›
  · rfl
theorem Canon.round {bs rs : List Bool} {m s : Nat} (h : Canon bs rs m s) : RoundF (ftr bs rs) s m := fun n hn => by
  rw [h.tail (by omega), h.tail hn, h.per]
theorem early_eq {bs rs : List Bool} {m s : Nat} (h : Canon bs rs m s) : earlyL bs s = (List.range s).filter (ftr bs rs) := by
  unfold earlyL
  refine List.filter_congr fun n hn => ?_
  have := h.start.1
  rw [List.mem_range] at hn
  unfold ftr
  rw [if_pos (by omega)]
theorem late_eq {bs rs : List Bool} {m s : Nat} (h : Canon bs rs m s) : lateL rs m s = memL (ftr bs rs) s m := by
  unfold lateL memL
  refine List.filter_congr fun n hn => ?_
  obtain ⟨i, _, rfl⟩ := List.mem_map.mp hn
  rw [h.tail (by omega)]
/-- at p the set of the truths bs below and rs -/
def Whr (K : PySem.W.Frag) (C : Addr) (H : Hp) (p : Addr) (bs rs : List Bool) : Prop := 1 ≤ rs.length ∧ rs.length ≤ 720 ∧ bs.length ≤ 10000 ∧ ∃ m s, Canon bs rs m s ∧ WAt K C H p m s bs rs
theorem Whr.same {K : PySem.W.Frag} {C : Addr} {H H' : Hp} {p : Addr} {bs rs : List Bool} (h : Whr K C H p bs rs) (e : Same H H') : Whr K C H' p bs rs := by
  obtain ⟨h1, h2, h3, m, s, hc, hw⟩ := h
  exact ⟨h1, h2, h3, m, s, hc, hw.same e⟩
section
variable {P : Program} {w : World} {K : PySem.W.Frag} {mg : Str → Option Value} {base : Heap}
/-! ### _many_less -/
def spMless (K : PySem.W.Frag) : Sp := fun vs H Q _ => ∃ (a : Addr) (ps : List Nat) (x : Int) (k : Nat), vs = [.ref a, .int x] ∧ SqT K H a (ps.map fun n : Nat => V.int (n : Int)) ∧ ps.length ≤ 100000 ∧ Spl ps x k ∧ Q (.int (k : Int)) H
theorem scMless : FnScope ["places", "n", "low", "high", "middle"] ["places", "n"] (defScope sMless) := ⟨rfl, rfl, rfl, by decide +kernel, rfl, by decide +kernel, by decide +kernel⟩
theorem df_mless (A : At K mg "_many_less" sMless) (T : TxtW mg) : Df P w K mg base 1 "_many_less" ["places", "n"] (spMless K) := by
  obtain ⟨f, fd, hm, F⟩ := A.ex
  refine ⟨f, fd, hm, F.kp, F.binds (fun _ _ _ _ _ _ us hl => match us, hl with | [_, _], _ => rfl), F.ok scMless (fun vs H Q E h => ?_) (fun cdv A outer s H vs Q E hr h => ?_)⟩
  · obtain ⟨a, ps, x, k, rfl, _⟩ := h
    rfl
  · obtain ⟨a, ps, x, k, rfl, hS, hlen, hk, q⟩ := h
    refine ⟨_, (pss_cons (ps_par (i := 2) (j := 3) (by rfl) scMless.nd rfl rfl (by decide) rfl rfl (pa_cons pe_int (pa_cons (pe_callB call_len_seq (by rfl) T.len PySem.boot_len (pa_cons (pv 0) pa_nil)) pa_nil)) (by rfl))
      (pss_cons (ps_while PassesOwn.never (pt_cmpR op_lt (pv 2) (pv 3) (nomark _))
      (pss_cons (ps_set (i := 4) scMless.nd rfl (.inl rfl) (pe_op op_fdiv (pe_op op_add (pv 2) (pv 3)) pe_int))
      (pss_one (ps_if (pt_cmpR op_lt (pe_ix ix_tup (pv 0) (pv 4) (fun _ _ => rfl)) (pv 1) (nomark _)) (pss_one (ps_set (i := 2) scMless.nd rfl (.inl rfl) (pe_op op_add (pv 4) pe_int))) (pss_one (ps_set (i := 3) scMless.nd rfl (.inl rfl) (pv 4)))))))
      (pss_one (ps_ret (pv 2))))), ?_⟩
    have hkl := hk.1
    refine ⟨_, rfl, a, _, rfl, .inr hS, ?_⟩
    rw [List.length_map]
    refine ⟨_, _, rfl, ?_⟩
    refine ⟨fun d σ H' => H' = H ∧ ∃ (lo hi : Nat) (y : Option V), σ = [some (.ref a), some (.int x), some (.int (lo : Int)), some (.int (hi : Int)), y] ∧ lo ≤ k ∧ k ≤ hi ∧ hi ≤ ps.length ∧ d = hi - lo, ⟨ps.length, rfl, 0, ps.length, none, rfl, Nat.zero_le _, hkl, Nat.le_refl _, rfl⟩, fun d σ H' hW => ?_⟩
    obtain ⟨rfl, lo, hi, y, rfl, h1, h2, h3, rfl⟩ := hW
    refine ⟨_, rfl, _, rfl, _, _, rfl, rfl, _, rfl, ?_⟩
    by_cases hlt : lo < hi
    · rw [decide_eq_true (show (lo : Int) < (hi : Int) by omega)]
      refine iteT ⟨fun σ' H2 => ∃ d', d' < hi - lo ∧ (H2 = H' ∧ ∃ (lo' hi' : Nat) (y : Option V), σ' = [some (.ref a), some (.int x), some (.int (lo' : Int)), some (.int (hi' : Int)), y] ∧ lo' ≤ k ∧ k ≤ hi' ∧ hi' ≤ ps.length ∧ d' = hi' - lo'), fun σ' H2 h => h, ?_⟩
      refine ⟨_, rfl, _, rfl, _, _, rfl, rfl, _, _, rfl, rfl, ⟨by decide, by decide⟩, ?_⟩
      have emid : (((lo : Int) + (hi : Int)) / 2) = (((lo + hi) / 2 : Nat) : Int) := by omega
      dsimp only
      rw [emid]
      obtain ⟨mid, hmid⟩ : ∃ mid, (lo + hi) / 2 = mid := ⟨_, rfl⟩
      rw [hmid]
      have m1 : lo ≤ mid := by omega
      have m2 : mid < hi := by omega
      obtain ⟨p, hp⟩ : ∃ p, ps[mid]? = some p := ⟨_, List.getElem?_eq_getElem (show mid < ps.length by omega)⟩
      have hat : atI (ps.map fun n : Nat => V.int (n : Int)) (mid : Int) = some (.int (p : Int)) := by
        unfold atI ixN
        rw [if_pos (Int.natCast_nonneg mid), if_pos (by rw [List.length_map]; omega)]
        show (ps.map fun n : Nat => V.int (n : Int))[((mid : Nat) : Int).toNat]? = _
        rw [Int.toNat_natCast, List.getElem?_map, hp]
        rfl
      refine ⟨_, rfl, _, rfl, a, _, _, _, rfl, rfl, hS, hat, _, rfl, _, _, rfl, rfl, _, rfl, ?_⟩
      by_cases hc : (p : Int) < x
      · rw [decide_eq_true hc]
        have hkm : mid < k := by
          rcases Nat.lt_or_ge mid k with z | z
          · exact z
          · have := hk.2.2 mid p z hp; omega
        refine iteT ⟨_, rfl, _, _, rfl, rfl, hi - (mid + 1), by omega, rfl, mid + 1, hi, _, rfl, by omega, h2, h3, rfl⟩
      · rw [decide_eq_false hc]
        have hkm : k ≤ mid := by
          rcases Nat.lt_or_ge mid k with z | z
          · have := hk.2.1 mid p z hp; omega
          · exact z
        refine iteF ⟨_, rfl, mid - lo, by omega, rfl, lo, mid, _, rfl, h1, hkm, by omega, rfl⟩
    · rw [decide_eq_false (show ¬ (lo : Int) < (hi : Int) by omega)]
      have : lo = k := by omega
      subst this
      exact iteF ⟨_, rfl, q⟩
end
end Ef
set_option Elab.async false
set_option linter.all false
set_option maxRecDepth 100000
set_option maxHeartbeats 4000000
namespace Ef
open PySem PySem.Spec PyProof.Rows L2
section
variable {P : Program} {w : World} {K : PySem.W.Frag} {mg : Str → Option Value} {base : Heap}
/-- what is looked at of a set: its attributes, and that they are the members -/
theorem Whr.look {C : Addr} {H : Hp} {p : Addr} {bs rs : List Bool} (h : Whr K C H p bs rs) : ∃ (m s : Nat) (dx ra ba ea la : Addr), 1 ≤ m ∧ m ≤ 720 ∧ s ≤ 10000 ∧ RoundF (ftr bs rs) s m ∧ H p = some (.ins C dx (wf m s ra ba ea la)) ∧
    SqT K H ea (((List.range s).filter (ftr bs rs)).map fun n : Nat => V.int (n : Int)) ∧ SqT K H la ((memL (ftr bs rs) s m).map fun n : Nat => V.int (n : Int)) ∧ ((List.range s).filter (ftr bs rs)).length ≤ s ∧ (memL (ftr bs rs) s m).length ≤ m := by
  obtain ⟨h1, h2, h3, m, s, hc, dx, ra, ba, ea, la, g1, g2, g3, g4, g5⟩ := h
  have := Nat.le_of_dvd (by omega) hc.dvd
  have := hc.start.1
  rw [early_eq hc] at g4
  rw [late_eq hc] at g5
  refine ⟨m, s, dx, ra, ba, ea, la, hc.m1, by omega, by omega, hc.round, g1, g4, g5, ?_, ?_⟩
  · exact Nat.le_trans (List.length_filter_le _ _) (by rw [List.length_range]; exact Nat.le_refl _)
  · unfold memL
    exact Nat.le_trans (List.length_filter_le _ _) (by rw [List.length_map, List.length_range]; exact Nat.le_refl _)
/-! ### _many_below -/
def spBelow (K : PySem.W.Frag) (C : Addr) : Sp := fun vs H Q _ => ∃ (p : Addr) (n : Int) (bs rs : List Bool), vs = [.ref p, .int n] ∧ Whr K C H p bs rs ∧ ∀ H', Same H H' → Q (.int (cntF (ftr bs rs) n.toNat : Nat)) H'
theorem scBelow : FnScope ["self", "n", "rounds", "left"] ["self", "n"] (defScope sBelow) := ⟨rfl, rfl, rfl, by decide +kernel, rfl, by decide +kernel, by decide +kernel⟩
theorem ok_below {f C : Addr} {fd : FuncData} (F : Fun K "_many_below" "Where._many_below" sBelow f fd) (T : TxtW mg) (hdm : mg "divmod" = none) (CW : ClsW K mg C) (Dmless : Df P w K mg base 1 "_many_less" ["places", "n"] (spMless K)) : FnOk P w K mg base CX0 2 f fd ["self", "n"] (spBelow K C) := by
  refine F.ok scBelow (fun vs H Q E h => ?_) (fun cdv A outer s H vs Q E hr h => ?_)
  · obtain ⟨p, n, bs, rs, rfl, _⟩ := h
    rfl
  · obtain ⟨p, n, bs, rs, rfl, hW, q⟩ := h
    obtain ⟨m, s, dx, ra, ba, ea, la, m1, m7, s1, hR, g1, g4, g5, hE, hL⟩ := hW.look
    refine ⟨_, (pss_cons (ps_if (pt_cmpR op_le (pv 1) (pe_fld (pv 0) rfl) (nomark _)) (pss_one (ps_ret (Dmless.call (hr.mono (by decide)) (pa_cons (pe_fld (pv 0) rfl) (pa_cons (pv 1) pa_nil))))) pss_nil)
      (pss_cons (ps_asg (pe_callB call_divmod (by rfl) hdm (by decide +kernel) (pa_cons (pe_op op_sub (pv 1) (pe_fld (pv 0) rfl)) (pa_cons (pe_fld (pv 0) rfl) pa_nil))) (pg_tup (by rfl) (pgs_cons (pg_name (i := 2) scBelow.nd rfl (.inl rfl)) (pgs_cons (pg_name (i := 3) scBelow.nd rfl (.inl rfl)) pgs_nil))))
      (pss_one (ps_ret (pe_op op_add (pe_op op_add (pe_callB call_len_seq (by rfl) T.len PySem.boot_len (pa_cons (pe_fld (pv 0) rfl) pa_nil)) (pe_op op_mul (pv 2) (pe_callB call_len_seq (by rfl) T.len PySem.boot_len (pa_cons (pe_fld (pv 0) rfl) pa_nil)))) (Dmless.call (hr.mono (by decide)) (pa_cons (pe_fld (pv 0) rfl) (pa_cons (pe_op op_add (pe_fld (pv 0) rfl) (pv 3)) pa_nil)))))))), ?_⟩
    refine ⟨_, rfl, _, rfl, p, C, dx, _, _, rfl, g1, CW.cl, CW.nS, wf_start, _, _, rfl, rfl, _, rfl, ?_⟩
    by_cases hn : n ≤ (s : Int)
    · rw [decide_eq_true hn]
      refine iteT ⟨_, rfl, p, C, dx, _, _, rfl, g1, CW.cl, CW.nE, wf_early, _, rfl, ea, _, n, cntF (ftr bs rs) n.toNat, rfl, g4, by omega, ?_, q H (Same.refl H)⟩
      rcases Int.lt_or_le n 0 with z | z
      · rw [show n.toNat = 0 by omega]
        exact spl_neg (by omega)
      · have := spl_range (f := ftr bs rs) (s := s) (n := n.toNat) (by omega)
        rw [Int.toNat_of_nonneg z] at this
        exact this
    · rw [decide_eq_false hn]
      refine iteF ?_
      refine ⟨_, rfl, _, rfl, p, C, dx, _, _, rfl, g1, CW.cl, CW.nS, wf_start, _, _, rfl, rfl, _, rfl, p, C, dx, _, _, rfl, g1, CW.cl, CW.nP, wf_period, _, _, rfl, ⟨by omega, by omega⟩, fun t ht => ?_⟩
      have s2 := same_new (o := .tup [.int ((n - (s : Int)) / (m : Int)), .int ((n - (s : Int)) % (m : Int))]) ht
      have e2 : (upd H t (.tup [.int ((n - (s : Int)) / (m : Int)), .int ((n - (s : Int)) % (m : Int))])) t = some (.tup [.int ((n - (s : Int)) / (m : Int)), .int ((n - (s : Int)) % (m : Int))]) := upd_same
      generalize upd H t (.tup [.int ((n - (s : Int)) / (m : Int)), .int ((n - (s : Int)) % (m : Int))]) = H2 at s2 e2 ⊢
      refine ⟨t, _, rfl, .inl (.inl e2), rfl, _, _, rfl, _, _, rfl, rfl, ?_⟩
      have g1 := s2 _ _ g1
      have g4 := Same.tup s2 g4
      have g5 := Same.tup s2 g5
      obtain ⟨d, hd⟩ : ∃ d : Nat, n - (s : Int) = (d : Int) := ⟨(n - s).toNat, by omega⟩
      rw [hd]
      have eq_ : (d : Int) / (m : Int) = ((d / m : Nat) : Int) := rfl
      have er : (d : Int) % (m : Int) = ((d % m : Nat) : Int) := rfl
      rw [eq_, er]
      have hr1 : d % m < m := Nat.mod_lt _ (by omega)
      refine ⟨_, rfl, p, C, dx, _, _, rfl, g1, CW.cl, CW.nE, wf_early, ea, _, rfl, .inr g4, _, rfl, _, rfl, p, C, dx, _, _, rfl, g1, CW.cl, CW.nL, wf_late, la, _, rfl, .inr g5, _, _, rfl, rfl, .inr ⟨by rw [List.length_map]; omega, by rw [List.length_map]; omega⟩, _, _, rfl, rfl, ?_⟩
      refine ⟨_, rfl, p, C, dx, _, _, rfl, g1, CW.cl, CW.nL, wf_late, _, rfl, p, C, dx, _, _, rfl, g1, CW.cl, CW.nS, wf_start, _, rfl, _, _, rfl, rfl, la, _, _, (memL (ftr bs rs) s (d % m)).length, rfl, g5, by omega, spl_mem (by omega), _, _, rfl, rfl, ?_⟩
      rw [List.length_map, List.length_map]
      have e : cntF (ftr bs rs) n.toNat = cntF (ftr bs rs) s + d / m * (memL (ftr bs rs) s m).length + (memL (ftr bs rs) s (d % m)).length := by
        have h1 : n.toNat = s + d % m + d / m * m := by
          have := Nat.div_add_mod d m
          rw [Nat.mul_comm] at this
          omega
        rw [h1, cntF_rounds hR, memL_len]
        omega
      have ee : ((cntF (ftr bs rs) n.toNat : Nat) : Int) = (((List.range s).filter (ftr bs rs)).length : Int) + ((d / m : Nat) : Int) * ((memL (ftr bs rs) s m).length : Int) + ((memL (ftr bs rs) s (d % m)).length : Int) := by
        rw [e, Int.natCast_add, Int.natCast_add, Int.natCast_mul]
        rfl
      have qq := q H2 s2
      rw [ee] at qq
      exact qq
/-! ### _numbered -/
def spNumb (K : PySem.W.Frag) (C : Addr) : Sp := fun vs H Q _ => ∃ (p : Addr) (k : Nat) (bs rs : List Bool), vs = [.ref p, .int (k : Int)] ∧ Whr K C H p bs rs ∧ (∀ (j : Nat) H', Same H H' → ftr bs rs j = true → cntF (ftr bs rs) j = k → Q (.int (j : Int)) H') ∧ (∀ H', Same H H' → (∀ j, ftr bs rs j = true → cntF (ftr bs rs) j ≠ k) → Q .non H')
theorem scNumb : FnScope ["self", "k", "rounds", "at"] ["self", "k"] (defScope sNumb) := ⟨rfl, rfl, rfl, by decide +kernel, rfl, by decide +kernel, by decide +kernel⟩
theorem at_nat {ps : List Nat} {i p : Nat} (h : ps[i]? = some p) : atI (ps.map fun n : Nat => V.int (n : Int)) (i : Int) = some (.int (p : Int)) := by
  have hl : i < ps.length := by
    rcases Nat.lt_or_ge i ps.length with z | z
    · exact z
    · rw [List.getElem?_eq_none z] at h; cases h
  unfold atI ixN
  rw [if_pos (Int.natCast_nonneg i), if_pos (by rw [List.length_map]; omega)]
  show (ps.map fun n : Nat => V.int (n : Int))[((i : Nat) : Int).toNat]? = _
  rw [Int.toNat_natCast, List.getElem?_map, h]
  rfl
theorem ok_numb {f C : Addr} {fd : FuncData} (F : Fun K "_numbered" "Where._numbered" sNumb f fd) (T : TxtW mg) (hdm : mg "divmod" = none) (CW : ClsW K mg C) : FnOk P w K mg base CX0 2 f fd ["self", "k"] (spNumb K C) := by
  refine F.ok scNumb (fun vs H Q E h => ?_) (fun cdv A outer s H vs Q E hr h => ?_)
  · obtain ⟨p, k, bs, rs, rfl, _⟩ := h
    rfl
  · obtain ⟨p, k, bs, rs, rfl, hW, q1, q2⟩ := h
    obtain ⟨m, s, dx, ra, ba, ea, la, m1, m7, s1, hR, g1, g4, g5, hE, hL⟩ := hW.look
    refine ⟨_, (pss_cons (ps_if (pt_cmpR op_lt (pv 1) (pe_callB call_len_seq (by rfl) T.len PySem.boot_len (pa_cons (pe_fld (pv 0) rfl) pa_nil)) (nomark _)) (pss_one (ps_ret (pe_ix ix_tup (pe_fld (pv 0) rfl) (pv 1) (fun _ _ => rfl)))) pss_nil)
      (pss_cons (ps_if (pt_cmpR op_eq (pe_callB call_len_seq (by rfl) T.len PySem.boot_len (pa_cons (pe_fld (pv 0) rfl) pa_nil)) pe_int (nomark _)) (pss_one (ps_ret pe_non)) pss_nil)
      (pss_cons (ps_asg (pe_callB call_divmod (by rfl) hdm (by decide +kernel) (pa_cons (pe_op op_sub (pv 1) (pe_callB call_len_seq (by rfl) T.len PySem.boot_len (pa_cons (pe_fld (pv 0) rfl) pa_nil))) (pa_cons (pe_callB call_len_seq (by rfl) T.len PySem.boot_len (pa_cons (pe_fld (pv 0) rfl) pa_nil)) pa_nil))) (pg_tup (by rfl) (pgs_cons (pg_name (i := 2) scNumb.nd rfl (.inl rfl)) (pgs_cons (pg_name (i := 3) scNumb.nd rfl (.inl rfl)) pgs_nil))))
      (pss_one (ps_ret (pe_op op_add (pe_ix ix_tup (pe_fld (pv 0) rfl) (pv 3) (fun _ _ => rfl)) (pe_op op_mul (pv 2) (pe_fld (pv 0) rfl)))))))), ?_⟩
    refine ⟨_, rfl, _, rfl, p, C, dx, _, _, rfl, g1, CW.cl, CW.nE, wf_early, ea, _, rfl, .inr g4, _, _, rfl, rfl, _, rfl, ?_⟩
    rw [List.length_map]
    by_cases hk : k < ((List.range s).filter (ftr bs rs)).length
    · rw [decide_eq_true (show (k : Int) < (((List.range s).filter (ftr bs rs)).length : Int) by omega)]
      obtain ⟨j, hj⟩ : ∃ j, ((List.range s).filter (ftr bs rs))[k]? = some j := ⟨_, List.getElem?_eq_getElem hk⟩
      obtain ⟨j1, j2, j3⟩ := nth_range _ _ _ _ hj
      exact iteT ⟨_, rfl, p, C, dx, _, _, rfl, g1, CW.cl, CW.nE, wf_early, _, rfl, ea, _, _, _, rfl, rfl, g4, at_nat hj, q1 j H (Same.refl H) j2 j3⟩
    rw [decide_eq_false (show ¬ (k : Int) < (((List.range s).filter (ftr bs rs)).length : Int) by omega)]
    refine iteF ⟨_, rfl, p, C, dx, _, _, rfl, g1, CW.cl, CW.nL, wf_late, la, _, rfl, .inr g5, rfl, _, rfl, ?_⟩
    rw [List.length_map]
    have hcs : cntF (ftr bs rs) s = ((List.range s).filter (ftr bs rs)).length := rfl
    rcases Nat.eq_zero_or_pos (memL (ftr bs rs) s m).length with z | z
    · rw [z]
      refine iteT (q2 H (Same.refl H) fun j hj e => ?_)
      rcases Nat.lt_or_ge j s with y | y
      · have := cntF_lt y hj; omega
      · have h1 : j = s + (j - s) % m + (j - s) / m * m := by
          have := Nat.div_add_mod (j - s) m
          rw [Nat.mul_comm] at this
          omega
        have h2 : ftr bs rs (s + (j - s) % m) = true := by
          rw [← hR.mul _ ((j - s) / m) (by omega), ← h1]; exact hj
        have h3 := cntF_lt (f := ftr bs rs) (show s + (j - s) % m < s + m from Nat.add_lt_add_left (Nat.mod_lt _ (by omega)) s) h2
        have h4 := cntF_mono (f := ftr bs rs) (show s ≤ s + (j - s) % m by omega)
        have h5 := memL_len (ftr bs rs) s m
        omega
    rw [show decide (V.int ((memL (ftr bs rs) s m).length : Int) = V.int 0) = false from decide_eq_false (fun y => by injection y with y; omega)]
    refine iteF ?_
    refine ⟨_, rfl, _, rfl, p, C, dx, _, _, rfl, g1, CW.cl, CW.nE, wf_early, ea, _, rfl, .inr g4, _, _, rfl, rfl, _, rfl, p, C, dx, _, _, rfl, g1, CW.cl, CW.nL, wf_late, la, _, rfl, .inr g5, _, _, rfl, ⟨by rw [List.length_map]; omega, by rw [List.length_map]; omega⟩, fun t ht => ?_⟩
    rw [List.length_map, List.length_map]
    obtain ⟨d, hd⟩ : ∃ d : Nat, (k : Int) - (((List.range s).filter (ftr bs rs)).length : Int) = (d : Int) := ⟨k - ((List.range s).filter (ftr bs rs)).length, by omega⟩
    rw [hd]
    have eq_ : (d : Int) / ((memL (ftr bs rs) s m).length : Int) = ((d / (memL (ftr bs rs) s m).length : Nat) : Int) := rfl
    have er : (d : Int) % ((memL (ftr bs rs) s m).length : Int) = ((d % (memL (ftr bs rs) s m).length : Nat) : Int) := rfl
    rw [eq_, er]
    obtain ⟨rd, hrd⟩ : ∃ rd, d / (memL (ftr bs rs) s m).length = rd := ⟨_, rfl⟩
    obtain ⟨a_, ha_⟩ : ∃ a, d % (memL (ftr bs rs) s m).length = a := ⟨_, rfl⟩
    have hal : a_ < (memL (ftr bs rs) s m).length := by rw [← ha_]; exact Nat.mod_lt _ z
    have hdd : (memL (ftr bs rs) s m).length * rd + a_ = d := by rw [← hrd, ← ha_]; exact Nat.div_add_mod d _
    rw [hrd, ha_]
    have s2 := same_new (o := .tup [.int (rd : Int), .int (a_ : Int)]) ht
    have e2 : (upd H t (.tup [.int (rd : Int), .int (a_ : Int)])) t = some (.tup [.int (rd : Int), .int (a_ : Int)]) := upd_same
    generalize upd H t (.tup [.int (rd : Int), .int (a_ : Int)]) = H2 at s2 e2 ⊢
    refine ⟨t, _, rfl, .inl (.inl e2), rfl, _, _, rfl, _, _, rfl, rfl, ?_⟩
    have g1 := s2 _ _ g1
    have g5 := Same.tup s2 g5
    obtain ⟨j, hj⟩ : ∃ j, (memL (ftr bs rs) s m)[a_]? = some j := ⟨_, List.getElem?_eq_getElem hal⟩
    obtain ⟨j1, j2, j3, j4⟩ := nth_mem hj
    refine ⟨_, rfl, p, C, dx, _, _, rfl, g1, CW.cl, CW.nL, wf_late, _, rfl, la, _, _, _, rfl, rfl, g5, at_nat hj, _, rfl, _, rfl, p, C, dx, _, _, rfl, g1, CW.cl, CW.nP, wf_period, _, _, rfl, rfl, .inr ⟨by omega, by omega⟩, _, _, rfl, rfl, ?_⟩
    have hf : ftr bs rs (j + rd * m) = true := by rw [hR.mul _ _ j1]; exact j3
    have hc : cntF (ftr bs rs) (j + rd * m) = k := by
      have h1 := cntF_rounds hR (j - s) rd
      rw [show s + (j - s) = j by omega, j4] at h1
      rw [h1, Nat.mul_comm rd]
      omega
    have qq := q1 (j + rd * m) H2 s2 hf hc
    rw [Int.natCast_add, Int.natCast_mul] at qq
    exact qq
end
end Ef
set_option Elab.async false
set_option linter.all false
set_option maxRecDepth 100000
set_option maxHeartbeats 4000000
namespace Ef
open PySem PySem.Spec PyProof.Rows L2
theorem cntF_const {f : Nat → Bool} {a b : Nat} (h : a ≤ b) (hf : ∀ n, a ≤ n → n < b → f n = false) : cntF f b = cntF f a := by
  induction b with
  | zero => rw [show a = 0 by omega]
  | succ b ih =>
    rcases Nat.lt_or_ge b a with z | z
    · rw [show a = b + 1 by omega]
    · rw [cntF_succ, hf b z (by omega), ih z fun n h1 h2 => hf n h1 (by omega)]
      rfl
theorem bs_map (bs rs : List Bool) : (List.range bs.length).map (ftr bs rs) = bs := by
  refine List.ext_getElem? fun i => ?_
  rw [List.getElem?_map]
  rcases Nat.lt_or_ge i bs.length with z | z
  · rw [List.getElem?_range z, List.getElem?_eq_getElem z]
    show some (ftr bs rs i) = _
    unfold ftr
    rw [if_pos z, List.getD_eq_getElem?_getD, List.getElem?_eq_getElem z]
    rfl
  · rw [List.getElem?_eq_none (by rw [List.length_range]; exact z), List.getElem?_eq_none z]
    rfl
theorem bs_count (bs rs : List Bool) : bs.count true = cntF (ftr bs rs) bs.length := by
  have h := count_filter (ftr bs rs) (List.range bs.length)
  rw [bs_map] at h
  exact h
theorem led_false {rs : List Bool} (h : rs.contains true = false) (n : Nat) : led rs n = false := by
  unfold led
  cases hx : rs.getD (n % rs.length) false with
  | false => rfl
  | true =>
    rw [List.getD_eq_getElem?_getD] at hx
    cases hy : rs[n % rs.length]? with
    | none => rw [hy] at hx; cases hx
    | some b =>
      rw [hy] at hx
      have hb : b = true := hx
      have hm := List.mem_of_getElem? hy
      rw [hb] at hm
      rw [List.contains_eq_mem, decide_eq_true hm] at h
      cases h
theorem led_true {rs : List Bool} (h : rs.contains true = true) : ∃ i, led rs i = true := by
  rw [List.contains_eq_mem] at h
  obtain ⟨i, hi, e⟩ := List.getElem_of_mem (of_decide_eq_true h)
  refine ⟨i, ?_⟩
  unfold led
  rw [Nat.mod_eq_of_lt hi, List.getD_eq_getElem?_getD, List.getElem?_eq_getElem hi, e]
  rfl
/-- as many rounds as wanted -/
theorem mem_pos {bs rs : List Bool} {m s : Nat} (hr : 1 ≤ rs.length) (hc : Canon bs rs m s) (h : rs.contains true = true) : 0 < (memL (ftr bs rs) s m).length := by
  obtain ⟨i, hi⟩ := led_true h
  have hm := hc.m1
  have h1 : led rs (i + rs.length * s) = true := by rw [(led_self rs).mul s i]; exact hi
  have hs : s ≤ i + rs.length * s := Nat.le_trans (Nat.le_mul_of_pos_left s hr) (Nat.le_add_left _ _)
  obtain ⟨n, hn⟩ : ∃ n, i + rs.length * s = n := ⟨_, rfl⟩
  rw [hn] at h1 hs
  have h2 : ftr bs rs n = true := by rw [hc.tail hs]; exact h1
  have e1 : n = s + (n - s) % m + (n - s) / m * m := by
    have := Nat.div_add_mod (n - s) m
    rw [Nat.mul_comm] at this
    omega
  have h3 : ftr bs rs (s + (n - s) % m) = true := by
    rw [← hc.round.mul _ ((n - s) / m) (by omega), ← e1]; exact h2
  have h4 := cntF_lt (f := ftr bs rs) (show s + (n - s) % m < s + m from Nat.add_lt_add_left (Nat.mod_lt _ (by omega)) s) h3
  have h5 := cntF_mono (f := ftr bs rs) (show s ≤ s + (n - s) % m by omega)
  have h6 := memL_len (ftr bs rs) s m
  omega
theorem mem_none {bs rs : List Bool} {m s : Nat} (hc : Canon bs rs m s) (h : rs.contains true = false) : (memL (ftr bs rs) s m).length = 0 ∧ bs.count true = ((List.range s).filter (ftr bs rs)).length := by
  have h1 : ∀ n, s ≤ n → ftr bs rs n = false := fun n hn => by rw [hc.tail hn]; exact led_false h n
  have h2 := memL_len (ftr bs rs) s m
  have h3 := cntF_const (f := ftr bs rs) (show s ≤ s + m by omega) fun n a _ => h1 n a
  have h4 := cntF_const (f := ftr bs rs) hc.start.1 fun n a _ => h1 n a
  rw [bs_count bs rs, h4]
  exact ⟨by omega, rfl⟩
section
variable {m s : Int} {ra ba ea la : Addr}
theorem wf_noB : (wf m s ra ba ea la).lookup ("_many_below" : Str) = none :=
  (lk_ne (by decide +kernel)).trans ((lk_ne (by decide +kernel)).trans ((lk_ne (by decide +kernel)).trans ((lk_ne (by decide +kernel)).trans ((lk_ne (by decide +kernel)).trans ((lk_ne (by decide +kernel)).trans rfl)))))
theorem wf_noN : (wf m s ra ba ea la).lookup ("_numbered" : Str) = none :=
  (lk_ne (by decide +kernel)).trans ((lk_ne (by decide +kernel)).trans ((lk_ne (by decide +kernel)).trans ((lk_ne (by decide +kernel)).trans ((lk_ne (by decide +kernel)).trans ((lk_ne (by decide +kernel)).trans rfl)))))
theorem wf_noH : (wf m s ra ba ea la).lookup ("how_many" : Str) = none :=
  (lk_ne (by decide +kernel)).trans ((lk_ne (by decide +kernel)).trans ((lk_ne (by decide +kernel)).trans ((lk_ne (by decide +kernel)).trans ((lk_ne (by decide +kernel)).trans ((lk_ne (by decide +kernel)).trans rfl)))))
theorem wf_noM : (wf m s ra ba ea la).lookup ("member" : Str) = none :=
  (lk_ne (by decide +kernel)).trans ((lk_ne (by decide +kernel)).trans ((lk_ne (by decide +kernel)).trans ((lk_ne (by decide +kernel)).trans ((lk_ne (by decide +kernel)).trans ((lk_ne (by decide +kernel)).trans rfl)))))
end
abbrev sErrP : Stmt := inClass (top 8) 0
abbrev sErrN : Stmt := inClass (top 9) 0
abbrev sErrM : Stmt := inClass (top 11) 0
abbrev sHow : Stmt := inClass (top 20) 20
abbrev sLeastP : Stmt := inClass (top 20) 16
abbrev sFirstF : Stmt := inClass (top 20) 18
abbrev sLastT : Stmt := inClass (top 20) 19
/-- no integer -/
def Errs (H : Hp) (C : Addr) (fl : Str) (v : V) (E : XK) : Prop := ∀ d H', Same H H' → H d = none → H' d = some (.xd [(fl, v)]) → E (.ref C) (some d) H'
theorem Errs.mono {H H' : Hp} {C : Addr} {fl : Str} {v : V} {E : XK} (h : Errs H C fl v E) (s : Same H H') : Errs H' C fl v E := fun d H2 s2 hd hx => h d H2 (s.trans s2) (s.free hd) hx
def NotFrom (K : PySem.W.Frag) (H : Hp) (v : V) (low : Int) : Prop := (∃ i, v = .int i ∧ ¬ low ≤ i) ∨ NotInt K H v
section
variable {P : Program} {w : World} {K : PySem.W.Frag} {mg : Str → Option Value} {base : Heap}
/-- j is the least member from n on -/
def FirstAt (f : Nat → Bool) (n : Int) (j : Nat) : Prop := f j = true ∧ n ≤ (j : Int) ∧ ∀ i : Nat, f i = true → n ≤ (i : Int) → j ≤ i
def NoFrom (f : Nat → Bool) (n : Int) : Prop := ∀ i : Nat, f i = true → (i : Int) < n
/-- j is the greatest member to n -/
def LastAt (f : Nat → Bool) (n : Int) (j : Nat) : Prop := f j = true ∧ (j : Int) ≤ n ∧ ∀ i : Nat, f i = true → (i : Int) ≤ n → i ≤ j
def NoTo (f : Nat → Bool) (n : Int) : Prop := ∀ i : Nat, f i = true → n < (i : Int)
theorem first_of {f : Nat → Bool} {n : Int} {j : Nat} (hj : f j = true) (hc : cntF f j = cntF f n.toNat) : FirstAt f n j := by
  refine ⟨hj, ?_, fun i hi hn => ?_⟩
  · rcases Int.lt_or_le (j : Int) n with z | z
    · have := cntF_lt (f := f) (show j < n.toNat by omega) hj; omega
    · exact z
  · rcases Nat.lt_or_ge i j with z | z
    · have h1 := cntF_lt z hi
      have h2 := cntF_mono (f := f) (show n.toNat ≤ i by omega)
      omega
    · exact z
theorem nofrom_of {f : Nat → Bool} {n : Int} (hno : ∀ j, f j = true → cntF f j ≠ cntF f n.toNat) : NoFrom f n := fun i hi => by
  rcases Int.lt_or_le (i : Int) n with z | z
  · exact z
  · exfalso
    -- the least member from n on
    have key : ∀ d i, f i = true → n ≤ (i : Int) → i - n.toNat = d → False := by
      intro d
      induction d using Nat.strongRecOn with
      | ind d ih =>
        intro i hi hn hd
        by_cases h : ∃ k, f k = true ∧ n ≤ (k : Int) ∧ k < i
        · obtain ⟨k, h1, h2, h3⟩ := h
          exact ih (k - n.toNat) (by omega) k h1 h2 rfl
        · refine hno i hi (cntF_const (show n.toNat ≤ i by omega) fun k h1 h2 => ?_)
          cases hk : f k with
          | false => rfl
          | true => exact absurd ⟨k, hk, by omega, h2⟩ h
    exact key _ i hi z rfl
theorem last_of {f : Nat → Bool} {n : Int} {j : Nat} (hj : f j = true) (hc : cntF f j + 1 = cntF f (n + 1).toNat) : LastAt f n j := by
  have h1 := cntF_succ f j
  rw [if_pos hj] at h1
  refine ⟨hj, ?_, fun i hi hn => ?_⟩
  · rcases Int.lt_or_le n (j : Int) with z | z
    · have := cntF_mono (f := f) (show (n + 1).toNat ≤ j by omega); omega
    · exact z
  · rcases Nat.lt_or_ge j i with z | z
    · have h2 := cntF_lt (f := f) (show i < (n + 1).toNat by omega) hi
      have h3 := cntF_mono (f := f) (show j + 1 ≤ i by omega)
      omega
    · exact z
theorem noto_of {f : Nat → Bool} {n : Int} (h : cntF f (n + 1).toNat = 0) : NoTo f n := fun i hi => by
  rcases Int.lt_or_le n (i : Int) with z | z
  · exact z
  · have := cntF_lt (f := f) (show i < (n + 1).toNat by omega) hi; omega
theorem nth_exists {f : Nat → Bool} {N k : Nat} (h : k < cntF f N) : ∃ j, f j = true ∧ cntF f j = k := by
  obtain ⟨j, hj⟩ : ∃ j, ((List.range N).filter f)[k]? = some j := ⟨_, List.getElem?_eq_getElem h⟩
  obtain ⟨_, h2, h3⟩ := nth_range f N k j hj
  exact ⟨j, h2, h3⟩
/-! ### least -/
def spLeastP (K : PySem.W.Frag) (C : Addr) : Sp := fun vs H Q _ => ∃ (p : Addr) (bs rs : List Bool), vs = [.ref p] ∧ Whr K C H p bs rs ∧ (∀ (j : Nat) H', Same H H' → FirstAt (ftr bs rs) 0 j → Q (.int (j : Int)) H') ∧ (∀ H', Same H H' → NoFrom (ftr bs rs) 0 → Q .non H')
theorem scLeastP : FnScope ["self"] ["self"] (defScope sLeastP) := ⟨rfl, rfl, rfl, by decide +kernel, rfl, by decide +kernel, by decide +kernel⟩
theorem ok_leastp {f C fNu : Addr} {fd fdNu : FuncData} (F : Fun K "least" "Where.least" sLeastP f fd) (CW : ClsW K mg C) (MNu : Meth K C "_numbered" fNu) (FNu : FnOk P w K mg base CX0 2 fNu fdNu ["self", "k"] (spNumb K C)) (bNu : Binds K fdNu ["self", "k"] []) : FnOk P w K mg base CX0 3 f fd ["self"] (spLeastP K C) := by
  refine F.ok scLeastP (fun vs H Q E h => ?_) (fun cdv A outer s H vs Q E hr h => ?_)
  · obtain ⟨p, bs, rs, rfl, _⟩ := h
    rfl
  · obtain ⟨p, bs, rs, rfl, hW, q1, q2⟩ := h
    obtain ⟨m, s, dx, ra, ba, ea, la, m1, m7, s1, hR, g1, g4, g5, hE, hL⟩ := hW.look
    refine ⟨_, (pss_one (ps_ret (pe_meth (pv 0) CW.cl MNu FNu (hr.mono (by decide)) bNu .nil pass0 (pa_cons pe_int pa_nil)))), ?_⟩
    exact ⟨_, rfl, p, dx, _, rfl, g1, wf_noN, p, 0, bs, rs, rfl, hW, fun j H1 s1 hf hc => q1 j H1 s1 (first_of hf hc), fun H1 s1 hno => q2 H1 s1 (nofrom_of hno)⟩
/-! ### first_from -/
def spFirstF (K : PySem.W.Frag) (C CP : Addr) : Sp := fun vs H Q E => ∃ (p : Addr) (v : V) (bs rs : List Bool), vs = [.ref p, v] ∧ Whr K C H p bs rs ∧
  ((NotInt K H v ∧ Errs H CP "n" v E) ∨ (∃ n : Int, v = .int n ∧ (∀ (j : Nat) H', Same H H' → FirstAt (ftr bs rs) n j → Q (.int (j : Int)) H') ∧ (∀ H', Same H H' → NoFrom (ftr bs rs) n → Q .non H')))
theorem scFirstF : FnScope ["self", "n"] ["self", "n"] (defScope sFirstF) := ⟨rfl, rfl, rfl, by decide +kernel, rfl, by decide +kernel, by decide +kernel⟩
theorem ok_firstf {f C CP fP fB fNu : Addr} {fd fdP fdB fdNu : FuncData} (F : Fun K "first_from" "Where.first_from" sFirstF f fd) (CW : ClsW K mg C) (MB : Meth K C "_many_below" fB) (FB : FnOk P w K mg base CX0 2 fB fdB ["self", "n"] (spBelow K C)) (bB : Binds K fdB ["self", "n"] []) (MNu : Meth K C "_numbered" fNu) (FNu : FnOk P w K mg base CX0 2 fNu fdNu ["self", "k"] (spNumb K C)) (bNu : Binds K fdNu ["self", "k"] [])
    (EP : ErrF K mg "BadPlace" "n" CP fP) (FP : FnOk P w K mg base CX0 1 fP fdP ["self", "n"] (spErr K CP "n")) (bP : Binds K fdP ["self", "n"] []) (Disint : Df P w K mg base 1 "is_int" ["value"] (spIsInt K)) : FnOk P w K mg base (CX P w) 5 f fd ["self", "n"] (spFirstF K C CP) := by
  refine F.okX scFirstF (fun vs H Q E h => ?_) (fun cdv A outer s H vs Q E hr h => ?_)
  · obtain ⟨p, v, bs, rs, rfl, _⟩ := h
    rfl
  · obtain ⟨p, v, bs, rs, rfl, hW, q⟩ := h
    refine ⟨_, (pss_cons (ps_if (pt_not (pt_val (Disint.call (hr.mono (by decide)) (pa_cons (pv 1) pa_nil)))) (pss_one (ps_raise rfl (takes_of rfl rfl rfl rfl) (pmk_oex EP.oex EP.iC EP.tI FP (hr.mono (by decide)) bP .nil pass0 (by rfl) EP.mgC (pa_cons (pv 1) pa_nil)))) pss_nil)
      (pss_one (ps_ret (pe_meth (pv 0) CW.cl MNu FNu (hr.mono (by decide)) bNu .nil pass0 (pa_cons (pe_meth (pv 0) CW.cl MB FB (hr.mono (by decide)) bB .nil pass0 (pa_cons (pv 1) pa_nil)) pa_nil))))), ?_⟩
    rcases q with ⟨⟨n, b1, b2, t1, t2, t3, t4⟩, q⟩ | ⟨n, rfl, q1, q2⟩
    · refine ⟨_, rfl, v, n, b1, b2, rfl, t1, t2, t3, _, rfl, ?_⟩
      rw [t4]
      exact iteT ⟨_, rfl, mk_err (v := v) (R := E) q⟩
    refine ⟨_, rfl, _, "int", true, false, rfl, .base (.int n), by decide +kernel, by decide +kernel, _, rfl, ?_⟩
    refine iteF ?_
    obtain ⟨m, s, dx, ra, ba, ea, la, m1, m7, s1, hR, g1, g4, g5, hE, hL⟩ := hW.look
    refine ⟨_, rfl, p, dx, _, rfl, g1, wf_noN, _, rfl, p, dx, _, rfl, g1, wf_noB, _, rfl, p, n, bs, rs, rfl, hW, fun H1 s1 => ?_⟩
    exact ⟨p, cntF (ftr bs rs) n.toNat, bs, rs, rfl, hW.same s1, fun j H2 s2 hf hc => q1 j H2 (s1.trans s2) (first_of hf hc), fun H2 s2 hno => q2 H2 (s1.trans s2) (nofrom_of hno)⟩
/-! ### last_to -/
def spLastT (K : PySem.W.Frag) (C CP : Addr) : Sp := fun vs H Q E => ∃ (p : Addr) (v : V) (bs rs : List Bool), vs = [.ref p, v] ∧ Whr K C H p bs rs ∧
  ((NotInt K H v ∧ Errs H CP "n" v E) ∨ (∃ n : Int, v = .int n ∧ (∀ (j : Nat) H', Same H H' → LastAt (ftr bs rs) n j → Q (.int (j : Int)) H') ∧ (∀ H', Same H H' → NoTo (ftr bs rs) n → Q .non H')))
theorem scLastT : FnScope ["self", "n", "many"] ["self", "n"] (defScope sLastT) := ⟨rfl, rfl, rfl, by decide +kernel, rfl, by decide +kernel, by decide +kernel⟩
theorem ok_lastt {f C CP fP fB fNu : Addr} {fd fdP fdB fdNu : FuncData} (F : Fun K "last_to" "Where.last_to" sLastT f fd) (CW : ClsW K mg C) (MB : Meth K C "_many_below" fB) (FB : FnOk P w K mg base CX0 2 fB fdB ["self", "n"] (spBelow K C)) (bB : Binds K fdB ["self", "n"] []) (MNu : Meth K C "_numbered" fNu) (FNu : FnOk P w K mg base CX0 2 fNu fdNu ["self", "k"] (spNumb K C)) (bNu : Binds K fdNu ["self", "k"] [])
    (EP : ErrF K mg "BadPlace" "n" CP fP) (FP : FnOk P w K mg base CX0 1 fP fdP ["self", "n"] (spErr K CP "n")) (bP : Binds K fdP ["self", "n"] []) (Disint : Df P w K mg base 1 "is_int" ["value"] (spIsInt K)) : FnOk P w K mg base (CX P w) 5 f fd ["self", "n"] (spLastT K C CP) := by
  refine F.okX scLastT (fun vs H Q E h => ?_) (fun cdv A outer s H vs Q E hr h => ?_)
  · obtain ⟨p, v, bs, rs, rfl, _⟩ := h
    rfl
  · obtain ⟨p, v, bs, rs, rfl, hW, q⟩ := h
    refine ⟨_, (pss_cons (ps_if (pt_not (pt_val (Disint.call (hr.mono (by decide)) (pa_cons (pv 1) pa_nil)))) (pss_one (ps_raise rfl (takes_of rfl rfl rfl rfl) (pmk_oex EP.oex EP.iC EP.tI FP (hr.mono (by decide)) bP .nil pass0 (by rfl) EP.mgC (pa_cons (pv 1) pa_nil)))) pss_nil)
      (pss_cons (ps_set (i := 2) scLastT.nd rfl (.inl rfl) (pe_meth (pv 0) CW.cl MB FB (hr.mono (by decide)) bB .nil pass0 (pa_cons (pe_op op_add (pv 1) pe_int) pa_nil)))
      (pss_one (ps_ret (pe_ifExp (pt_cmpR op_gt (pv 2) pe_int (nomark _)) (pe_meth (pv 0) CW.cl MNu FNu (hr.mono (by decide)) bNu .nil pass0 (pa_cons (pe_op op_sub (pv 2) pe_int) pa_nil)) pe_non))))), ?_⟩
    rcases q with ⟨⟨n, b1, b2, t1, t2, t3, t4⟩, q⟩ | ⟨n, rfl, q1, q2⟩
    · refine ⟨_, rfl, v, n, b1, b2, rfl, t1, t2, t3, _, rfl, ?_⟩
      rw [t4]
      exact iteT ⟨_, rfl, mk_err (v := v) (R := E) q⟩
    refine ⟨_, rfl, _, "int", true, false, rfl, .base (.int n), by decide +kernel, by decide +kernel, _, rfl, ?_⟩
    refine iteF ?_
    obtain ⟨m, s, dx, ra, ba, ea, la, m1, m7, s1, hR, g1, g4, g5, hE, hL⟩ := hW.look
    refine ⟨_, rfl, p, dx, _, rfl, g1, wf_noB, _, rfl, _, _, rfl, rfl, p, n + 1, bs, rs, rfl, hW, fun H1 s1 => ?_⟩
    refine ⟨_, rfl, _, _, rfl, rfl, _, rfl, ?_⟩
    rcases Nat.eq_zero_or_pos (cntF (ftr bs rs) (n + 1).toNat) with z | z
    · rw [decide_eq_false (show ¬ (0 : Int) < ((cntF (ftr bs rs) (n + 1).toNat : Nat) : Int) by omega)]
      exact iteF (q2 H1 s1 (noto_of z))
    · rw [decide_eq_true (show (0 : Int) < ((cntF (ftr bs rs) (n + 1).toNat : Nat) : Int) by omega)]
      refine iteT ⟨_, rfl, p, dx, _, rfl, s1 _ _ g1, wf_noN, _, rfl, _, _, rfl, rfl, p, cntF (ftr bs rs) (n + 1).toNat - 1, bs, rs, ?_, hW.same s1, fun j H2 s2 hf hc => q1 j H2 (s1.trans s2) (last_of hf (by omega)), fun H2 s2 hno => ?_⟩
      · show [V.ref p, V.int (((cntF (ftr bs rs) (n + 1).toNat : Nat) : Int) - 1)] ++ [] = _
        rw [show (((cntF (ftr bs rs) (n + 1).toNat : Nat) : Int) - 1) = ((cntF (ftr bs rs) (n + 1).toNat - 1 : Nat) : Int) by omega]
        rfl
      · obtain ⟨j, h1, h2⟩ := nth_exists (f := ftr bs rs) (N := (n + 1).toNat) (k := cntF (ftr bs rs) (n + 1).toNat - 1) (by omega)
        exact absurd h2 (hno j h1)
theorem scErrP : FnScope ["self", "n"] ["self", "n"] (defScope sErrP) := ⟨rfl, rfl, rfl, by decide +kernel, rfl, by decide +kernel, by decide +kernel⟩
theorem ok_errP {f C fI : Addr} {fd : FuncData} (F : Fun K "__init__" "BadPlace.__init__" sErrP f fd) (T : ErrF K mg "BadPlace" "n" C fI) : FnOk P w K mg base CX0 1 f fd ["self", "n"] (spErr K C "n") := by
  refine F.ok scErrP (fun vs H Q E h => ?_) (fun cdv A outer s H vs Q E hr h => ?_)
  · obtain ⟨a, v, rfl, _⟩ := h
    rfl
  · obtain ⟨a, v, rfl, ha, q⟩ := h
    refine ⟨_, (pss_one (ps_ost (pv 0) (pv 1))), ?_⟩
    exact ⟨_, rfl, _, rfl, a, C, rfl, T.oex, T.nN, .inl ⟨ha, fun dx h1 h2 => q dx h1 h2⟩⟩
theorem scErrN : FnScope ["self", "number"] ["self", "number"] (defScope sErrN) := ⟨rfl, rfl, rfl, by decide +kernel, rfl, by decide +kernel, by decide +kernel⟩
theorem ok_errN {f C fI : Addr} {fd : FuncData} (F : Fun K "__init__" "BadNumber.__init__" sErrN f fd) (T : ErrF K mg "BadNumber" "number" C fI) : FnOk P w K mg base CX0 1 f fd ["self", "number"] (spErr K C "number") := by
  refine F.ok scErrN (fun vs H Q E h => ?_) (fun cdv A outer s H vs Q E hr h => ?_)
  · obtain ⟨a, v, rfl, _⟩ := h
    rfl
  · obtain ⟨a, v, rfl, ha, q⟩ := h
    refine ⟨_, (pss_one (ps_ost (pv 0) (pv 1))), ?_⟩
    exact ⟨_, rfl, _, rfl, a, C, rfl, T.oex, T.nN, .inl ⟨ha, fun dx h1 h2 => q dx h1 h2⟩⟩
theorem scErrM : FnScope ["self", "k"] ["self", "k"] (defScope sErrM) := ⟨rfl, rfl, rfl, by decide +kernel, rfl, by decide +kernel, by decide +kernel⟩
theorem ok_errM {f C fI : Addr} {fd : FuncData} (F : Fun K "__init__" "NoMember.__init__" sErrM f fd) (T : ErrF K mg "NoMember" "k" C fI) : FnOk P w K mg base CX0 1 f fd ["self", "k"] (spErr K C "k") := by
  refine F.ok scErrM (fun vs H Q E h => ?_) (fun cdv A outer s H vs Q E hr h => ?_)
  · obtain ⟨a, v, rfl, _⟩ := h
    rfl
  · obtain ⟨a, v, rfl, ha, q⟩ := h
    refine ⟨_, (pss_one (ps_ost (pv 0) (pv 1))), ?_⟩
    exact ⟨_, rfl, _, rfl, a, C, rfl, T.oex, T.nN, .inl ⟨ha, fun dx h1 h2 => q dx h1 h2⟩⟩
def spHow (K : PySem.W.Frag) (C CP : Addr) : Sp := fun vs H Q E => ∃ (p : Addr) (v u : V) (bs rs : List Bool), vs = [.ref p, v, u] ∧ Whr K C H p bs rs ∧
  ((NotInt K H v ∧ Errs H CP "n" v E) ∨ (∃ lo : Int, v = .int lo ∧ ((NotInt K H u ∧ Errs H CP "n" u E) ∨ (∃ hi : Int, u = .int hi ∧ ∀ H', Same H H' → Q (.int (if lo < hi then ((cntF (ftr bs rs) hi.toNat : Nat) : Int) - ((cntF (ftr bs rs) lo.toNat : Nat) : Int) else 0)) H'))))
theorem scHow : FnScope ["self", "low", "high"] ["self", "low", "high"] (defScope sHow) := ⟨rfl, rfl, rfl, by decide +kernel, rfl, by decide +kernel, by decide +kernel⟩
theorem ok_how {f C CP fP fB : Addr} {fd fdP fdB : FuncData} (F : Fun K "how_many" "Where.how_many" sHow f fd) (CW : ClsW K mg C) (MB : Meth K C "_many_below" fB) (FB : FnOk P w K mg base CX0 2 fB fdB ["self", "n"] (spBelow K C)) (bB : Binds K fdB ["self", "n"] [])
    (EP : ErrF K mg "BadPlace" "n" CP fP) (FP : FnOk P w K mg base CX0 1 fP fdP ["self", "n"] (spErr K CP "n")) (bP : Binds K fdP ["self", "n"] []) (Disint : Df P w K mg base 1 "is_int" ["value"] (spIsInt K)) : FnOk P w K mg base (CX P w) 5 f fd ["self", "low", "high"] (spHow K C CP) := by
  refine F.okX scHow (fun vs H Q E h => ?_) (fun cdv A outer s H vs Q E hr h => ?_)
  · obtain ⟨p, v, u, bs, rs, rfl, _⟩ := h
    rfl
  · obtain ⟨p, v, u, bs, rs, rfl, hW, q⟩ := h
    refine ⟨_, (pss_cons (ps_if (pt_not (pt_val (Disint.call (hr.mono (by decide)) (pa_cons (pv 1) pa_nil)))) (pss_one (ps_raise rfl (takes_of rfl rfl rfl rfl) (pmk_oex EP.oex EP.iC EP.tI FP (hr.mono (by decide)) bP .nil pass0 (by rfl) EP.mgC (pa_cons (pv 1) pa_nil)))) pss_nil)
      (pss_cons (ps_if (pt_not (pt_val (Disint.call (hr.mono (by decide)) (pa_cons (pv 2) pa_nil)))) (pss_one (ps_raise rfl (takes_of rfl rfl rfl rfl) (pmk_oex EP.oex EP.iC EP.tI FP (hr.mono (by decide)) bP .nil pass0 (by rfl) EP.mgC (pa_cons (pv 2) pa_nil)))) pss_nil)
      (pss_one (ps_ret (pe_ifExp (pt_cmpR op_lt (pv 1) (pv 2) (nomark _)) (pe_op op_sub (pe_meth (pv 0) CW.cl MB FB (hr.mono (by decide)) bB .nil pass0 (pa_cons (pv 2) pa_nil)) (pe_meth (pv 0) CW.cl MB FB (hr.mono (by decide)) bB .nil pass0 (pa_cons (pv 1) pa_nil))) pe_int))))), ?_⟩
    rcases q with ⟨⟨n, b1, b2, t1, t2, t3, t4⟩, q⟩ | ⟨lo, rfl, q⟩
    · refine ⟨_, rfl, v, n, b1, b2, rfl, t1, t2, t3, _, rfl, ?_⟩
      rw [t4]
      exact iteT ⟨_, rfl, mk_err (v := v) (R := E) q⟩
    refine ⟨_, rfl, _, "int", true, false, rfl, .base (.int lo), by decide +kernel, by decide +kernel, _, rfl, ?_⟩
    refine iteF ?_
    rcases q with ⟨⟨n, b1, b2, t1, t2, t3, t4⟩, q⟩ | ⟨hi, rfl, q⟩
    · refine ⟨_, rfl, u, n, b1, b2, rfl, t1, t2, t3, _, rfl, ?_⟩
      rw [t4]
      exact iteT ⟨_, rfl, mk_err (v := u) (R := E) q⟩
    refine ⟨_, rfl, _, "int", true, false, rfl, .base (.int hi), by decide +kernel, by decide +kernel, _, rfl, ?_⟩
    refine iteF ?_
    obtain ⟨m, s, dx, ra, ba, ea, la, m1, m7, s1, hR, g1, g4, g5, hE, hL⟩ := hW.look
    refine ⟨_, rfl, _, rfl, _, _, rfl, rfl, _, rfl, ?_⟩
    by_cases hlt : lo < hi
    · rw [decide_eq_true hlt]
      refine iteT ⟨_, rfl, p, dx, _, rfl, g1, wf_noB, _, rfl, p, hi, bs, rs, rfl, hW, fun H1 s1 => ?_⟩
      refine ⟨_, rfl, p, dx, _, rfl, s1 _ _ g1, wf_noB, _, rfl, p, lo, bs, rs, rfl, hW.same s1, fun H2 s2 => ?_⟩
      have qq := q H2 (s1.trans s2)
      rw [if_pos hlt] at qq
      exact ⟨_, _, rfl, rfl, qq⟩
    · rw [decide_eq_false hlt]
      have qq := q H (Same.refl H)
      rw [if_neg hlt] at qq
      exact iteF qq
/-! ### member -/
def spMember (K : PySem.W.Frag) (C CN CM : Addr) : Sp := fun vs H Q E => ∃ (p : Addr) (v : V) (bs rs : List Bool), vs = [.ref p, v] ∧ Whr K C H p bs rs ∧
  ((NotFrom K H v 0 ∧ Errs H CN "number" v E) ∨ (∃ k : Nat, v = .int (k : Int) ∧ (∀ (j : Nat) H', Same H H' → ftr bs rs j = true → cntF (ftr bs rs) j = k → Q (.int (j : Int)) H') ∧ ((∀ j, ftr bs rs j = true → cntF (ftr bs rs) j ≠ k) → Errs H CM "k" v E)))
theorem scMember : FnScope ["self", "k", "found"] ["self", "k"] (defScope sMember) := ⟨rfl, rfl, rfl, by decide +kernel, rfl, by decide +kernel, by decide +kernel⟩
theorem ok_member {f C CN CM fN fM fNu : Addr} {fd fdN fdM fdNu : FuncData} (F : Fun K "member" "Where.member" sMember f fd) (CW : ClsW K mg C) (MNu : Meth K C "_numbered" fNu) (FNu : FnOk P w K mg base CX0 2 fNu fdNu ["self", "k"] (spNumb K C)) (bNu : Binds K fdNu ["self", "k"] [])
    (EN : ErrF K mg "BadNumber" "number" CN fN) (FN : FnOk P w K mg base CX0 1 fN fdN ["self", "number"] (spErr K CN "number")) (bN : Binds K fdN ["self", "number"] []) (EM_ : ErrF K mg "NoMember" "k" CM fM) (FM : FnOk P w K mg base CX0 1 fM fdM ["self", "k"] (spErr K CM "k")) (bM : Binds K fdM ["self", "k"] [])
    (Disfrom : Df P w K mg base 2 "is_int_from" ["value", "low"] (spFrom K)) : FnOk P w K mg base (CX P w) 5 f fd ["self", "k"] (spMember K C CN CM) := by
  refine F.okX scMember (fun vs H Q E h => ?_) (fun cdv A outer s H vs Q E hr h => ?_)
  · obtain ⟨p, v, bs, rs, rfl, _⟩ := h
    rfl
  · obtain ⟨p, v, bs, rs, rfl, hW, q⟩ := h
    refine ⟨_, (pss_cons (ps_if (pt_not (pt_val (Disfrom.call (hr.mono (by decide)) (pa_cons (pv 1) (pa_cons pe_int pa_nil))))) (pss_one (ps_raise rfl (takes_of rfl rfl rfl rfl) (pmk_oex EN.oex EN.iC EN.tI FN (hr.mono (by decide)) bN .nil pass0 (by rfl) EN.mgC (pa_cons (pv 1) pa_nil)))) pss_nil)
      (pss_cons (ps_set (i := 2) scMember.nd rfl (.inl rfl) (pe_meth (pv 0) CW.cl MNu FNu (hr.mono (by decide)) bNu .nil pass0 (pa_cons (pv 1) pa_nil)))
      (pss_cons (ps_if (pt_cmpR op_isN (pv 2) pe_non (nomark _)) (pss_one (ps_raise rfl (takes_of rfl rfl rfl rfl) (pmk_oex EM_.oex EM_.iC EM_.tI FM (hr.mono (by decide)) bM .nil pass0 (by rfl) EM_.mgC (pa_cons (pv 1) pa_nil)))) pss_nil)
      (pss_one (ps_ret (pv 2)))))), ?_⟩
    rcases q with ⟨hN, q⟩ | ⟨k, rfl, q1, q2⟩
    · refine ⟨_, rfl, _, 0, rfl, ?_⟩
      rcases hN with ⟨i, rfl, hi⟩ | hN
      · refine .inl ⟨i, rfl, _, rfl, ?_⟩
        rw [decide_eq_false hi]
        refine iteT ⟨_, rfl, mk_err (v := .int i) (R := E) q⟩
      · refine .inr ⟨hN, _, rfl, ?_⟩
        refine iteT ⟨_, rfl, mk_err (v := v) (R := E) q⟩
    refine ⟨_, rfl, _, 0, rfl, .inl ⟨k, rfl, _, rfl, ?_⟩⟩
    rw [decide_eq_true (show (0 : Int) ≤ (k : Int) by omega)]
    refine iteF ?_
    obtain ⟨m, s, dx, ra, ba, ea, la, m1, m7, s1, hR, g1, g4, g5, hE, hL⟩ := hW.look
    refine ⟨_, rfl, p, dx, _, rfl, g1, wf_noN, _, rfl, p, k, bs, rs, rfl, hW, fun j H1 s1 hf hc => ?_, fun H1 s1 hno => ?_⟩
    · refine ⟨_, rfl, rfl, _, rfl, ?_⟩
      rw [decide_eq_false (show ¬ V.int (j : Int) = V.non from fun z => by cases z)]
      exact iteF ⟨_, rfl, q1 j H1 s1 hf hc⟩
    · refine ⟨_, rfl, rfl, _, rfl, ?_⟩
      rw [decide_eq_true rfl]
      exact iteT ⟨_, rfl, mk_err (v := .int (k : Int)) (R := E) ((q2 hno).mono s1)⟩
end
end Ef
set_option Elab.async false
set_option linter.all false
set_option maxRecDepth 100000
set_option maxHeartbeats 4000000
namespace Ef
open PySem PySem.Spec PyProof.Rows L2
abbrev sContains : Stmt := inClass (top 20) 5
section
variable {m s : Int} {ra ba ea la : Addr}
theorem wf_below : (wf m s ra ba ea la).lookup ("below" : Str) = some (.ref ba) := (lk_ne (by decide +kernel)).trans ((lk_ne (by decide +kernel)).trans lk_eq)
theorem wf_rests : (wf m s ra ba ea la).lookup ("rests" : Str) = some (.ref ra) := (lk_ne (by decide +kernel)).trans ((lk_ne (by decide +kernel)).trans ((lk_ne (by decide +kernel)).trans lk_eq))
end
/-- n from 0 on is in the set exactly if .. -/
theorem Canon.below {bs rs : List Bool} {m s : Nat} (h : Canon bs rs m s) {n : Nat} (hn : n < s) : (bs.take s).getD n false = mtruth bs rs n := by
  have hs := h.start.1
  unfold mtruth
  rw [if_pos (by omega), List.getD_eq_getElem?_getD, List.getD_eq_getElem?_getD, List.getElem?_take, if_pos hn]
  rfl
theorem Canon.above {bs rs : List Bool} {m s : Nat} (h : Canon bs rs m s) (hr : 1 ≤ rs.length) {n : Nat} (hn : s ≤ n) : (rs.take m).getD (n % m) false = mtruth bs rs n := by
  have hm : m ≤ rs.length := Nat.le_of_dvd (by omega) h.dvd
  have hlt := Nat.mod_lt n (show 0 < m from h.m1)
  have e1 : (rs.take m).getD (n % m) false = led rs n := by
    rw [← led_mod h.per h.m1 hm n, List.getD_eq_getElem?_getD, List.getD_eq_getElem?_getD, List.getElem?_take, if_pos hlt]
  rw [e1]
  unfold mtruth
  by_cases hb : n < bs.length
  · rw [if_pos (by omega)]
    exact (h.start.2.1 n hn hb).symm
  · rw [if_neg (by omega)]
    rfl
section
variable {P : Program} {w : World} {K : PySem.W.Frag} {mg : Str → Option Value} {base : Heap}
/-! ### __contains__ -/
def spContains (K : PySem.W.Frag) (C : Addr) : Sp := fun vs H Q _ => ∃ (p : Addr) (x : V) (bs rs : List Bool), vs = [.ref p, x] ∧ Whr K C H p bs rs ∧ ((∃ n : Int, x = .int n ∧ Q (.bl (decide (0 ≤ n) && mtruth bs rs n)) H) ∨ (NotInt K H x ∧ Q (.bl false) H))
theorem scContains : FnScope ["self", "x"] ["self", "x"] (defScope sContains) := ⟨rfl, rfl, rfl, by decide +kernel, rfl, by decide +kernel, by decide +kernel⟩
theorem ok_contains {f C : Addr} {fd : FuncData} (F : Fun K "__contains__" "Where.__contains__" sContains f fd) (CW : ClsW K mg C) (Disfrom : Df P w K mg base 2 "is_int_from" ["value", "low"] (spFrom K)) :
    FnOk P w K mg base CX0 3 f fd ["self", "x"] (spContains K C) := by
  refine F.ok scContains (fun vs H Q E h => ?_) (fun cdv A outer s H vs Q E hr h => ?_)
  · obtain ⟨p, x, bs, rs, rfl, _⟩ := h
    rfl
  · obtain ⟨p, x, bs, rs, rfl, ⟨hr1, hr2, hb2, m, s, hc, dx, ra, ba, ea, la, hp, hra, hba, hea, hla⟩, q⟩ := h
    refine ⟨_, (pss_cons (ps_if (pt_not (pt_val (Disfrom.call (hr.mono (by decide)) (pa_cons (pv 1) (pa_cons pe_int pa_nil))))) (pss_one (ps_ret pe_bl)) pss_nil)
      (pss_one (ps_ret (pe_ifExp (pt_cmpR op_lt (pv 1) (pe_fld (pv 0) rfl) (nomark _)) (pe_ix ix_tup (pe_fld (pv 0) rfl) (pv 1) (fun _ _ => rfl)) (pe_ix ix_tup (pe_fld (pv 0) rfl) (pe_op op_mod (pv 1) (pe_fld (pv 0) rfl)) (fun _ _ => rfl)))))), ?_⟩
    rcases q with ⟨n, rfl, q⟩ | ⟨hn, q⟩
    · refine ⟨_, rfl, _, 0, rfl, .inl ⟨n, rfl, _, rfl, ?_⟩⟩
      by_cases h0 : 0 ≤ n
      · rw [decide_eq_true h0, Bool.true_and] at q
        rw [decide_eq_true h0]
        refine iteF ?_
        refine ⟨_, rfl, _, rfl, p, C, dx, _, _, rfl, hp, CW.cl, CW.nS, wf_start, _, _, rfl, rfl, _, rfl, ?_⟩
        obtain ⟨k, rfl⟩ : ∃ k : Nat, n = k := ⟨n.toNat, (Int.toNat_of_nonneg h0).symm⟩
        have hs := hc.start.1
        have hm : m ≤ rs.length := Nat.le_of_dvd (by omega) hc.dvd
        by_cases hks : k < s
        · rw [decide_eq_true (show (k : Int) < (s : Int) by omega)]
          refine iteT ⟨_, rfl, p, C, dx, _, _, rfl, hp, CW.cl, CW.nB, wf_below, _, rfl, ba, _, _, _, rfl, rfl, hba, atI_nat (get_bls (by rw [List.length_take]; omega)), ?_⟩
          rw [hc.below hks]
          exact q
        · rw [decide_eq_false (show ¬ (k : Int) < (s : Int) by omega)]
          refine iteF ⟨_, rfl, p, C, dx, _, _, rfl, hp, CW.cl, CW.nR, wf_rests, _, rfl, _, rfl, p, C, dx, _, _, rfl, hp, CW.cl, CW.nP, wf_period, _, _, rfl, rfl, show (0 : Int) < (m : Int) by have := hc.m1; omega, ra, _, _, _, rfl, rfl, hra, atI_nat (j := k % m) (get_bls (by
            have := Nat.mod_lt k (show 0 < m from hc.m1)
            rw [List.length_take]; omega)), ?_⟩
          rw [hc.above hr1 (by omega)]
          exact q
      · rw [decide_eq_false h0, Bool.false_and] at q
        rw [decide_eq_false h0]
        exact iteT q
    · refine ⟨_, rfl, _, 0, rfl, .inr ⟨hn, _, rfl, ?_⟩⟩
      exact iteT q
end
end Ef
set_option Elab.async false
set_option linter.all false
set_option maxRecDepth 100000
set_option maxHeartbeats 2000000
/-! ranges of any bounds, with the steps 1 and -1 -/
namespace Ef
open PySem PySem.Spec PyProof.Rows L2
theorem turn_longC {P : Program} {w : World} {K : PySem.W.Frag} {tg : Expr} (it : Addr) (lo c : Int) (n : Nat) : Turn P w K tg (Itc lo c n) [it] it (fun i h => IsLongIter h it (lo + (i : Nat) * c) ((n : Int) - (i : Nat)) c) where
  mem := by simp
  obj := fun i h st b hb => by
    have e : b = it := by simpa using hb
    subst e
    exact ⟨_, st, fun v z => nomatch z⟩
  keep := fun i h h' st k => k it (by simp) _ st
  item := by
    intro X hP hw hK hc i pins s σ H E I hf st hg
    subst hP hw hK
    obtain ⟨f0, f1, f2, f3, f4, f5⟩ := hf it (by simp)
    have W := Walks.longrange (prog := X.prog) (w := X.w) (I.ok.hd hc) it lo c n
    refine W.item i s _ _ hg st fun v h' tk hv st' kk => ?_
    obtain ⟨t, rfl⟩ := hv
    have I1 : Inv X pins σ H { s with heap := h', toks := tk } := I.turned (fun b o hb e => kk b o (by simpa using hb) e) f0 f1 f3 f4 f5
    exact ⟨_, rfl, go_of (s := { s with heap := h', toks := tk }) (n := "longrange_iterator") st' rfl rfl (by decide) ⟨.int (lo + (i : Nat) * c), H, I1, ⟨t, rfl⟩, ⟨rfl, rfl⟩, st', fun b hb => (hf b hb).1⟩⟩
  done := by
    intro X hP hw hK hc i pins s σ H E I hf st hg
    subst hP hw hK
    obtain ⟨f0, f1, f2, f3, f4, f5⟩ := hf it (by simp)
    exact wpAny_pyNext_long_end (I.ok.hd hc) st (by have : n ≤ i := hg; omega) fun h' eb => ⟨rfl, I.turned (t' := s.toks) (fun b o hb e => eb b o hb e) f0 f1 f3 f4 f5⟩
  self := fun A i s Q E st h => wpAny_pyIter_longiter st h
theorem turn_longR {P : Program} {w : World} {K : PySem.W.Frag} {tg : Expr} (it : Addr) (lo : Int) (n : Nat) : Turn P w K tg (Itr lo n) [it] it (fun i h => IsLongIter h it (lo + (i : Nat) * 1) ((n : Int) - (i : Nat)) 1) where
  mem := by simp
  obj := fun i h st b hb => by
    have e : b = it := by simpa using hb
    subst e
    exact ⟨_, st, fun v z => nomatch z⟩
  keep := fun i h h' st k => k it (by simp) _ st
  item := by
    intro X hP hw hK hc i pins s σ H E I hf st hg
    subst hP hw hK
    obtain ⟨f0, f1, f2, f3, f4, f5⟩ := hf it (by simp)
    have W := Walks.longrange (prog := X.prog) (w := X.w) (I.ok.hd hc) it lo 1 n
    refine W.item i s _ _ hg st fun v h' tk hv st' kk => ?_
    obtain ⟨t, rfl⟩ := hv
    have I1 : Inv X pins σ H { s with heap := h', toks := tk } := I.turned (fun b o hb e => kk b o (by simpa using hb) e) f0 f1 f3 f4 f5
    refine ⟨_, rfl, go_of (s := { s with heap := h', toks := tk }) (n := "longrange_iterator") st' rfl rfl (by decide) ⟨.int (lo + i), H, I1, ⟨t, ?_⟩, ⟨rfl, rfl⟩, st', fun b hb => (hf b hb).1⟩⟩
    rw [Int.mul_one]
  done := by
    intro X hP hw hK hc i pins s σ H E I hf st hg
    subst hP hw hK
    obtain ⟨f0, f1, f2, f3, f4, f5⟩ := hf it (by simp)
    exact wpAny_pyNext_long_end (I.ok.hd hc) st (by have : n ≤ i := hg; omega) fun h' eb => ⟨rfl, I.turned (t' := s.toks) (fun b o hb e => eb b o hb e) f0 f1 f3 f4 f5⟩
  self := fun A i s Q E st h => wpAny_pyIter_longiter st h
section
variable {X : Cx} {tg : Expr}
/-- a range just made, of any bounds -/
theorem range_itL {pins : List (Addr × Obj)} {σ : L2.St} {H : Hp} {s : Shared} {R : It → Hp → Prop} {E : Value → Shared → Prop} {i j k : Int} {n : Nat} {t u v : Tok} {tk : Nat} (I : Inv X pins σ H s) (c3 : Builtin.Range.rangeSize i j k = n)
    (q : R (Itc i k n) H) : wpAny (model X.prog X.w) X.A (pyIter (.ref s.heap.objs.size)) (PIE X pins σ tg R) E { s with heap := s.heap.push { cls := .type "range", data := .fields #[.int i t, .int j u, .int k v] }, toks := tk } := by
  have I2 : Inv X pins σ H { s with heap := s.heap.push { cls := .type "range", data := .fields #[.int i t, .int j u, .int k v] }, toks := tk } := I.kept (t' := tk) fun b o e => Heap.get?_push_of_some _ e
  have e1 : i + ((0 : Nat) : Int) * k = i := by simp
  have e2 : (n : Int) - ((0 : Nat) : Int) = Builtin.Range.rangeSize i j k := by rw [c3]; simp
  cases hs : Builtin.Range.small i j k with
  | true =>
    refine wpAny_pyIter_range (IsRange.new ..) hs ?_
    refine pi_one (tk := tk) I2 _ (turn_rangeC _ i k n) ?_ q
    show IsRangeIter _ _ (i + ((0 : Nat) : Int) * k) ((n : Int) - ((0 : Nat) : Int)) k
    rw [e1, e2]
    exact Heap.get?_push_size _ rfl
  | false =>
    refine wpAny_pyIter_longrange (IsRange.new ..) hs ?_
    refine pi_one (tk := tk) I2 _ (turn_longC _ i k n) ?_ q
    show IsLongIter _ _ (i + ((0 : Nat) : Int) * k) ((n : Int) - ((0 : Nat) : Int)) k
    rw [e1, e2]
    exact Heap.get?_push_size _ rfl
def iRng1L (ta : TA) : TI := fun σ H R => ta σ H fun vs H1 => ∃ j : Int, vs = [.int j] ∧ R (Itr 0 j.toNat) H1
theorem pi_range1L {a : Expr} {ta : TA} {p pos : Pos} (hg : Gl X "range") (hm : X.mg "range" = none) (ha : PA X [a] ta) (hs : starEach [a] X.env = [(false, eval a X.env)] := by rfl) : PI X tg (.Call (.Name "range" p) [a] [] pos) (iRng1L ta) := by
  refine ⟨fun pins s σ H R I h => ?_⟩
  refine Call_ (ld_blt I hg hm boot_range (PyProof.Rows.callWith_type1 (thn (ha.run pos pins s σ H _ I h) fun us s1 ⟨vs, H1, I1, r1, q1⟩ => ?_) hs rfl))
  obtain ⟨j, e, q⟩ := q1
  subst e
  cases r1 with
  | cons r rr =>
    cases rr
    obtain ⟨t, rfl⟩ := r
    refine call_range_1 ?_
    have c3 : Builtin.Range.rangeSize 0 j 1 = (j.toNat : Nat) := by rw [rangeSize_one]; split <;> omega
    have I2 : Inv X pins σ H1 { s1 with heap := s1.heap.push { cls := .type "range", data := .fields #[.int 0 s1.toks, .int j t, .int 1 (s1.toks + 1)] }, toks := s1.toks + 1 + 1 } := I1.kept (t' := s1.toks + 1 + 1) fun b o e => Heap.get?_push_of_some _ e
    have e1 : (0 : Int) + ((0 : Nat) : Int) * 1 = 0 := by simp
    have e2 : ((j.toNat : Nat) : Int) - ((0 : Nat) : Int) = Builtin.Range.rangeSize 0 j 1 := by rw [c3]; simp
    cases hs : Builtin.Range.small 0 j 1 with
    | true =>
      refine wpAny_pyIter_range (IsRange.new ..) hs ?_
      refine pi_one (tk := s1.toks + 1 + 1) I2 _ (turn_range _ 0 j.toNat) ?_ q
      show IsRangeIter _ _ ((0 : Int) + ((0 : Nat) : Int) * 1) (((j.toNat : Nat) : Int) - ((0 : Nat) : Int)) 1
      rw [e1, e2]
      exact Heap.get?_push_size _ rfl
    | false =>
      refine wpAny_pyIter_longrange (IsRange.new ..) hs ?_
      refine pi_one (tk := s1.toks + 1 + 1) I2 _ (turn_longR _ 0 j.toNat) ?_ q
      show IsLongIter _ _ ((0 : Int) + ((0 : Nat) : Int) * 1) (((j.toNat : Nat) : Int) - ((0 : Nat) : Int)) 1
      rw [e1, e2]
      exact Heap.get?_push_size _ rfl
def iRng2L (ta : TA) : TI := fun σ H R => ta σ H fun vs H1 => ∃ i j : Int, vs = [.int i, .int j] ∧ R (Itc i 1 (j - i).toNat) H1
theorem pi_range2L {a b : Expr} {ta : TA} {p pos : Pos} (hg : Gl X "range") (hm : X.mg "range" = none) (ha : PA X [a, b] ta) (hs : starEach [a, b] X.env = [(false, eval a X.env), (false, eval b X.env)] := by rfl) (hs2 : starEach [b] X.env = [(false, eval b X.env)] := by rfl) :
    PI X tg (.Call (.Name "range" p) [a, b] [] pos) (iRng2L ta) := by
  refine ⟨fun pins s σ H R I h => ?_⟩
  refine Call_ (ld_blt I hg hm boot_range (PyProof.Rows.callWith_type1 (thn (ha.run pos pins s σ H _ I h) fun us s1 ⟨vs, H1, I1, r1, q1⟩ => ?_) (by rw [hs, hs2]) (by rw [hs2]; rfl)))
  obtain ⟨i, j, e, q⟩ := q1
  subst e
  cases r1 with
  | cons r rr =>
    cases rr with
    | cons r' rr =>
      cases rr
      obtain ⟨t, rfl⟩ := r
      obtain ⟨t', rfl⟩ := r'
      refine call_range_2 (range_itL I1 ?_ q)
      rw [rangeSize_one]
      split <;> omega
def iRngDL (ta : TA) : TI := fun σ H R => ta σ H fun vs H1 => ∃ i j : Int, vs = [.int i, .int j, .int (-1)] ∧ R (Itc i (-1) (i - j).toNat) H1
theorem pi_rangeDL {a b c : Expr} {ta : TA} {p pos : Pos} (hg : Gl X "range") (hm : X.mg "range" = none) (ha : PA X [a, b, c] ta)
    (hs : starEach [a, b, c] X.env = (false, eval a X.env) :: starEach [b, c] X.env := by rfl) (hpl : (backTo pos (starEach [b, c] X.env)).any (·.1) = false := by rfl) :
    PI X tg (.Call (.Name "range" p) [a, b, c] [] pos) (iRngDL ta) := by
  refine ⟨fun pins s σ H R I h => ?_⟩
  refine Call_ (ld_blt I hg hm boot_range (PyProof.Rows.callWith_type1 (thn (ha.run pos pins s σ H _ I h) fun us s1 ⟨vs, H1, I1, r1, q1⟩ => ?_) hs hpl))
  obtain ⟨i, j, e, q⟩ := q1
  subst e
  cases r1 with
  | cons r rr =>
    cases rr with
    | cons r' rr =>
      cases rr with
      | cons r'' rr =>
        cases rr
        obtain ⟨t, rfl⟩ := r
        obtain ⟨t', rfl⟩ := r'
        obtain ⟨t'', rfl⟩ := r''
        exact call_range_3 (by decide) (range_itL (tk := s1.toks) I1 (PySem.W.rangeSize_downNat i j) q) (.inl (PyProof.noPylong_small (by decide)))
end
end Ef
set_option Elab.async false
set_option linter.all false
set_option maxRecDepth 100000
set_option maxHeartbeats 4000000
namespace Ef
open PySem PySem.Spec PyProof.Rows L2
abbrev sIn : Stmt := top 32
abbrev sFst : Stmt := top 33
theorem round_model {bs rs : List Bool} : RoundF (ftr bs rs) bs.length rs.length := fun n hn => by
  unfold ftr
  rw [if_neg (by omega), if_neg (by omega)]
  exact led_self rs n
/-- a member far out has an equal one in the round that begins at a -/
theorem round_back {bs rs : List Bool} {a i : Nat} (hr : 1 ≤ rs.length) (ha : bs.length ≤ a) (hi : a ≤ i) : ∃ j, a ≤ j ∧ j < a + rs.length ∧ j ≤ i ∧ ftr bs rs j = ftr bs rs i := by
  have hm : (i - a) % rs.length < rs.length := Nat.mod_lt _ hr
  have hd := Nat.div_add_mod (i - a) rs.length
  rw [Nat.mul_comm] at hd
  refine ⟨a + (i - a) % rs.length, by omega, by omega, by have := Nat.mod_le (i - a) rs.length; omega, ?_⟩
  have h := (round_model (bs := bs) (rs := rs)).mul (a + (i - a) % rs.length) ((i - a) / rs.length) (by omega)
  rw [← h]
  congr 1
  omega
theorem early_ftr {bs rs : List Bool} {n : Nat} (h : n ≤ bs.length) : earlyL bs n = (List.range n).filter (ftr bs rs) := by
  unfold earlyL
  refine List.filter_congr fun k hk => ?_
  rw [List.mem_range] at hk
  unfold ftr
  rw [if_pos (by omega)]
/-- a member has an equal one in any later round -/
theorem round_on {bs rs : List Bool} {a i : Nat} (hr : 1 ≤ rs.length) (hi : bs.length ≤ i) (ha : i ≤ a) : ∃ j, a ≤ j ∧ j < a + rs.length ∧ ftr bs rs j = ftr bs rs i := by
  have hm : (a + rs.length - 1 - i) % rs.length < rs.length := Nat.mod_lt _ hr
  have hd := Nat.div_add_mod (a + rs.length - 1 - i) rs.length
  have hd' : (a + rs.length - 1 - i) / rs.length * rs.length + (a + rs.length - 1 - i) % rs.length = a + rs.length - 1 - i := by rw [Nat.mul_comm]; exact hd
  refine ⟨i + (a + rs.length - 1 - i) / rs.length * rs.length, by omega, by omega, ?_⟩
  exact (round_model (bs := bs) (rs := rs)).mul i ((a + rs.length - 1 - i) / rs.length) hi
section
variable {P : Program} {w : World} {K : PySem.W.Frag} {mg : Str → Option Value} {base : Heap}
/-! ### _law_in -/
def inF (bs rs : List Bool) (n : Int) : Bool := decide (0 ≤ n) && mtruth bs rs n
theorem inF_nat (bs rs : List Bool) (n : Nat) : inF bs rs (n : Int) = ftr bs rs n := by
  unfold inF
  rw [decide_eq_true (Int.natCast_nonneg n), Bool.true_and, mtruth_ftr]
def spIn : Sp := fun vs H Q _ => ∃ (r : Addr) (bs rs : List Bool) (n : Int), vs = [.ref r, .int n] ∧ Md H r bs rs ∧ 1 ≤ rs.length ∧ Q (.bl (inF bs rs n)) H
theorem scIn : FnScope ["model", "n"] ["model", "n"] (defScope sIn) := ⟨rfl, rfl, rfl, by decide +kernel, rfl, by decide +kernel, by decide +kernel⟩
theorem df_in (A : At K mg "_law_in" sIn) (T : TxtW mg) : Df P w K mg base 1 "_law_in" ["model", "n"] spIn := by
  obtain ⟨f, fd, hm, F⟩ := A.ex
  refine ⟨f, fd, hm, F.kp, F.binds (fun _ _ _ _ _ _ us hl => match us, hl with | [_, _], _ => rfl), F.ok scIn (fun vs H Q E h => ?_) (fun cdv A outer s H vs Q E hr h => ?_)⟩
  · obtain ⟨r, bs, rs, n, rfl, _⟩ := h
    rfl
  · obtain ⟨r, bs, rs, n, rfl, ⟨rb, rr, h1, h2, h3⟩, hr1, q⟩ := h
    refine ⟨_, (pss_one (ps_ret (pe_and (pe_cmpR op_ge (pv 1) pe_int (nomark _)) (pe_one (pe_ifExp (pt_cmpR op_lt (pv 1) (pe_callB call_len_seq (by rfl) T.len PySem.boot_len (pa_cons (pe_ix ix_tup (pv 0) pe_int (fun _ _ => rfl)) pa_nil)) (nomark _)) (pe_ix ix_seq (pe_ix ix_tup (pv 0) pe_int (fun _ _ => rfl)) (pv 1) (fun _ _ => rfl)) (pe_ix ix_seq (pe_ix ix_tup (pv 0) pe_int (fun _ _ => rfl)) (pe_op op_mod (pv 1) (pe_callB call_len_seq (by rfl) T.len PySem.boot_len (pa_cons (pe_ix ix_tup (pv 0) pe_int (fun _ _ => rfl)) pa_nil))) (fun _ _ => rfl))))))), ?_⟩
    refine ⟨_, rfl, _, _, rfl, rfl, _, rfl, ?_⟩
    unfold inF at q
    by_cases h0 : 0 ≤ n
    · rw [decide_eq_true h0] at q ⊢
      rw [Bool.true_and] at q
      refine iteT ⟨_, rfl, _, rfl, r, _, 0, _, rfl, rfl, .inl (.inl h1), rfl, rb, _, rfl, .inl (.inl (.inl h2)), _, _, rfl, rfl, _, rfl, ?_⟩
      rw [List.length_map]
      unfold mtruth at q
      by_cases hb : n < (bs.length : Int)
      · rw [if_pos hb] at q
        rw [decide_eq_true hb]
        exact iteT ⟨_, rfl, r, _, 0, _, rfl, rfl, .inl (.inl h1), rfl, _, rfl, ix_bls (.inl (.inl (.inl h2))) h0 hb q⟩
      · rw [if_neg hb] at q
        rw [decide_eq_false hb]
        have hlt : n % (rs.length : Int) < (rs.length : Int) := Int.emod_lt_of_pos n (by omega)
        have hge : 0 ≤ n % (rs.length : Int) := Int.emod_nonneg n (by omega)
        refine iteF ⟨_, rfl, r, _, 1, _, rfl, rfl, .inl (.inl h1), rfl, _, rfl, _, rfl, r, _, 1, _, rfl, rfl, .inl (.inl h1), rfl, rr, _, rfl, .inl (.inl (.inl h3)), _, _, rfl, rfl, by rw [List.length_map]; omega, ?_⟩
        rw [List.length_map]
        exact ix_bls (.inl (.inl (.inl h3))) hge hlt q
    · rw [decide_eq_false h0] at q ⊢
      exact iteF q
/-! ### _law_first -/
def spFst : Sp := fun vs H Q _ => ∃ (r : Addr) (n : Int) (bs rs : List Bool), vs = [.ref r, .int n] ∧ Md H r bs rs ∧ 1 ≤ rs.length ∧ rs.length ≤ 720 ∧ bs.length ≤ 10000 ∧ (∀ (j : Nat) H', Same H H' → FirstAt (ftr bs rs) n j → Q (.int (j : Int)) H') ∧ (∀ H', Same H H' → NoFrom (ftr bs rs) n → Q .non H')
theorem scFst : FnScope ["model", "n", "low", "high", "k"] ["model", "n"] (defScope sFst) := ⟨rfl, rfl, rfl, by decide +kernel, rfl, by decide +kernel, by decide +kernel⟩
theorem df_first (A : At K mg "_law_first" sFst) (T : TxtW mg) (hmax : mg "max" = none) (Din : Df P w K mg base 1 "_law_in" ["model", "n"] spIn) : Df P w K mg base 2 "_law_first" ["model", "n"] spFst := by
  obtain ⟨f, fd, hm, F⟩ := A.ex
  refine ⟨f, fd, hm, F.kp, F.binds (fun _ _ _ _ _ _ us hl => match us, hl with | [_, _], _ => rfl), F.ok scFst (fun vs H Q E h => ?_) (fun cdv A outer s H vs Q E hr h => ?_)⟩
  · obtain ⟨r, n, bs, rs, rfl, _⟩ := h
    rfl
  · obtain ⟨r, n, bs, rs, rfl, ⟨rb, rr, h1, h2, h3⟩, hr1, hr2, hb2, q1, q2⟩ := h
    refine ⟨_, (pss_cons (ps_set (i := 2) scFst.nd rfl (.inl rfl) (pe_callB (call_max2 rfl) (by rfl) hmax (by decide +kernel) (pa_cons (pe_callTy call_int1 (by rfl) T.int (by decide +kernel) (pa_cons (pv 1) pa_nil)) (pa_cons pe_int pa_nil))))
      (pss_cons (ps_set (i := 3) scFst.nd rfl (.inl rfl) (pe_op op_add (pe_callB (call_max2 rfl) (by rfl) hmax (by decide +kernel) (pa_cons (pv 2) (pa_cons (pe_callB call_len_seq (by rfl) T.len PySem.boot_len (pa_cons (pe_ix ix_tup (pv 0) pe_int (fun _ _ => rfl)) pa_nil)) pa_nil))) (pe_callB call_len_seq (by rfl) T.len PySem.boot_len (pa_cons (pe_ix ix_tup (pv 0) pe_int (fun _ _ => rfl)) pa_nil))))
      (pss_cons (ps_for PassesOwn.never rfl (pi_range2L (by rfl) T.range (pa_cons (pv 2) (pa_cons (pv 3) pa_nil))) (pg_name (i := 4) scFst.nd rfl (.inl rfl))
      (pss_one (ps_if (pt_val (Din.call (hr.mono (by decide)) (pa_cons (pv 0) (pa_cons (pv 4) pa_nil)))) (pss_one (ps_ret (pv 4))) pss_nil)))
      (pss_one (ps_ret pe_non))))), ?_⟩
    obtain ⟨lo, hlo⟩ : ∃ lo : Nat, (if 0 > n then 0 else n) = (lo : Int) := ⟨n.toNat, by split <;> omega⟩
    have hlon : lo = n.toNat := by split at hlo <;> omega
    refine ⟨_, rfl, .inl ⟨n, rfl, _, _, rfl, ?_⟩⟩
    rw [hlo]
    refine ⟨_, rfl, _, rfl, r, _, 0, _, rfl, rfl, .inl (.inl h1), rfl, rb, _, rfl, .inl (.inl (.inl h2)), _, _, rfl, _, rfl, r, _, 1, _, rfl, rfl, .inl (.inl h1), rfl, rr, _, rfl, .inl (.inl (.inl h3)), _, _, rfl, rfl, ?_⟩
    rw [List.length_map, List.length_map]
    obtain ⟨hi, hhi⟩ : ∃ hi : Int, (if ((bs.length : Nat) : Int) > (lo : Int) then ((bs.length : Nat) : Int) else (lo : Int)) + ((rs.length : Nat) : Int) = hi := ⟨_, rfl⟩
    show gName 3 (V.int ((if ((bs.length : Nat) : Int) > (lo : Int) then ((bs.length : Nat) : Int) else (lo : Int)) + ((rs.length : Nat) : Int))) _ _ _
    rw [hhi]
    obtain ⟨N, hN⟩ : ∃ N : Nat, (hi - (lo : Int)).toNat = N := ⟨_, rfl⟩
    have hNN : lo + N = max bs.length lo + rs.length := by
      split at hhi <;> omega
    refine ⟨_, rfl, _, rfl, _, _, rfl, ?_⟩
    rw [hN]
    refine for_rangeC (lo := lo) (c := 1) (n := N) (fun i σ H' => H' = H ∧ (∀ k : Nat, lo ≤ k → k < lo + i → ftr bs rs k = false) ∧ ∃ y : Option V, σ = [some (.ref r), some (.int n), some (.int (lo : Int)), some (.int hi), y]) ⟨rfl, fun k a b => by omega, _, rfl⟩ ?_ ?_
    · rintro i σ H' hi ⟨rfl, hno, y, rfl⟩
      have ek : ((lo : Int) + ((i : Nat) : Int) * 1) = ((lo + i : Nat) : Int) := by omega
      rw [ek]
      refine ⟨_, rfl, _, rfl, r, bs, rs, _, rfl, ⟨rb, rr, h1, h2, h3⟩, hr1, ?_⟩
      rw [inF_nat]
      refine ⟨_, rfl, ite2 (fun hb => ?_) (fun hb => ?_)⟩
      · exact ⟨_, rfl, q1 _ H' (Same.refl _) ⟨hb, by omega, fun j hj hn => by
          rcases Nat.lt_or_ge j (lo + i) with z | z
          · rw [hno j (by omega) z] at hj; cases hj
          · exact z⟩⟩
      · refine ⟨rfl, fun k a b => ?_, _, rfl⟩
        rcases Nat.lt_or_ge k (lo + i) with z | z
        · exact hno k a z
        · rw [show k = lo + i by omega]; simpa using hb
    · rintro σ H' ⟨rfl, hno, y, rfl⟩
      refine q2 H' (Same.refl _) fun i hi => ?_
      rcases Int.lt_or_le (i : Int) n with z | z
      · exact z
      · exfalso
        rcases Nat.lt_or_ge i (lo + N) with z2 | z2
        · rw [hno i (by omega) z2] at hi; cases hi
        · obtain ⟨j, j1, j2, j3, j4⟩ := round_back (bs := bs) (rs := rs) (a := max bs.length lo) (i := i) hr1 (by omega) (by omega)
          rw [hno j (by omega) (by omega)] at j4
          rw [← j4] at hi
          cases hi
end
end Ef
set_option Elab.async false
set_option linter.all false
set_option maxRecDepth 100000
set_option maxHeartbeats 4000000
namespace Ef
open PySem PySem.Spec PyProof.Rows L2
abbrev sLst : Stmt := top 34
structure TxtL (mg : Str → Option Value) : Prop extends TxtI mg where
  min : mg "min" = none
section
variable {P : Program} {w : World} {K : PySem.W.Frag} {mg : Str → Option Value} {base : Heap}
def spLst : Sp := fun vs H Q _ => ∃ (r : Addr) (n : Int) (bs rs : List Bool), vs = [.ref r, .int n] ∧ 0 ≤ n ∧ Md H r bs rs ∧ 1 ≤ rs.length ∧ rs.length ≤ 720 ∧ bs.length ≤ 10000 ∧ (∀ (j : Nat) H', Same H H' → LastAt (ftr bs rs) n j → Q (.int (j : Int)) H') ∧ (∀ H', Same H H' → NoTo (ftr bs rs) n → Q .non H')
theorem scLst : FnScope ["model", "n", "low", "k"] ["model", "n"] (defScope sLst) := ⟨rfl, rfl, rfl, by decide +kernel, rfl, by decide +kernel, by decide +kernel⟩
theorem df_last (A : At K mg "_law_last" sLst) (T : TxtL mg) (hmax : mg "max" = none) (Din : Df P w K mg base 1 "_law_in" ["model", "n"] spIn) : Df P w K mg base 2 "_law_last" ["model", "n"] spLst := by
  obtain ⟨f, fd, hm, F⟩ := A.ex
  refine ⟨f, fd, hm, F.kp, F.binds (fun _ _ _ _ _ _ us hl => match us, hl with | [_, _], _ => rfl), F.ok scLst (fun vs H Q E h => ?_) (fun cdv A outer s H vs Q E hr h => ?_)⟩
  · obtain ⟨r, n, bs, rs, rfl, _⟩ := h
    rfl
  · obtain ⟨r, n, bs, rs, rfl, hn0, ⟨rb, rr, h1, h2, h3⟩, hr1, hr2, hb2, q1, q2⟩ := h
    refine ⟨_, (pss_cons (ps_set (i := 2) scLst.nd rfl (.inl rfl) (pe_ifExp (pt_cmpR op_ge (pv 1) (pe_callB call_len_seq (by rfl) T.len PySem.boot_len (pa_cons (pe_ix ix_tup (pv 0) pe_int (fun _ _ => rfl)) pa_nil)) (nomark _)) (pe_callB (call_max2 rfl) (by rfl) hmax (by decide +kernel) (pa_cons (pe_op op_sub (pe_callTy call_int1 (by rfl) T.int (by decide +kernel) (pa_cons (pv 1) pa_nil)) (pe_callB call_len_seq (by rfl) T.len PySem.boot_len (pa_cons (pe_ix ix_tup (pv 0) pe_int (fun _ _ => rfl)) pa_nil))) (pa_cons pe_int pa_nil))) pe_int))
      (pss_cons (ps_for PassesOwn.never rfl (pi_rangeDL (by rfl) T.range (pa_cons (pv 1) (pa_cons (pe_op op_sub (pv 2) pe_int) (pa_cons (pe_un un_neg pe_int) pa_nil)))) (pg_name (i := 3) scLst.nd rfl (.inl rfl))
      (pss_one (ps_if (pt_val (Din.call (hr.mono (by decide)) (pa_cons (pv 0) (pa_cons (pv 3) pa_nil)))) (pss_one (ps_ret (pv 3))) pss_nil)))
      (pss_cons (ps_for PassesOwn.never rfl (pi_rangeDL (by rfl) T.range (pa_cons (pe_callB (call_min2 rfl) (by rfl) T.min (by decide +kernel) (pa_cons (pe_callTy call_int1 (by rfl) T.int (by decide +kernel) (pa_cons (pv 1) pa_nil)) (pa_cons (pe_op op_sub (pe_callB call_len_seq (by rfl) T.len PySem.boot_len (pa_cons (pe_ix ix_tup (pv 0) pe_int (fun _ _ => rfl)) pa_nil)) pe_int) pa_nil))) (pa_cons (pe_un un_neg pe_int) (pa_cons (pe_un un_neg pe_int) pa_nil)))) (pg_name (i := 3) scLst.nd rfl (.inl rfl))
      (pss_one (ps_if (pt_truth (pe_ix ix_seq (pe_ix ix_tup (pv 0) pe_int (fun _ _ => rfl)) (pv 3) (fun _ _ => rfl)) (by intro _; rfl)) (pss_one (ps_ret (pv 3))) pss_nil)))
      (pss_one (ps_ret pe_non))))), ?_⟩
    refine ⟨_, rfl, _, rfl, r, _, 0, _, rfl, rfl, .inl (.inl h1), rfl, rb, _, rfl, .inl (.inl (.inl h2)), _, _, rfl, rfl, _, rfl, ?_⟩
    rw [List.length_map]
    rcases Int.lt_or_le n (bs.length : Int) with hb | hb
    case' inl =>
      rw [decide_eq_false (show ¬ ((bs.length : Int) ≤ n) by omega)]
      refine iteF ?_
      show gName 2 (V.int (0 + 0)) _ _ _
      have hl : 0 ≤ (0 + 0 : Int) ∧ (0 + 0 : Int) ≤ max 0 (n - rs.length) ∧ (n < (bs.length : Int) → (0 + 0 : Int) = 0) := ⟨by omega, by omega, fun _ => rfl⟩
      revert hl
      generalize (0 + 0 : Int) = low
    case' inr =>
      rw [decide_eq_true hb]
      refine iteT ⟨_, rfl, .inl ⟨n, rfl, _, rfl, r, _, 1, _, rfl, rfl, .inl (.inl h1), rfl, rr, _, rfl, .inl (.inl (.inl h3)), _, _, rfl, rfl, _, _, rfl, ?_⟩⟩
      rw [List.length_map]
      show gName 2 (V.int (if 0 > n - (rs.length : Int) then 0 else n - (rs.length : Int))) _ _ _
      have hl : 0 ≤ (if 0 > n - (rs.length : Int) then 0 else n - (rs.length : Int)) ∧ (if 0 > n - (rs.length : Int) then 0 else n - (rs.length : Int)) ≤ max 0 (n - rs.length) ∧ (n < (bs.length : Int) → (if 0 > n - (rs.length : Int) then 0 else n - (rs.length : Int)) = 0) := ⟨by split <;> omega, by split <;> omega, fun z => by omega⟩
      revert hl
      generalize (if 0 > n - (rs.length : Int) then 0 else n - (rs.length : Int)) = low
    all_goals
      intro hl
      refine ⟨_, rfl, _, rfl, _, _, rfl, rfl, _, rfl, _, _, rfl, ?_⟩
      obtain ⟨N, hN⟩ : ∃ N : Nat, (n - (low - 1)).toNat = N := ⟨_, rfl⟩
      rw [hN]
      refine for_rangeC (lo := n) (c := -1) (n := N) (fun i σ H' => H' = H ∧ (∀ k : Nat, (k : Int) ≤ n → n - i < (k : Int) → ftr bs rs k = false) ∧ ∃ y : Option V, σ = [some (.ref r), some (.int n), some (.int low), y]) ⟨rfl, fun k a b => by omega, _, rfl⟩ ?_ ?_
      · rintro i σ H' hi ⟨rfl, hno, y, rfl⟩
        obtain ⟨k, ek⟩ : ∃ k : Nat, (n + ((i : Nat) : Int) * -1) = (k : Int) := ⟨(n - i).toNat, by omega⟩
        rw [ek]
        refine ⟨_, rfl, _, rfl, r, bs, rs, _, rfl, ⟨rb, rr, h1, h2, h3⟩, hr1, ?_⟩
        rw [inF_nat]
        refine ⟨_, rfl, ite2 (fun hb => ?_) (fun hb => ?_)⟩
        · exact ⟨_, rfl, q1 _ H' (Same.refl _) ⟨hb, by omega, fun j hj hn => by
            rcases Nat.lt_or_ge k j with z | z
            · rw [hno j hn (by omega)] at hj; cases hj
            · exact z⟩⟩
        · refine ⟨rfl, fun j a b => ?_, _, rfl⟩
          rcases Nat.lt_or_ge k j with z | z
          · exact hno j a (by omega)
          · rw [show j = k by omega]; simpa using hb
      · rintro σ H' ⟨rfl, hno, y, rfl⟩
        have hfar : ∀ i : Nat, ftr bs rs i = true → (i : Int) ≤ n → i < bs.length := fun i hi hn => by
          rcases Nat.lt_or_ge i bs.length with z | z
          · exact z
          · exfalso
            rcases Int.lt_or_le (low - 1) (i : Int) with z2 | z2
            · rw [hno i hn (by omega)] at hi; cases hi
            · obtain ⟨a, ha⟩ : ∃ a : Nat, (a : Int) = n - rs.length + 1 := ⟨(n - rs.length + 1).toNat, by omega⟩
              obtain ⟨j, j1, j2, j4⟩ := round_on (bs := bs) (rs := rs) (a := a) (i := i) hr1 z (by omega)
              rw [hno j (by omega) (by omega)] at j4
              rw [← j4] at hi
              cases hi
        refine ⟨_, rfl, .inl ⟨n, rfl, _, rfl, r, _, 0, _, rfl, rfl, .inl (.inl h1), rfl, rb, _, rfl, .inl (.inl (.inl h2)), _, _, rfl, rfl, _, _, rfl, _, rfl, _, rfl, _, _, rfl, ?_⟩⟩
        obtain ⟨M, hM⟩ : ∃ M : Int, (if (((bs.map V.bl).length : Nat) : Int) - 1 < n then (((bs.map V.bl).length : Nat) : Int) - 1 else n) = M := ⟨_, rfl⟩
        rw [hM]
        rw [List.length_map] at hM
        have hM1 : M ≤ n ∧ M < bs.length ∧ (∀ i : Nat, (i : Int) ≤ n → i < bs.length → (i : Int) ≤ M) := by
          refine ⟨by split at hM <;> omega, by split at hM <;> omega, fun i a b => by split at hM <;> omega⟩
        obtain ⟨N2, hN2⟩ : ∃ N2 : Nat, (M - -1).toNat = N2 := ⟨_, rfl⟩
        rw [hN2]
        refine for_rangeC (lo := M) (c := -1) (n := N2) (fun i σ H2 => H2 = H' ∧ (∀ k : Nat, (k : Int) ≤ M → M - i < (k : Int) → ftr bs rs k = false) ∧ ∃ y : Option V, σ = [some (.ref r), some (.int n), some (.int low), y]) ⟨rfl, fun k a b => by omega, _, rfl⟩ ?_ ?_
        · rintro i σ H2 hi ⟨rfl, hno2, y2, rfl⟩
          obtain ⟨k, ek⟩ : ∃ k : Nat, (M + ((i : Nat) : Int) * -1) = (k : Int) := ⟨(M - i).toNat, by omega⟩
          rw [ek]
          refine ⟨_, rfl, r, _, 0, _, rfl, rfl, .inl (.inl h1), rfl, _, rfl, ix_bls (.inl (.inl (.inl h2))) (by omega) (by omega) ⟨_, rfl, ?_⟩⟩
          have ef : bs.getD ((k : Nat) : Int).toNat false = ftr bs rs k := by
            unfold ftr
            rw [if_pos (by omega)]
            rfl
          rw [ef]
          refine ite2 (fun hb => ?_) (fun hb => ?_)
          · exact ⟨_, rfl, q1 _ H2 (Same.refl _) ⟨hb, by omega, fun j hj hn => by
              have hjb := hfar j hj hn
              have hjM := hM1.2.2 j hn hjb
              rcases Nat.lt_or_ge k j with z | z
              · rw [hno2 j hjM (by omega)] at hj; cases hj
              · exact z⟩⟩
          · refine ⟨rfl, fun j a b => ?_, _, rfl⟩
            rcases Nat.lt_or_ge k j with z | z
            · exact hno2 j a (by omega)
            · rw [show j = k by omega]; simpa using hb
        · rintro σ H2 ⟨rfl, hno2, y2, rfl⟩
          refine q2 H2 (Same.refl _) fun i hi => ?_
          rcases Int.lt_or_le n (i : Int) with z | z
          · exact z
          · have hib := hfar i hi z
            have hiM := hM1.2.2 i z hib
            rw [hno2 i hiM (by omega)] at hi
            cases hi
end
end Ef
set_option Elab.async false
set_option linter.all false
set_option maxRecDepth 100000
set_option maxHeartbeats 4000000
namespace Ef
open PySem PySem.Spec PyProof.Rows L2
abbrev sBlw : Stmt := top 35
def rLenK (K : PySem.W.Frag) : List V → Hp → VK → Prop := fun xs H Q => ∃ p ys, xs = [V.ref p] ∧ (SqL K H p ys ∨ SqT K H p ys) ∧ Q (V.int (ys.length : Int)) H
theorem first_count (f : Nat → Bool) (a b : Nat) : ((List.range b).map fun k => f (a + k)).count true = (memL f a b).length := by
  have h := count_filter f ((List.range b).map fun i => a + i)
  rw [List.map_map] at h
  exact h
theorem take_map_range (g : Nat → Bool) {r l : Nat} (h : r ≤ l) : ((List.range l).map g).take r = (List.range r).map g := by
  refine List.ext_getElem? fun i => ?_
  rcases Nat.lt_or_ge i r with z | z
  · rw [List.getElem?_take_of_lt z, List.getElem?_map, List.getElem?_map, List.getElem?_range z, List.getElem?_range (by omega)]
  · rw [List.getElem?_eq_none (by rw [List.length_take]; omega), List.getElem?_eq_none (by rw [List.length_map, List.length_range]; exact z)]
theorem early_cnt {bs rs : List Bool} {n : Nat} (h : n ≤ bs.length) : (earlyL bs n).length = cntF (ftr bs rs) n := by
  unfold earlyL cntF
  congr 1
  refine List.filter_congr fun k hk => ?_
  rw [List.mem_range] at hk
  unfold ftr
  rw [if_pos (by omega)]
theorem memL_succ (f : Nat → Bool) (a i : Nat) : (memL f a (i + 1)).map (fun n : Nat => V.int (n : Int)) = (memL f a i).map (fun n : Nat => V.int (n : Int)) ++ (if f (a + i) = true then [V.int ((a + i : Nat) : Int)] else []) := by
  unfold memL
  rw [List.range_succ, List.map_append, List.filter_append, List.map_append]
  congr 1
  show ((([a + i] : List Nat).filter f).map fun n : Nat => V.int (n : Int)) = _
  by_cases h : f (a + i) = true
  · rw [List.filter_cons_of_pos h, if_pos h]; rfl
  · rw [List.filter_cons_of_neg h, if_neg h]; rfl
theorem memL_le (f : Nat → Bool) (a b : Nat) : (memL f a b).length ≤ b := by
  unfold memL
  refine Nat.le_trans (List.length_filter_le _ _) ?_
  rw [List.length_map, List.length_range]; exact Nat.le_refl b
/-- a round has as many members as the rests -/
theorem round_count {bs rs : List Bool} : (memL (ftr bs rs) bs.length rs.length).length = rs.count true := by
  have e1 : memL (ftr bs rs) bs.length rs.length = memL (led rs) bs.length rs.length := by
    unfold memL
    refine List.filter_congr fun n hn => ?_
    obtain ⟨i, _, rfl⟩ := List.mem_map.mp hn
    unfold ftr
    rw [if_neg (by omega)]
  have hl : RoundF (led rs) 0 rs.length := fun n _ => led_self rs n
  have h1 := cntF_round hl bs.length
  have h2 := memL_len (led rs) bs.length rs.length
  have h3 := memL_len (led rs) 0 rs.length
  have h4 : cntF (ftr rs rs) rs.length = cntF (led rs) rs.length := by
    unfold cntF
    congr 1
    refine List.filter_congr fun n hn => ?_
    rw [List.mem_range] at hn
    unfold ftr
    rw [if_pos hn]
    unfold led
    rw [Nat.mod_eq_of_lt hn]
  have h5 := bs_count rs rs
  rw [e1, h5, h4]
  rw [Nat.zero_add] at h1 h3
  have h6 : cntF (led rs) 0 = 0 := rfl
  omega
section
variable {P : Program} {w : World} {K : PySem.W.Frag} {mg : Str → Option Value} {base : Heap}
def spBlw : Sp := fun vs H Q _ => ∃ (r : Addr) (n : Nat) (bs rs : List Bool), vs = [.ref r, .int (n : Int)] ∧ Md H r bs rs ∧ 1 ≤ rs.length ∧ rs.length ≤ 720 ∧ bs.length ≤ 10000 ∧ ∀ H', Same H H' → Q (.int (cntF (ftr bs rs) n : Nat)) H'
theorem scBlw : FnScope ["model", "n", "low", "rests", "rounds", "rest", "more", "k"] ["model", "n"] (defScope sBlw) := ⟨rfl, rfl, rfl, by decide +kernel, rfl, by decide +kernel, by decide +kernel⟩
theorem df_below (A : At K mg "_law_below" sBlw) (T : TxtL mg) : Df P w K mg base 2 "_law_below" ["model", "n"] spBlw := by
  obtain ⟨f, fd, hm, F⟩ := A.ex
  refine ⟨f, fd, hm, F.kp, F.binds (fun _ _ _ _ _ _ us hl => match us, hl with | [_, _], _ => rfl), F.ok scBlw (fun vs H Q E h => ?_) (fun cdv A outer s H vs Q E hr h => ?_)⟩
  · obtain ⟨r, n, bs, rs, rfl, _⟩ := h
    rfl
  · obtain ⟨r, n, bs, rs, rfl, ⟨rb, rr, h1, h2, h3⟩, hr1, hr2, hb2, q⟩ := h
    refine ⟨_, (pss_cons (ps_asg (pe_tup (pa_cons (pe_callB call_len_seq (by rfl) T.len PySem.boot_len (pa_cons (pe_ix ix_tup (pv 0) pe_int (fun _ _ => rfl)) pa_nil)) (pa_cons (pe_ix ix_tup (pv 0) pe_int (fun _ _ => rfl)) pa_nil))) (pg_tup (by rfl) (pgs_cons (pg_name (i := 2) scBlw.nd rfl (.inl rfl)) (pgs_cons (pg_name (i := 3) scBlw.nd rfl (.inr rfl)) pgs_nil))))
      (pss_cons (ps_if (pt_cmpR op_le (pv 1) (pv 2) (nomark _)) (pss_one (ps_ret (pe_callB call_len_seq (by rfl) T.len PySem.boot_len (pa_cons (pe_lc (own := [("k", 7)]) (g := gName 7) (by rfl) scBlw.nd (pi_range1 (by rfl) T.range (pa_cons (pv 1) pa_nil)) (blkOk_by (own := [("k", 7)]) (N := ["model", "n", "low", "rests", "rounds", "rest", "more", "k"]) (sc := defScope sBlw) (by decide +kernel)) (fun _ _ _ _ _ => pg_name (i := 7) scBlw.nd rfl (Or.inl rfl)) (fun _ _ _ _ _ => (pts_one (pt_val (pe_ix (show IxR _ (rIx K) from ix_seq) (pe_ix (show IxR _ (rIxT K) from ix_tup) (pv 0) pe_int (fun _ _ => rfl)) (pv 7) (fun _ _ => rfl))))) (fun _ _ _ _ _ => (pv 7))) pa_nil)))) pss_nil)
      (pss_cons (ps_par (i := 4) (j := 5) (by rfl) scBlw.nd rfl rfl (by decide) rfl rfl (pa_cons (pe_op op_fdiv (pe_op op_sub (pv 1) (pv 2)) (pe_callB call_len_seq (by rfl) T.len PySem.boot_len (pa_cons (pv 3) pa_nil))) (pa_cons (pe_op op_mod (pe_callTy call_int1 (by rfl) T.int (by decide +kernel) (pa_cons (pe_op op_sub (pv 1) (pv 2)) pa_nil)) (pe_callB call_len_seq (by rfl) T.len PySem.boot_len (pa_cons (pv 3) pa_nil))) pa_nil)) (by rfl))
      (pss_cons (ps_set (i := 6) scBlw.nd rfl (.inl rfl) (pe_callB call_len_seq (by rfl) T.len PySem.boot_len (pa_cons (pe_lc (own := [("k", 7)]) (g := gName 7) (by rfl) scBlw.nd (pi_range2 (by rfl) T.range (pa_cons (pv 2) (pa_cons (pe_op op_add (pv 2) (pv 5)) pa_nil))) (blkOk_by (own := [("k", 7)]) (N := ["model", "n", "low", "rests", "rounds", "rest", "more", "k"]) (sc := defScope sBlw) (by decide +kernel)) (fun _ _ _ _ _ => pg_name (i := 7) scBlw.nd rfl (Or.inl rfl)) (fun _ _ _ _ _ => (pts_one (pt_val (pe_ix (show IxR _ (rIx K) from ix_seq) (pv 3) (pe_op op_mod (pv 7) (pe_callB (show CallR _ (.builtin "len") (rLenK K) from call_len_seq) (by rfl) T.len PySem.boot_len (pa_cons (pv 3) pa_nil))) (fun _ _ => rfl))))) (fun _ _ _ _ _ => (pv 7))) pa_nil)))
      (pss_one (ps_ret (pe_op op_add (pe_op op_add (pe_bm PySem.F.plainAttrs_list PySem.F.slot_list_count PySem.F.type_list_count mt_lcountB (pe_ix ix_tup (pv 0) pe_int (fun _ _ => rfl)) (pa_cons pe_bl pa_nil)) (pe_op op_mul (pv 4) (pe_bm PySem.F.plainAttrs_list PySem.F.slot_list_count PySem.F.type_list_count mt_lcountB (pv 3) (pa_cons pe_bl pa_nil)))) (pv 6)))))))), ?_⟩
    refine ⟨_, rfl, r, _, 0, _, rfl, rfl, .inl (.inl h1), rfl, rb, _, rfl, .inl (.inl (.inl h2)), _, rfl, r, _, 1, _, rfl, rfl, .inl (.inl h1), rfl, by show 2 ≤ sizeLine; decide, fun t ht => ?_⟩
    rw [List.length_map]
    have s0 : Same H (upd H t (.tup [.int (bs.length : Int), .ref rr])) := same_new ht
    have e0 : (upd H t (.tup [.int (bs.length : Int), .ref rr])) t = some (.tup [.int (bs.length : Int), .ref rr]) := upd_same
    have h1 := s0 _ _ h1
    have h2 := s0 _ _ h2
    have h3 := s0 _ _ h3
    have q : ∀ H', Same (upd H t (.tup [.int (bs.length : Int), .ref rr])) H' → Q (.int (cntF (ftr bs rs) n : Nat)) H' := fun H' sx => q H' (s0.trans sx)
    generalize upd H t (.tup [.int (bs.length : Int), .ref rr]) = H1 at e0 h1 h2 h3 q ⊢
    refine ⟨t, _, rfl, .inl (.inl e0), rfl, _, _, rfl, _, _, rfl, rfl, ?_⟩
    refine ⟨_, rfl, _, rfl, _, _, rfl, rfl, _, rfl, ?_⟩
    by_cases hn : (n : Int) ≤ (bs.length : Int)
    · rw [decide_eq_true hn]
      refine iteT ⟨_, rfl, n, rfl, by omega, by omega, fun D hD => ?_⟩
      rw [show ((n : Nat) : Int).toNat = n from rfl]
      refine lc_range (lo := 0) (n := n) (fun i H' => Same H1 H' ∧ H' D = some (.lst ((earlyL bs i).map fun n : Nat => V.int (n : Int)))) ⟨same_new hD, upd_same⟩ ?_ ?_
      · rintro i Hx hi ⟨sx, hx⟩
        have ez : ((0 : Int) + ((i : Nat) : Int)) = (i : Int) := Int.zero_add _
        refine ⟨rfl, _, rfl, r, _, 0, _, rfl, rfl, .inl (.inl (sx _ _ h1)), rfl, _, rfl, ix_bls (.inl (.inl (.inl (sx _ _ h2)))) (by omega) (by omega) ⟨_, rfl, ?_⟩⟩
        rw [ez]
        have et : ((i : Nat) : Int).toNat = i := rfl
        rw [et]
        refine ite2 (fun hb => ?_) (fun hb => ?_)
        · refine ⟨_, rfl, _, hx, by rw [List.length_map]; exact small1000' (Nat.le_trans (early_len bs i) (by omega)), same_mut sx hD, ?_⟩
          rw [upd_same, early_succ, if_pos hb]
        · refine ⟨sx, ?_⟩
          rw [hx, early_succ, if_neg hb, List.append_nil]
      rintro H4 ⟨s4, hA⟩
      refine ⟨D, _, rfl, .inl (.inl (.inl hA)), ?_⟩
      rw [List.length_map, early_ftr (rs := rs) (by omega)]
      exact q H4 s4
    · rw [decide_eq_false hn]
      refine iteF ?_
      obtain ⟨d, hd⟩ : ∃ d : Nat, (n : Int) - (bs.length : Int) = (d : Int) := ⟨((n : Int) - bs.length).toNat, by omega⟩
      refine ⟨_, rfl, _, rfl, _, _, rfl, rfl, ?_⟩
      dsimp only
      rw [hd]
      have hr3 : d % rs.length < rs.length := Nat.mod_lt _ hr1
      have eq_ : (d : Int) / (rs.length : Int) = ((d / rs.length : Nat) : Int) := rfl
      have er : (d : Int) % (rs.length : Int) = ((d % rs.length : Nat) : Int) := rfl
      refine ⟨_, rfl, rr, _, rfl, .inl (.inl (.inl h3)), _, _, rfl, rfl, ⟨by rw [List.length_map]; omega, by rw [List.length_map]; omega⟩, _, rfl, _, rfl, _, _, rfl, rfl, .inl ⟨_, rfl, _, rfl, rr, _, rfl, .inl (.inl (.inl h3)), _, _, rfl, rfl, by rw [List.length_map]; omega, ?_⟩⟩
      dsimp only
      rw [hd, List.length_map, eq_, er]
      refine ⟨_, _, rfl, ?_⟩
      refine ⟨_, rfl, _, rfl, _, rfl, _, _, rfl, rfl, _, _, rfl, ⟨by omega, by omega, by omega, by omega⟩, fun D hD => ?_⟩
      rw [show ((bs.length : Int) + ((d % rs.length : Nat) : Int) - (bs.length : Int)).toNat = d % rs.length by omega]
      refine lc_range (lo := bs.length) (n := d % rs.length) (fun i H' => Same H1 H' ∧ H' D = some (.lst ((memL (ftr bs rs) bs.length i).map fun n : Nat => V.int (n : Int)))) ⟨same_new hD, upd_same⟩ ?_ ?_
      · rintro i Hx hi ⟨sx, hx⟩
        have ez : (((bs.length + i : Nat) : Int) % (rs.length : Int)) = (((bs.length + i) % rs.length : Nat) : Int) := rfl
        have hm := Nat.mod_lt (bs.length + i) hr1
        refine ⟨rfl, _, rfl, _, rfl, _, rfl, rr, _, rfl, .inl (.inl (.inl (sx _ _ h3))), _, _, rfl, rfl, by rw [List.length_map]; omega, ?_⟩
        show rIx K (.ref rr) (.int (((bs.length + i : Nat) : Int) % (((rs.map V.bl).length : Nat) : Int))) Hx _
        rw [List.length_map, ez]
        refine ix_bls (.inl (.inl (.inl (sx _ _ h3)))) (by omega) (by omega) ⟨_, rfl, ?_⟩
        have ef : rs.getD ((((bs.length + i) % rs.length : Nat) : Int)).toNat false = ftr bs rs (bs.length + i) := by
          unfold ftr
          rw [if_neg (by omega)]
          rfl
        rw [ef]
        refine ite2 (fun hb => ?_) (fun hb => ?_)
        · refine ⟨_, rfl, _, hx, by rw [List.length_map]; exact small1000' (Nat.le_trans (memL_le _ _ i) (by omega)), same_mut sx hD, ?_⟩
          rw [upd_same, memL_succ, if_pos hb]
          rfl
        · refine ⟨sx, ?_⟩
          rw [hx, memL_succ, if_neg hb, List.append_nil]
      rintro H4 ⟨s4, hA⟩
      have h1b := s4 _ _ h1
      have h2b := s4 _ _ h2
      have h3b := s4 _ _ h3
      have hcl : rs.count true ≤ rs.length := List.count_le_length
      refine ⟨D, _, rfl, .inl (.inl (.inl hA)), ?_⟩
      rw [List.length_map]
      refine ⟨_, rfl, r, _, 0, _, rfl, rfl, .inl (.inl h1b), rfl, .inl ⟨rfl, _, .inl (.inl h2b)⟩, rb, bs, true, rfl, rfl, .inl (.inl h2b), ?_⟩
      refine ⟨_, rfl, _, rfl, .inl ⟨rfl, _, .inl (.inl h3b)⟩, rr, rs, true, rfl, rfl, .inl (.inl h3b), _, _, rfl, rfl, .inr ⟨by omega, by omega⟩, _, _, rfl, rfl, ?_⟩
      refine ⟨_, rfl, _, _, rfl, rfl, ?_⟩
      have e : cntF (ftr bs rs) n = bs.count true + d / rs.length * rs.count true + (memL (ftr bs rs) bs.length (d % rs.length)).length := by
        have h1 : n = bs.length + d % rs.length + d / rs.length * rs.length := by
          have := Nat.div_add_mod d rs.length
          rw [Nat.mul_comm] at this
          omega
        have h2 := cntF_rounds (round_model (bs := bs) (rs := rs)) (d % rs.length) (d / rs.length)
        rw [← h1, memL_len, round_count, ← bs_count bs rs] at h2
        omega
      have qq := q H4 s4
      rw [e, Int.natCast_add, Int.natCast_add, Int.natCast_mul] at qq
      exact qq
end
end Ef
set_option Elab.async false
set_option linter.all false
set_option maxRecDepth 100000
set_option maxHeartbeats 4000000
namespace Ef
open PySem PySem.Spec PyProof.Rows L2
abbrev sRo : Stmt := top 31
/-- no shorter row told again and again -/
def Prim (rs : List Bool) : Prop := ∀ d, 1 ≤ d → d ∣ rs.length → d < rs.length → ¬ PerF (led rs) d
theorem hot_prim {rs : List Bool} {at_ : Nat} {b : Bool} (ha : at_ < rs.length) (h : ∀ k, k < rs.length → rs.getD k false = (if k = at_ then b else !b)) : Prim rs := fun d h1 _ h3 hp => by
  have e := hp at_
  unfold led at e
  have hm := Nat.mod_lt (at_ + d) (show 0 < rs.length by omega)
  have hne : (at_ + d) % rs.length ≠ at_ := fun z => by
    rcases Nat.lt_or_ge (at_ + d) rs.length with y | y
    · rw [Nat.mod_eq_of_lt y] at z; omega
    · rw [Nat.mod_eq_sub_mod y, Nat.mod_eq_of_lt (by omega)] at z; omega
  rw [Nat.mod_eq_of_lt ha, h _ hm, h _ ha, if_neg hne, if_pos rfl] at e
  cases b <;> cases e
theorem dint86 (a b : Int) : decide (V.int a = V.int b) = decide (a = b) := by
  by_cases h : a = b
  · rw [decide_eq_true h, decide_eq_true (by rw [h])]
  · rw [decide_eq_false h, decide_eq_false (fun z => h (V.int.inj z))]
theorem dbl86 (a b : Bool) : decide (V.bl a = V.bl b) = decide (a = b) := by
  by_cases h : a = b
  · rw [decide_eq_true h, decide_eq_true (by rw [h])]
  · rw [decide_eq_false h, decide_eq_false (fun z => h (V.bl.inj z))]
theorem hot_val (k at_ : Nat) : decide (V.int ((0 : Int) + (k : Int)) = V.int (at_ : Int)) = decide (k = at_) := by
  rw [dint86]
  by_cases h : k = at_
  · rw [decide_eq_true h, decide_eq_true (show (0 : Int) + (k : Int) = (at_ : Int) by omega)]
  · rw [decide_eq_false h, decide_eq_false (show ¬ ((0 : Int) + (k : Int) = (at_ : Int)) by omega)]
theorem Pen.same {H H' : Hp} {p l : Addr} {ns : List Int} {a b : Int} (h : Pen H p l ns a b) (e : Same H H') : Pen H' p l ns a b := ⟨e _ _ h.hd, e _ _ h.hl, h.len, h.a0, h.b0⟩
/-- one odd place among m -/
def hotL (m at_ : Nat) (b : Bool) : List Bool := (List.range m).map fun k => decide (decide (k = at_) = b)
theorem hotL_prim {m at_ : Nat} {b : Bool} (h : at_ < m) : Prim (hotL m at_ b) := by
  have hl : (hotL m at_ b).length = m := by unfold hotL; rw [List.length_map, List.length_range]
  refine hot_prim (at_ := at_) (b := b) (by rw [hl]; exact h) fun k hk => ?_
  rw [hl] at hk
  unfold hotL
  rw [List.getD_eq_getElem?_getD, List.getElem?_map, List.getElem?_range hk]
  show decide (decide (k = at_) = b) = _
  by_cases z : k = at_
  · rw [if_pos z, decide_eq_true z]; cases b <;> rfl
  · rw [if_neg z, decide_eq_false z]; cases b <;> rfl
theorem hotL_succ (i at_ : Nat) (b : Bool) : (hotL (i + 1) at_ b).map V.bl = (hotL i at_ b).map V.bl ++ [V.bl (decide (decide (i = at_) = b))] := by
  unfold hotL
  rw [List.range_succ, List.map_append, List.map_append]
  rfl
theorem hotL_len (m at_ : Nat) (b : Bool) : (hotL m at_ b).length = m := by unfold hotL; rw [List.length_map, List.length_range]
section
variable {P : Program} {w : World} {K : PySem.W.Frag} {mg : Str → Option Value} {base : Heap}
def spRo : Sp := fun vs H Q _ => ∃ (p l : Addr) (ns : List Int) (a b : Int) (m : Nat), vs = [.ref p, .int (m : Int)] ∧ Pen H p l ns a b ∧ a ≤ 900000000 ∧ 1 ≤ m ∧ m ≤ 720 ∧
  ∀ (r : Addr) (rs : List Bool) (a' b' : Int) (H' : Hp), H r = none → H' r = some (.lst (rs.map V.bl)) → rs.length = m → Prim rs → a' ≤ a + 20 → Pen H' p l ns a' b' → Kp p H H' → Q (.ref r) H'
theorem scRo : FnScope ["pen", "m", "at", "way", "found", "row", "d", "k"] ["pen", "m"] (defScope sRo) := ⟨rfl, rfl, rfl, by decide +kernel, rfl, by decide +kernel, by decide +kernel⟩
theorem df_ro (A : At K mg "_law_rests_of" sRo) (T : TxtW mg) (Ddraw : Df P w K mg base 1 "_law_draw" ["pen", "many"] spDraw) : Df P w K mg base 2 "_law_rests_of" ["pen", "m"] spRo := by
  obtain ⟨f, fd, hm, F⟩ := A.ex
  refine ⟨f, fd, hm, F.kp, F.binds (fun _ _ _ _ _ _ us hl => match us, hl with | [_, _], _ => rfl), F.ok scRo (fun vs H Q E h => ?_) (fun cdv A outer s H vs Q E hr h => ?_)⟩
  · obtain ⟨p, l, ns, a, b, m, rfl, _⟩ := h
    rfl
  · obtain ⟨p, l, ns, a, b, m, rfl, hP, ha, hm1, hm2, q⟩ := h
    refine ⟨_, (pss_cons (ps_asg (pe_tup (pa_cons (Ddraw.call (hr.mono (by decide)) (pa_cons (pv 0) (pa_cons (pv 1) pa_nil))) (pa_cons (Ddraw.call (hr.mono (by decide)) (pa_cons (pv 0) (pa_cons pe_int pa_nil))) pa_nil))) (pg_tup (by rfl) (pgs_cons (pg_name (i := 2) scRo.nd rfl (.inr rfl)) (pgs_cons (pg_name (i := 3) scRo.nd rfl (.inr rfl)) pgs_nil))))
      (pss_cons (ps_if (pt_cmpR op_lt (pv 3) pe_int (nomark _)) (pss_one (ps_ret (pe_lc (own := [("k", 7)]) (g := gName 7) (by rfl) scRo.nd (pi_range1 (by rfl) T.range (pa_cons (pv 1) pa_nil)) (blkOk_by (own := [("k", 7)]) (N := ["pen", "m", "at", "way", "found", "row", "d", "k"]) (sc := defScope sRo) (by decide +kernel)) (fun _ _ _ _ _ => pg_name (i := 7) scRo.nd rfl (Or.inl rfl)) (fun _ _ _ _ _ => pts_nil) (fun _ _ _ _ _ => (pe_cmpR op_eq (pe_cmpR op_eq (pv 7) (pv 2) (nomark _)) (pe_cmpR op_eq (pv 3) pe_int (nomark _)) (nomark _)))))) pss_nil)
      (pss_cons (ps_set (i := 4) scRo.nd rfl (.inr rfl) (pe_lc (own := [("k", 7)]) (g := gName 7) (by rfl) scRo.nd (pi_range1 (by rfl) T.range (pa_cons pe_int pa_nil)) (blkOk_by (own := [("k", 7)]) (N := ["pen", "m", "at", "way", "found", "row", "d", "k"]) (sc := defScope sRo) (by decide +kernel)) (fun _ _ _ _ _ => pg_name (i := 7) scRo.nd rfl (Or.inl rfl)) (fun _ _ _ _ _ => pts_nil) (fun _ _ _ _ _ => (pe_cmpR op_eq (Ddraw.call (hr.mono (by decide)) (pa_cons (pv 0) (pa_cons pe_int pa_nil))) pe_int (nomark _)))))
      (pss_cons (ps_setLc (i := 5) (own := [("k", 7)]) (g := gName 7) (by rfl) scRo.nd rfl rfl (sw_true rfl rfl rfl (by decide +kernel)) (pi_range1 (by rfl) T.range (pa_cons (pv 1) pa_nil)) (blkOk_by (own := [("k", 7)]) (N := ["pen", "m", "at", "way", "found", "row", "d", "k"]) (sc := defScope sRo) (by decide +kernel)) (fun _ _ _ _ _ => pg_name (i := 7) scRo.nd rfl (Or.inl rfl)) (fun _ _ _ _ _ => pts_nil) (fun _ _ _ _ _ => (pe_or (pe_cmpR op_eq (pv 7) (pv 2) (nomark _)) (pe_one (pe_and (pe_cmpR op_lt (pe_op op_mod (pv 7) pe_int) pe_int (nomark _)) (pe_and (pe_ix (show IxR _ (rIx K) from ix_seq) (pv 4) (pe_op op_mod (pv 7) pe_int) (fun _ _ => rfl)) (pe_one (pe_cmpR op_lt (pv 7) (pv 2) (nomark _)))))))))
      (pss_cons (ps_for PassesOwn.never rfl (pi_range2 (by rfl) T.range (pa_cons pe_int (pa_cons (pe_op op_add (pe_op op_fdiv (pv 1) pe_int) pe_int) pa_nil))) (pg_name (i := 6) scRo.nd rfl (.inl rfl))
      (pss_one (ps_if (pw_and (pt_cmpR op_eq (pe_op op_mod (pv 1) (pv 6)) pe_int (nomark _)) (pw_and1 (pt_cmpR (op_eqD hr.units) (pv 5) (pe_op op_rep (pe_slice sl_list (pv 5) po_none (po_some (pv 6))) (pe_op op_fdiv (pv 1) (pv 6))) (nomark _)))).pt (pss_one (ps_ret (pe_lc (own := [("k", 7)]) (g := gName 7) (by rfl) scRo.nd (pi_range1 (by rfl) T.range (pa_cons (pv 1) pa_nil)) (blkOk_by (own := [("k", 7)]) (N := ["pen", "m", "at", "way", "found", "row", "d", "k"]) (sc := defScope sRo) (by decide +kernel)) (fun _ _ _ _ _ => pg_name (i := 7) scRo.nd rfl (Or.inl rfl)) (fun _ _ _ _ _ => pts_nil) (fun _ _ _ _ _ => (pe_cmpR op_eq (pv 7) (pv 2) (nomark _)))))) pss_nil)))
      (pss_one (ps_ret (pv 5)))))))), ?_⟩
    -- at, way
    refine ⟨_, rfl, _, rfl, p, l, ns, a, b, _, rfl, hP, by omega, by omega, by omega, fun d1 a1 b1 H1 d10 d11 ha1 hP1 hK1 => ?_⟩
    refine ⟨_, rfl, p, l, ns, a1, b1, _, rfl, hP1, by omega, by decide, by decide, fun d2 a2 b2 H2 d20 d21 ha2 hP2 hK2 => ?_⟩
    have hK12 := hK1.trans hK2
    obtain ⟨at_, rfl⟩ : ∃ at_ : Nat, d1 = (at_ : Int) := ⟨d1.toNat, by omega⟩
    refine ⟨by show 2 ≤ sizeLine; decide, fun t ht => ?_⟩
    have hP3 : Pen (upd H2 t (.tup [.int (at_ : Int), .int d2])) p l ns a2 b2 := hP2.kp (Kp.new _ ht) (upd_ne (ne_of_none hP2.hd ht))
    have hK3 := hK12.trans (Kp.new (.tup [.int (at_ : Int), .int d2]) ht)
    refine ⟨t, _, rfl, .inl (.inl upd_same), rfl, _, _, rfl, _, _, rfl, rfl, ?_⟩
    generalize upd H2 t (.tup [.int (at_ : Int), .int d2]) = H3 at hP3 hK3 ⊢
    have fresh : ∀ {H' : Hp} {D : Addr}, Pen H' p l ns a2 b2 → Kp p H H' → H' D = none → H D = none := fun hP' hK' hD => hK'.free (fun z => by rw [z, hP'.hd] at hD; cases hD) hD
    refine ⟨_, rfl, _, _, rfl, rfl, _, rfl, ?_⟩
    refine ite2 (fun hway => ?_) (fun hway => ?_)
    · refine ⟨_, rfl, _, rfl, by omega, by omega, fun D hD => ?_⟩
      rw [show ((m : Nat) : Int).toNat = m from rfl]
      refine lc_range (lo := 0) (n := m) (fun i H' => Same H3 H' ∧ H' D = some (.lst ((hotL i at_ (decide (V.int d2 = V.int 0))).map V.bl))) ⟨same_new hD, upd_same⟩ ?_ ?_
      · rintro i Hx hi ⟨sx, hx⟩
        refine ⟨rfl, _, rfl, _, rfl, rfl, _, rfl, rfl, rfl, _, hx, by rw [List.length_map, hotL_len]; exact small1000' (by omega), same_mut sx hD, ?_⟩
        rw [upd_same, hotL_succ, hot_val, dbl86]
      rintro H4 ⟨s4, hA⟩
      exact q D _ a2 b2 H4 (hK3.free (fun z => by rw [z, hP3.hd] at hD; cases hD) hD) hA (hotL_len _ _ _) (hotL_prim (by omega)) (by omega) (hP3.same s4) (hK3.trans (Kp.of_same s4))
    -- found
    refine ⟨_, rfl, by decide, by decide, fun D hD => ?_⟩
    have hDH : H D = none := hK3.free (fun z => by rw [z, hP3.hd] at hD; cases hD) hD
    have hDp : D ≠ p := fun z => by rw [z, hP.hd] at hDH; cases hDH
    refine lc_range (lo := 0) (n := 12) (fun i H' => ∃ (acc : List Bool) (a' b' : Int), H' D = some (.lst (acc.map V.bl)) ∧ acc.length = i ∧ Pen H' p l ns a' b' ∧ a' ≤ a + 2 + i ∧ Kp p H H')
      ⟨[], a2, b2, upd_same, rfl, hP3.kp (Kp.new _ hD) (upd_ne (ne_of_none hP3.hd hD)), by omega, hK3.trans (Kp.new _ hD)⟩ ?_ ?_
    · rintro i H4 hi ⟨acc, a', b', hA, hl, hP4, ha4, hK4⟩
      refine ⟨rfl, _, rfl, p, l, ns, a', b', _, rfl, hP4, by omega, by decide, by decide, fun d5 a5 b5 H5 d50 d51 ha5 hP5 hK5 => ?_⟩
      have hA5 := hK5 _ _ hDp hA
      refine ⟨rfl, _, hA5, by rw [List.length_map]; exact small1000' (by omega), acc ++ [decide (V.int d5 = V.int 0)], a5, b5, by rw [upd_same, List.map_append]; rfl, by rw [List.length_append, hl]; rfl, ?_, by omega, (hK4.trans hK5).mut hDH⟩
      exact ⟨by rw [upd_ne (Ne.symm hDp)]; exact hP5.hd, by rw [upd_ne (fun z => by rw [← z, hP.hl] at hDH; cases hDH)]; exact hP5.hl, hP5.len, hP5.a0, hP5.b0⟩
    rintro H4 ⟨found, a4, b4, hF, hfl, hP4, ha4, hK4⟩
    -- row
    have eF : SqL K H4 D (found.map V.bl) := .inl (.inl hF)
    refine ⟨_, rfl, _, rfl, by omega, by omega, fun D2 hD2 => ?_⟩
    rw [show ((m : Nat) : Int).toNat = m from rfl]
    have hD2H : H D2 = none := hK4.free (fun z => by rw [z, hP4.hd] at hD2; cases hD2) hD2
    refine lc_range (lo := 0) (n := m) (fun i H' => ∃ acc : List Bool, Same H4 H' ∧ H' D2 = some (.lst (acc.map V.bl)) ∧ acc.length = i) ⟨[], same_new hD2, upd_same, rfl⟩ ?_ ?_
    · rintro i Hx hi ⟨acc, sx, hx, hl⟩
      have fin : ∀ y : Bool, ∃ acc', Hx D2 = some (.lst acc') ∧ acc'.length < sizeLine ∧ ∃ acc : List Bool, Same H4 (upd Hx D2 (.lst (acc' ++ [.bl y]))) ∧ (upd Hx D2 (.lst (acc' ++ [.bl y]))) D2 = some (.lst (acc.map V.bl)) ∧ acc.length = i + 1 := fun y =>
        ⟨_, hx, by rw [List.length_map]; exact small1000' (by omega), acc ++ [y], same_mut sx hD2, by rw [upd_same, List.map_append]; rfl, by rw [List.length_append, hl]; rfl⟩
      have e13 : ((0 : Int) + (i : Int)) % 13 = ((i % 13 : Nat) : Int) := by rw [Int.zero_add]; rfl
      refine ⟨rfl, _, rfl, _, rfl, rfl, _, rfl, ?_⟩
      refine ite2 (fun _ => fin _) (fun _ => ?_)
      refine ⟨_, rfl, _, _, rfl, rfl, (show (0 : Int) < 13 by decide), _, _, rfl, rfl, _, rfl, ?_⟩
      dsimp only
      rw [e13]
      refine ite2 (fun h13 => ?_) (fun _ => fin _)
      have h13' := of_decide_eq_true h13
      refine ⟨_, rfl, _, rfl, _, _, rfl, rfl, (show (0 : Int) < 13 by decide), ?_⟩
      dsimp only
      rw [e13]
      refine ix_bls (.inl (sx.seq eF)) (by omega) (by omega) ⟨_, rfl, ?_⟩
      refine ite2 (fun _ => ?_) (fun _ => fin _)
      exact ⟨_, rfl, _, rfl, _, _, rfl, rfl, fin _⟩
    rintro H5 ⟨row, s5, hR5, hrl⟩
    have hP5 := hP4.same s5
    have hK5 : Kp p H H5 := hK4.trans (Kp.of_same s5)
    have eR5 : SqL K H5 D2 (row.map V.bl) := .inl (.inl hR5)
    subst hrl
    have e2 : ((row.length : Int) / 2) = ((row.length / 2 : Nat) : Int) := rfl
    refine ⟨_, rfl, _, _, rfl, rfl, ⟨by decide, by decide⟩, _, _, rfl, rfl, _, _, rfl, ⟨by decide, by decide, by omega, by omega⟩, ?_⟩
    rw [e2, show ((((row.length / 2 : Nat) : Int) + 1 - 1).toNat) = row.length / 2 by omega]
    refine for_range (lo := 1) (n := row.length / 2) (fun i σ H' => ∃ y6 : Option V, Same H5 H' ∧ (∀ d, 1 ≤ d → d < 1 + i → d ∣ row.length → ¬ PerF (led row) d) ∧ σ = [some (.ref p), some (.int ((row.length : Nat) : Int)), some (.int (at_ : Int)), some (.int d2), some (.ref D), some (.ref D2), y6, none])
      ⟨none, Same.refl _, fun d a b => by omega, rfl⟩ ?_ ?_
    · rintro i σ H6 hi ⟨y6, s6, hno, rfl⟩
      obtain ⟨k, ek⟩ : ∃ k : Nat, ((1 : Int) + ((i : Nat) : Int)) = (k : Int) := ⟨1 + i, rfl⟩
      rw [ek]
      have hk1 : 1 ≤ k := by omega
      have hk2 : k ≤ row.length := by omega
      have ed : ((row.length : Int) % (k : Int)) = ((row.length % k : Nat) : Int) := rfl
      refine ⟨_, rfl, _, rfl, _, _, rfl, rfl, (show (0 : Int) < (k : Int) by omega), rfl, _, rfl, ?_⟩
      have skip : ¬ (k ∣ row.length ∧ PerF (led row) k) → ∀ d, 1 ≤ d → d < 1 + (i + 1) → d ∣ row.length → ¬ PerF (led row) d := fun hz d a b c e => by
        rcases Nat.lt_or_ge d (1 + i) with z | z
        · exact hno d a z c e
        · have : d = k := by omega
          rw [this] at c e
          exact hz ⟨c, e⟩
      rw [dint86]
      by_cases hd : k ∣ row.length
      · rw [decide_eq_true (show ((row.length : Nat) : Int) % (k : Int) = 0 from Int.emod_eq_zero_of_dvd (Int.natCast_dvd_natCast.mpr hd))]
        refine iteT ?_
        refine ⟨_, rfl, _, rfl, _, rfl, _, rfl, D2, _, rfl, s6.seq eR5, fun t1 ht1 => ?_⟩
        rw [cut_hi row k hk2]
        have s7 := s6.trans (same_new (o := .lst ((row.take k).map V.bl)) ht1)
        have e7 : (upd H6 t1 (.lst ((row.take k).map V.bl))) t1 = some (.lst ((row.take k).map V.bl)) := upd_same
        generalize upd H6 t1 (.lst ((row.take k).map V.bl)) = H7 at s7 e7 ⊢
        refine ⟨_, rfl, _, rfl, _, _, rfl, rfl, ⟨by omega, by omega⟩, ?_⟩
        have eq : ((row.length : Int) / (k : Int)) = ((row.length / k : Nat) : Int) := rfl
        dsimp only
        rw [eq]
        have hqk : k * (row.length / k) = row.length := Nat.mul_div_cancel' hd
        have hql : row.length / k ≤ row.length := Nat.div_le_self _ _
        have hq0 : (0 : Int) ≤ ((row.length / k : Nat) : Int) := Int.natCast_nonneg _
        have hq1 : ((row.length / k : Nat) : Int) ≤ 720 := by exact_mod_cast Nat.le_trans hql hm2
        refine ⟨t1, _, _, rfl, rfl, e7, Int.le_trans (by decide) hq0, Int.lt_of_le_of_lt hq1 (by decide), by rw [List.length_map, List.length_take, Nat.min_eq_left hk2, Int.toNat_natCast, hqk]; exact Nat.le_trans hm2 (by decide), fun t2 ht2 => ?_⟩
        rw [Int.toNat_natCast]
        have efl : (List.replicate (row.length / k) ((row.take k).map V.bl)).flatten = ((List.replicate (row.length / k) (row.take k)).flatten).map V.bl := by
          rw [List.map_flatten, List.map_replicate]
        rw [efl]
        have s8 := s7.trans (same_new (o := .lst (((List.replicate (row.length / k) (row.take k)).flatten).map V.bl)) ht2)
        have e8 : (upd H7 t2 (.lst (((List.replicate (row.length / k) (row.take k)).flatten).map V.bl))) t2 = some (.lst (((List.replicate (row.length / k) (row.take k)).flatten).map V.bl)) := upd_same
        generalize upd H7 t2 (.lst (((List.replicate (row.length / k) (row.take k)).flatten).map V.bl)) = H8 at s8 e8 ⊢
        refine ⟨_, _, .lst (s8.seq eR5) (dp_bls _), .lst (.inl (.inl e8)) (dp_bls _), (sh_list (can_bls _).1 (can_bls _).2).1, (sh_list (can_bls _).1 (can_bls _).2).1, _, rfl, ?_⟩
        rw [show PyData.eqv (.list (row.map PyData.bool)) (.list (((List.replicate (row.length / k) (row.take k)).flatten).map PyData.bool)) = decide (row = (List.replicate (row.length / k) (row.take k)).flatten) from eqv_bls _ _]
        have hper := rep_per (by omega) hk1 hd
        by_cases hp : PerF (led row) k
        · rw [decide_eq_true (hper.mpr hp)]
          refine iteT ?_
          refine ⟨_, rfl, _, rfl, by omega, by omega, fun D3 hD3 => ?_⟩
          rw [show ((row.length : Nat) : Int).toNat = row.length from rfl]
          have eT : ∀ b : Bool, b = decide (b = true) := fun b => by cases b <;> rfl
          have hD3H : H D3 = none := (hK5.trans (Kp.of_same s8)).free (fun z => by rw [z, s8 _ _ hP5.hd] at hD3; cases hD3) hD3
          refine lc_range (lo := 0) (n := row.length) (fun i H' => Same H8 H' ∧ H' D3 = some (.lst ((hotL i at_ true).map V.bl))) ⟨same_new hD3, upd_same⟩ ?_ ?_
          · rintro i Hx hi ⟨sx, hx⟩
            refine ⟨rfl, _, rfl, _, rfl, rfl, _, hx, by rw [List.length_map, hotL_len]; exact small1000' (by omega), same_mut sx hD3, ?_⟩
            rw [upd_same, hotL_succ, hot_val, ← eT]
          rintro H9 ⟨s9, hA⟩
          exact q D3 _ a4 b4 H9 hD3H hA (hotL_len _ _ _) (hotL_prim (by omega)) (by omega) (hP5.same (s8.trans s9)) (hK5.trans (Kp.of_same (s8.trans s9)))
        · rw [decide_eq_false (fun z => hp (hper.mp z))]
          refine iteF ?_
          exact ⟨_, s8, skip fun z => hp z.2, rfl⟩
      · rw [decide_eq_false (show ¬ ((row.length : Nat) : Int) % (k : Int) = 0 from fun z => hd (Int.natCast_dvd_natCast.mp (Int.dvd_of_emod_eq_zero z)))]
        refine iteF ?_
        exact ⟨_, s6, skip fun z => hd z.1, rfl⟩
    · rintro σ H6 ⟨y6, s6, hno, rfl⟩
      refine ⟨_, rfl, ?_⟩
      refine q D2 row a4 b4 H6 hD2H (s6 _ _ hR5) rfl (fun d b1 b2 b3 => ?_) (by omega) (hP5.same s6) (hK5.trans (Kp.of_same s6))
      refine hno d b1 ?_ b2
      obtain ⟨c, hc⟩ := b2
      have hc2 : 2 ≤ c := by
        rcases Nat.lt_or_ge c 2 with z | z
        · have : c = 0 ∨ c = 1 := by omega
          rcases this with rfl | rfl <;> omega
        · exact z
      have : d * 2 ≤ row.length := by rw [hc]; exact Nat.mul_le_mul_left d hc2
      omega
end
end Ef
set_option Elab.async false
set_option linter.all false
set_option maxRecDepth 100000
set_option maxHeartbeats 4000000
namespace Ef
open PySem PySem.Spec PyProof.Rows L2
abbrev sFault : Stmt := top 36
structure ErrM (K : PySem.W.Frag) (CT CF CL : Addr) : Prop where
  tt : PySem.W.exmOne K (.ref CT) (.ref CT) = some true
  ft : PySem.W.exmOne K (.ref CF) (.ref CT) = some false
  lt : PySem.W.exmOne K (.ref CL) (.ref CT) = some false
  ff : PySem.W.exmOne K (.ref CF) (.ref CF) = some true
  lf : PySem.W.exmOne K (.ref CL) (.ref CF) = some false
  ll : PySem.W.exmOne K (.ref CL) (.ref CL) = some true
/-- what is told of one error -/
def E1 (C : Addr) (fl tag : Str) (Q : VK) : XK := fun cls d H' => cls = .ref C ∧ ∃ (v : V) (dd : Addr), d = some dd ∧ H' dd = some (.xd [(fl, v)]) ∧ ∀ t H2, Same H' H2 → H2 t = some (.tup [.str tag, v]) → Q (.ref t) H2
def EF (CT CF CL : Addr) (Q : VK) : XK := fun cls d H' => E1 CT "index" "truth" Q cls d H' ∨ E1 CF "most" "fine" Q cls d H' ∨ E1 CL "most" "late" Q cls d H'
def TFault (CT CF CL : Addr) : (XK → Hp → VK → Prop) → Hp → VK → Prop := fun tl H Q => tl (EF CT CF CL Q) H fun _ H' => Q .non H'
theorem scFault : FnScope ["call", "e"] ["call"] (defScope sFault) := ⟨rfl, rfl, rfl, by decide +kernel, rfl, by decide +kernel, by decide +kernel⟩
theorem fault_gives {X : Cx} {g CT CF CL fT fF fL : Addr} {cdg : Value} {q : Str} (ET : ErrF X.K X.mg "BadTruth" "index" CT fT) (EFi : ErrF X.K X.mg "TooFine" "most" CF fF) (EL : ErrF X.K X.mg "TooLate" "most" CL fL) (EM : ErrM X.K CT CF CL) :
    LamX.GivesTo X ["call", "e"] "_law_refusal" (defScope sFault) g cdg (defBody sFault) "call" q (TFault CT CF CL) := by
  intro f c' s H Q tl act hc h
  refine ⟨_, (pss_cons (ps_try_asL (tb := fun W D σ H1 => ∃ Ech : XK, (∀ (cls : Value) (d : Option Addr) (σ' : L2.St) (H' : Hp), σ'.length = 2 → Ech cls d H' → W cls d σ' H') ∧ σ[0]? = some (some (.ref f)) ∧ H1 c' = some (LamX.CodeO c' q) ∧ tl Ech H1 fun _ H2 => D.nx σ H2) rfl rfl scFault.nd takes0
      (fun W pn xe tk _ => ⟨fun pins s' σ H' D I h' => ?_⟩)
      (.cons (i := 1) rfl rfl ⟨rfl, by decide, .inl ET.mgC⟩ (fun a oe cls d pn hz hf => pss_one (ps_ret (pe_tup (pa_cons pe_str (pa_cons (pe_xf ET.xf ET.nN hz hf (pv 1)) pa_nil)))))
      (.cons (i := 1) rfl rfl ⟨rfl, by decide, .inl EFi.mgC⟩ (fun a oe cls d pn hz hf => pss_one (ps_ret (pe_tup (pa_cons pe_str (pa_cons (pe_xf EFi.xf EFi.nN hz hf (pv 1)) pa_nil)))))
      (.cons (i := 1) rfl rfl ⟨rfl, by decide, .inl EL.mgC⟩ (fun a oe cls d pn hz hf => pss_one (ps_ret (pe_tup (pa_cons pe_str (pa_cons (pe_xf EL.xf EL.nN hz hf (pv 1)) pa_nil)))))
      .nil))))
      (pss_one (ps_ret pe_non))), ?_⟩
  · obtain ⟨Ech, hW, h1, h2, h3⟩ := h'
    have tk' : Takes ((cxOf C8.CX0 X.prog X.w X.K X.mg X.base ["call", "e"] "_law_refusal" (defScope sFault) g cdg X.A X.stack s H C8.E0).tr pn xe) (fun cls d σ' H' => σ'.length = 2 → W cls d σ' H') := by
      intro u s2 hx
      obtain ⟨a, B, sI, pins', σ', H2, cls, d, e1, J, nb, up, sky, na, os, ag, hw⟩ := hx
      exact tk u s2 ⟨a, B, sI, pins', σ', H2, cls, d, e1, J, nb, up, sky, na, os, ag, hw J.len⟩
    exact (pss_one (ps_expr (act _ pn xe Ech _ _ tk' fun cls d σ' H' hE hl => hW cls d σ' H' hl hE))).run pins s' σ H' D I ⟨h1, h2, h3⟩
  · refine ⟨EF CT CF CL Q, fun cls d σ' H' hlen hE => ?_, rfl, hc, h⟩
    match σ', hlen with
    | [z0, z1], _ =>
      rcases hE with ⟨rfl, v, dd, rfl, hx, q⟩ | ⟨rfl, v, dd, rfl, hx, q⟩ | ⟨rfl, v, dd, rfl, hx, q⟩
      · refine ⟨true, EM.tt, fun _ a ha => ?_, fun z => Bool.noConfusion z⟩
        refine ⟨_, rfl, rfl, rfl, dd, _, v, rfl, hx, rfl, by show 2 ≤ sizeLine; decide, fun t ht => ?_⟩
        exact q t _ (same_new ht) upd_same
      · refine ⟨false, EM.ft, fun z => Bool.noConfusion z, fun _ => ⟨true, EM.ff, fun _ a ha => ?_, fun z => Bool.noConfusion z⟩⟩
        refine ⟨_, rfl, rfl, rfl, dd, _, v, rfl, hx, rfl, by show 2 ≤ sizeLine; decide, fun t ht => ?_⟩
        exact q t _ (same_new ht) upd_same
      · refine ⟨false, EM.lt, fun z => Bool.noConfusion z, fun _ => ⟨false, EM.lf, fun z => Bool.noConfusion z, fun _ => ⟨true, EM.ll, fun _ a ha => ?_, fun z => Bool.noConfusion z⟩⟩⟩
        refine ⟨_, rfl, rfl, rfl, dd, _, v, rfl, hx, rfl, by show 2 ≤ sizeLine; decide, fun t ht => ?_⟩
        exact q t _ (same_new ht) upd_same
theorem passF {X : Cx} : Passes (CX X.prog X.w) X (fun _ _ _ => False) := fun pins σ H s e s' I h => by
  obtain ⟨a, B, H', cls, d, _, _, _, _, _, _, _, hE⟩ := h
  exact hE.elim
theorem passX {X : Cx} {A : Around} {outer : List Env} {s : Shared} {H : Hp} {E : XK} {scope : Scope} {f c' : Addr} : Passes (CX X.prog X.w) (LamX.lamCx X A outer s H E scope f c') E :=
  fun pins σ H1 s1 e s' I h => passes_call (X := LamX.lamCx X A outer s H E scope f c') (takes_of rfl rfl rfl rfl) (fun _ _ _ _ h => h) pins σ H1 s1 e s' I h
theorem tabs_same {T : List (Addr × Str)} {H H' : Hp} (t : LamX.Tabs T H) (e : Same H H') : LamX.Tabs T H' := fun p hp => (t p hp).ext e
theorem tab_kp {H H' : Hp} {P p l : Addr} {q : Str} {ns : List Int} {a b : Int} (t : LamX.TabS H P q) (k : Kp p H H') (hp : Pen H p l ns a b) : LamX.TabS H' P q := by
  obtain ⟨ps, h1, h2, h3⟩ := t
  refine ⟨ps, k _ _ (ne_of h1 hp.hd (by intro q; cases q)) h1, h2, fun pos cv hc => ?_⟩
  obtain ⟨c, e1, e2⟩ := h3 pos cv hc
  exact ⟨c, e1, k _ _ (ne_of e2 hp.hd (by intro q; cases q)) e2⟩
theorem tabs_kp {T : List (Addr × Str)} {H H' : Hp} {p l : Addr} {ns : List Int} {a b : Int} (t : LamX.Tabs T H) (k : Kp p H H') (hp : Pen H p l ns a b) : LamX.Tabs T H' := fun x hx => tab_kp (t x hx) k hp
/-- all but the pen and the tables stays -/
def Kx (p : Addr) (H H' : Hp) : Prop := ∀ b o, b ≠ p → (∀ ps, o ≠ HO.tbl ps) → H b = some o → H' b = some o
theorem Kx.of_same {p : Addr} {H H' : Hp} (h : Same H H') : Kx p H H' := fun b o _ _ e => h b o e
theorem Kx.of_kp {p : Addr} {H H' : Hp} (h : Kp p H H') : Kx p H H' := fun b o n _ e => h b o n e
theorem Kx.of_ext {p : Addr} {H H' : Hp} (h : LamX.ExtN H H') : Kx p H H' := fun b o _ n e => h b o e n
theorem Kx.trans {p : Addr} {H H' H2 : Hp} (h : Kx p H H') (k : Kx p H' H2) : Kx p H H2 := fun b o n m e => k b o n m (h b o n m e)
theorem Kx.lst {p b : Addr} {H H' : Hp} {xs : List V} {d : List (Key × V)} (k : Kx p H H') (hp : H p = some (.dK d)) (h : H b = some (.lst xs)) : H' b = some (.lst xs) := k _ _ (ne_of h hp (by intro z; cases z)) (fun _ z => by cases z) h
theorem Kx.tup {p b : Addr} {H H' : Hp} {xs : List V} {d : List (Key × V)} (k : Kx p H H') (hp : H p = some (.dK d)) (h : H b = some (.tup xs)) : H' b = some (.tup xs) := k _ _ (ne_of h hp (by intro z; cases z)) (fun _ z => by cases z) h
theorem Kx.sqt {K : PySem.W.Frag} {p b : Addr} {H H' : Hp} {xs : List V} {d : List (Key × V)} (k : Kx p H H') (hp : H p = some (.dK d)) (h : SqT K H b xs) : SqT K H' b xs := by
  rcases h with (h | ⟨z, h⟩) | h
  · exact .inl (.inl (k.tup hp h))
  · exact .inl (.inr ⟨z, k _ _ (ne_of h hp (by intro q; cases q)) (fun _ z => by cases z) h⟩)
  · exact .inr h
theorem Kx.md {p r : Addr} {H H' : Hp} {bs rs : List Bool} {d : List (Key × V)} (k : Kx p H H') (hp : H p = some (.dK d)) (h : Md H r bs rs) : Md H' r bs rs := by
  obtain ⟨rb, rr, h1, h2, h3⟩ := h
  exact ⟨rb, rr, k.tup hp h1, k.lst hp h2, k.lst hp h3⟩
theorem Kx.wat {K : PySem.W.Frag} {C p q : Addr} {H H' : Hp} {m s : Nat} {bs rs : List Bool} {d : List (Key × V)} (k : Kx p H H') (hp : H p = some (.dK d)) (h : WAt K C H q m s bs rs) : WAt K C H' q m s bs rs := by
  obtain ⟨dx, ra, ba, ea, la, h1, h2, h3, h4, h5⟩ := h
  exact ⟨dx, ra, ba, ea, la, k _ _ (ne_of h1 hp (by intro z; cases z)) (fun _ z => by cases z) h1, k.sqt hp h2, k.sqt hp h3, k.sqt hp h4, k.sqt hp h5⟩
theorem ext_of {H H' : Hp} (h : LamX.ExtN H H') {b : Addr} {o : HO} (e : H b = some o) (n : ∀ ps : Array Value, o ≠ .tbl ps) : H' b = some o := h b o e n
theorem Pen.ext {H H' : Hp} {p l : Addr} {ns : List Int} {a b : Int} (h : Pen H p l ns a b) (e : LamX.ExtN H H') : Pen H' p l ns a b := ⟨ext_of e h.hd (fun _ z => by cases z), ext_of e h.hl (fun _ z => by cases z), h.len, h.a0, h.b0⟩
theorem eqv_int (i : Int) : PyData.eqv (.int i) (.int i) = true := by
  show decide (i = i) = true
  exact decide_eq_true rfl
theorem Kx.whr {K : PySem.W.Frag} {C p q : Addr} {H H' : Hp} {bs rs : List Bool} {d : List (Key × V)} (k : Kx p H H') (hp : H p = some (.dK d)) (h : Whr K C H q bs rs) : Whr K C H' q bs rs := by
  obtain ⟨h1, h2, h3, m, s, hc, hw⟩ := h
  exact ⟨h1, h2, h3, m, s, hc, k.wat hp hw⟩
/-- where _law_refusal stands -/
structure FaultAt (K : PySem.W.Frag) (mg : Str → Option Value) (g : Addr) (oc : Value) (od an : Option Addr) (kV doc pm cdv ct : Value) (osl : Array (Option Value)) : Prop where
  mg_ : mg "_law_refusal" = some (.ref g)
  kp : PySem.W.keepIn K (.ref g) = true
  lk : K.lookup g = some ⟨oc, od, .func (PySem.W.fnOf "_law_refusal" "_law_refusal" (defArgs sFault) (defBody sFault) (defScope sFault) .none kV doc pm an cdv ct), osl⟩
  cd : PySem.W.codeIn K cdv "_law_refusal" = true
  b : Binds K (PySem.W.fnOf "_law_refusal" "_law_refusal" (defArgs sFault) (defBody sFault) (defScope sFault) .none kV doc pm an cdv ct) ["call"] []
/-! ### the answers as values -/
def IsFirst (f : Nat → Bool) (n : Int) (v : V) : Prop := (∃ j : Nat, v = .int (j : Int) ∧ FirstAt f n j) ∨ (v = .non ∧ NoFrom f n)
def IsLast (f : Nat → Bool) (n : Int) (v : V) : Prop := (∃ j : Nat, v = .int (j : Int) ∧ LastAt f n j) ∨ (v = .non ∧ NoTo f n)
theorem isFirst_ex (f : Nat → Bool) (n : Int) : ∃ v, IsFirst f n v := by
  by_cases h : ∃ j, f j = true ∧ n ≤ (j : Int)
  · obtain ⟨j, hj, hn⟩ := h
    have hlt : cntF f n.toNat < cntF f (j + 1) := by
      have h1 := cntF_mono (f := f) (show n.toNat ≤ j by omega)
      have h2 := cntF_lt (f := f) (show j < j + 1 by omega) hj
      omega
    obtain ⟨k, hk, hc⟩ := nth_exists (f := f) (N := j + 1) (k := cntF f n.toNat) hlt
    exact ⟨_, .inl ⟨k, rfl, first_of hk hc⟩⟩
  · exact ⟨_, .inr ⟨rfl, fun i hi => by
      rcases Int.lt_or_le (i : Int) n with z | z
      · exact z
      · exact absurd ⟨i, hi, z⟩ h⟩⟩
theorem isLast_ex (f : Nat → Bool) (n : Int) : ∃ v, IsLast f n v := by
  rcases Nat.eq_zero_or_pos (cntF f (n + 1).toNat) with z | z
  · exact ⟨_, .inr ⟨rfl, noto_of z⟩⟩
  · obtain ⟨k, hk, hc⟩ := nth_exists (f := f) (N := (n + 1).toNat) (k := cntF f (n + 1).toNat - 1) (by omega)
    exact ⟨_, .inl ⟨k, rfl, last_of hk (by omega)⟩⟩
theorem IsFirst.at_ {f : Nat → Bool} {n : Int} {v : V} (h : IsFirst f n v) {j : Nat} (hj : FirstAt f n j) : V.int (j : Int) = v := by
  obtain ⟨a1, a2, a3⟩ := hj
  rcases h with ⟨k, rfl, b1, b2, b3⟩ | ⟨_, hno⟩
  · have h1 := a3 k b1 b2
    have h2 := b3 j a1 a2
    rw [show j = k by omega]
  · have := hno j a1; omega
theorem IsFirst.no {f : Nat → Bool} {n : Int} {v : V} (h : IsFirst f n v) (hn : NoFrom f n) : V.non = v := by
  rcases h with ⟨k, rfl, b1, b2, b3⟩ | ⟨rfl, hno⟩
  · have := hn k b1; omega
  · rfl
theorem IsLast.at_ {f : Nat → Bool} {n : Int} {v : V} (h : IsLast f n v) {j : Nat} (hj : LastAt f n j) : V.int (j : Int) = v := by
  obtain ⟨a1, a2, a3⟩ := hj
  rcases h with ⟨k, rfl, b1, b2, b3⟩ | ⟨_, hno⟩
  · have h1 := a3 k b1 b2
    have h2 := b3 j a1 a2
    rw [show j = k by omega]
  · have := hno j a1; omega
theorem IsLast.no {f : Nat → Bool} {n : Int} {v : V} (h : IsLast f n v) (hn : NoTo f n) : V.non = v := by
  rcases h with ⟨k, rfl, b1, b2, b3⟩ | ⟨rfl, hno⟩
  · have := hn k b1; omega
  · rfl
theorem IsFirst.scal {f : Nat → Bool} {n : Int} {v : V} (h : IsFirst f n v) : scal v v = true := by
  rcases h with ⟨k, rfl, _⟩ | ⟨rfl, _⟩ <;> rfl
theorem IsLast.scal {f : Nat → Bool} {n : Int} {v : V} (h : IsLast f n v) : scal v v = true := by
  rcases h with ⟨k, rfl, _⟩ | ⟨rfl, _⟩ <;> rfl
end Ef
set_option Elab.async false
set_option linter.all false
set_option maxRecDepth 100000
set_option maxHeartbeats 2000000
/-! in, not, bool(..) by a class's own methods; a class that a local name holds, called -/
namespace Ef
open PySem PySem.Spec PyProof.Rows L2
/-- the class at C has its own method m: the def at f, which keeps sp -/
structure Own (P : Program) (w : World) (K : PySem.W.Frag) (mg : Str → Option Value) (base : Heap) (k : Nat) (C : Addr) (m : Str) (ps : List Str) (sp : Sp) : Prop where
  ex : ∃ f fd, PySem.W.findIn K (.ref C) m = some (some (.ref f)) ∧ PySem.W.isFn K (.ref f) = true ∧ PySem.W.typeIn K (.ref f) = some (.type "function") ∧ PySem.W.keepIn K (.ref f) = true ∧ Binds K fd ps [] ∧ FnOk P w K mg base CX0 k f fd ps sp
section
variable {X : Cx} {pins : List (Addr × Obj)} {σ : L2.St} {H : Hp} {s : Shared} {Q : VK} {k : Nat} {C a dx : Addr} {fs : List (Str × V)} {m : Str} {ps : List Str} {sp : Sp} {A : Around} {E' : Value → Shared → Prop}
/-- the call of a def from below the body that runs -/
theorem run_low {f : Addr} {fd : FuncData} {us : List Value} {vs : List V} (F : FnOk X.prog X.w X.K X.mg X.base CX0 k f fd ps sp) (hr : Room k A) (hfr : A.frames = X.A.frames) (hb : Binds X.K fd ps []) (I : Inv X pins σ H s) (r : Vals vs us) (h : sp vs H Q E0) :
    wpAny (model X.prog X.w) A (call (.ref f) us) (EP X pins σ Q) E' s := by
  have e0 : Env0 X.prog X.w X.K X.mg X.base A X.stack s H := by
    have e := I.env0
    exact ⟨hfr.trans e.frames, e.mod, e.bs, e.bsz, e.funs, e.frf, e.hok, e.bare⟩
  have hl : (us ++ []).length = ps.length := by rw [List.append_nil, ← r.length]; exact F.len _ _ _ _ h
  have hbt := hb s us I.kIn hl
  rw [List.append_nil] at hbt
  refine wpAny_call (codeAny_mono (F.run A X.stack s H ⟨us, []⟩ us vs Q E0 hr e0 hbt r h) fun res s' hq => ?_)
  cases res with
  | error e => exact False.elim hq
  | ok fl =>
    cases fl with
    | ret u => exact I.after hq
    | next => exact False.elim hq
    | brk => exact False.elim hq
    | cont => exact False.elim hq
/-- callSpecial? of such a method -/
theorem own_special {args : List Value} {vs : List V} {R : Option Value → Shared → Prop} (O : Own X.prog X.w X.K X.mg X.base k C m ps sp) (hr : Room k A) (hfr : A.frames = X.A.frames) (I : Inv X pins σ H s) (ea : H a = some (.ins C dx fs)) (r : Vals vs args)
    (h : sp (.ref a :: vs) H Q E0) (hR : ∀ u s', EP X pins σ Q u s' → R (some u) s') : wpAny (model X.prog X.w) A (callSpecial? (.ref a) m args) R E' s := by
  obtain ⟨f, fd, hf, hi, ht, hk, hb, F⟩ := O.ex
  obtain ⟨mA, OM, _⟩ := ins_get I.hok ea
  obtain ⟨od, J, _⟩ := OM.look
  refine PySem.W.special_fn I.kIn J hf ht ?_
  exact wpAny_mono (run_low (us := .ref a :: args) (vs := .ref a :: vs) F hr hfr hb I (.cons rfl r) h) (fun u s' z => hR u s' z) fun _ _ z => z
theorem own_unless {args : List Value} {vs : List V} {refuse : Sem Value} {R : Option Value → Shared → Prop} (O : Own X.prog X.w X.K X.mg X.base k C m ps sp) (hr : Room k A) (hfr : A.frames = X.A.frames) (I : Inv X pins σ H s) (ea : H a = some (.ins C dx fs)) (r : Vals vs args)
    (h : sp (.ref a :: vs) H Q E0) (hR : ∀ u s', EP X pins σ Q u s' → R (some u) s') : wpAny (model X.prog X.w) A (callSpecialUnlessNone? (.ref a) m args refuse) R E' s := by
  obtain ⟨f, fd, hf, hi, ht, hk, hb, F⟩ := O.ex
  obtain ⟨mA, OM, _⟩ := ins_get I.hok ea
  obtain ⟨od, J, _⟩ := OM.look
  unfold callSpecialUnlessNone? specialOf
  refine wpAny_bind (wpAny_bind (J.type.here ((PySem.W.looks_findIn I.kIn hf).here ?_)))
  refine wpAny_holding (wpAny_bind ((PySem.W.bind_fn I.kIn _ ht).here ?_))
  show wpAny _ _ (if (Value.ref f == Value.none) = true then _ else _) _ _ _
  rw [if_neg (show ¬ ((Value.ref f == Value.none) = true) from Bool.false_ne_true)]
  refine wpAny_bind (wpAny_mono (run_low (us := .ref a :: args) (vs := .ref a :: vs) F hr hfr hb I (.cons rfl r) h) (fun u s' z => wpAny_pure (hR u s' z)) fun _ _ z => z)
/-- x in o, x not in o, by o's own __contains__ -/
def rOwnIn (C : Addr) (sp : Sp) (neg : Bool) : R2 := fun x y H Q => ∃ (a dx : Addr) (fs : List (Str × V)), y = .ref a ∧ H a = some (.ins C dx fs) ∧ sp [.ref a, x] H (fun v H' => ∃ b, v = .bl b ∧ Q (.bl (if neg = true then !b else b)) H') E0
theorem contains_own {x : V} {u : Value} {R : Bool → Shared → Prop} {Qb : Bool → Hp → Prop} (O : Own X.prog X.w X.K X.mg X.base k C "__contains__" ps sp) (hr : Room k A) (hfr : A.frames = X.A.frames) (I : Inv X pins σ H s) (ea : H a = some (.ins C dx fs)) (r : RelV x u)
    (h : sp [.ref a, x] H (fun v H' => ∃ b, v = .bl b ∧ Qb b H') E0) (hR : ∀ b H' s', Inv X pins σ H' s' → Qb b H' → R b s') : wpAny (model X.prog X.w) A (contains (.ref a) u) R E' s := by
  obtain ⟨f, fd, hf, _⟩ := id O.ex
  obtain ⟨mA, OM, _⟩ := ins_get I.hok ea
  obtain ⟨od, J, _⟩ := OM.look
  unfold contains
  refine wpAny_holding ?_
  have e1 : stdlibNamesSay? (.ref a) u = none := by cases u <;> rfl
  rw [e1]
  dsimp only
  refine wpAny_bind ?_
  unfold specialOf
  refine wpAny_bind (J.type.here ((PySem.W.looks_findIn I.kIn hf).here ?_))
  show wpAny _ _ (if (some (Value.ref f) == some Value.none) = true then _ else _) _ _ _
  rw [if_neg (show ¬ ((some (Value.ref f) == some Value.none) = true) from Bool.false_ne_true)]
  refine wpAny_bind (own_unless (vs := [x]) O hr hfr I ea (.cons r .nil) h fun w' s' hz => ?_)
  obtain ⟨v, H', I', rv, b, rfl, q⟩ := hz
  cases rv
  exact wpAny_truthy_bool (hR b H' s' I' q)
theorem op_in_own (O : Own X.prog X.w X.K X.mg X.base k C "__contains__" ps sp) (hr : Room k X.A) : OpR X (compareOp .In) (rOwnIn C sp false) := by
  intro pins s σ H x y v u Q I rx ry h
  obtain ⟨a, dx, fs, rfl, ea, q⟩ := h
  cases ry
  show wpAny _ _ (contains (.ref a) v >>= fun z => pure (Value.bool z)) _ _ _
  exact wpAny_bind (contains_own O hr rfl I ea rx q fun b H' s' I' z => wpAny_pure ⟨.bl b, H', I', rfl, z⟩)
theorem op_notin_own (O : Own X.prog X.w X.K X.mg X.base k C "__contains__" ps sp) (hr : Room k X.A) : OpR X (compareOp .NotIn) (rOwnIn C sp true) := by
  intro pins s σ H x y v u Q I rx ry h
  obtain ⟨a, dx, fs, rfl, ea, q⟩ := h
  cases ry
  show wpAny _ _ (contains (.ref a) v >>= fun z => pure (Value.bool (!z))) _ _ _
  exact wpAny_bind (contains_own O hr rfl I ea rx q fun b H' s' I' z => wpAny_pure ⟨.bl (!b), H', I', rfl, z⟩)
/-- truth by an own __bool__ -/
theorem truthy_own {R : Bool → Shared → Prop} {Qb : Bool → Hp → Prop} (O : Own X.prog X.w X.K X.mg X.base k C "__bool__" ps sp) (hr : Room k A) (hfr : A.frames = X.A.frames) (I : Inv X pins σ H s) (ea : H a = some (.ins C dx fs))
    (h : sp [.ref a] H (fun v H' => ∃ b, v = .bl b ∧ Qb b H') E0) (hR : ∀ b H' s', Inv X pins σ H' s' → Qb b H' → R b s') : wpAny (model X.prog X.w) A (truthy (.ref a)) R E' s := by
  unfold truthy
  refine wpAny_bind (own_special (vs := []) (args := []) O hr hfr I ea .nil h fun w' s' hz => ?_)
  obtain ⟨v, H', I', rv, b, rfl, q⟩ := hz
  cases rv
  exact wpAny_pure (hR b H' s' I' q)
def rOwnTr (C : Addr) (sp : Sp) : V → Hp → (Bool → Hp → Prop) → Prop := fun x H Q => ∃ (a dx : Addr) (fs : List (Str × V)), x = .ref a ∧ H a = some (.ins C dx fs) ∧ sp [.ref a] H (fun v H' => ∃ b, v = .bl b ∧ Q b H') E0
/-- not o -/
theorem un_not_own (O : Own X.prog X.w X.K X.mg X.base k C "__bool__" ps sp) (hr : Room k X.A) : UnR X (unaryOp .Not) (fun x H Q => rOwnTr C sp x H fun b H' => Q (.bl (!b)) H') := by
  intro pins s σ H x v Q I rx h
  obtain ⟨a, dx, fs, rfl, ea, q⟩ := h
  cases rx
  unfold unaryOp
  refine wpAny_holding ?_
  show wpAny _ _ (truthy (.ref a) >>= fun z => pure (Value.bool (!z))) _ _ _
  exact wpAny_bind (truthy_own O hr rfl I ea q fun b H' s' I' z => wpAny_pure ⟨.bl (!b), H', I', rfl, z⟩)
theorem mono_truthy {M : Model} {E1 : Value → Shared → Prop} {x : Value} {R R' : Bool → Shared → Prop} (h : wpAny M A (truthy x) R E1 s) (hR : ∀ b s', R b s' → R' b s') : wpAny M A (truthy x) R' E1 s := wpAny_mono h (fun b s' z => hR b s' z) fun _ _ z => z
theorem bool_new_in (prog : Program) (w : World) (a : Addr) : MeetsIn prog w (Builtin.«bool.__new__» ⟨[.type "bool", .ref a], []⟩)
    (fun A R s => wpAny (model prog w) A.in1 (truthy (.ref a)) (fun b s' => R (.ok (.ret (.bool b))) s') (fun e s' => R (.error e) s') s) :=
  MeetsIn.of_wp fun A R s hs => by
    have f1 := F.conv_sub_bool
    repeat (any_goals (first | (with_reducible refine mono_truthy hs fun b s' hz => ?_) | wp_step))
    all_goals first | exact ⟨_, rfl, by assumption⟩ | skip
/-- bool(o) -/
theorem call_bool_own (O : Own X.prog X.w X.K X.mg X.base k C "__bool__" ps sp) (hr : Room (k + 2) X.A) : CallR X (.type "bool") (fun xs H Q => ∃ x, xs = [x] ∧ rOwnTr C sp x H fun b H' => Q (.bl b) H') := by
  intro pins s σ H xs us Q I r h
  obtain ⟨x, rfl, a, dx, fs, rfl, ea, q⟩ := h
  obtain rfl := Vals.ref1 r
  refine callType_newIn F.called_bool F.newNe_bool (F.typeCall_bool_1 _) (F.newCall_bool_1 _) (fun obj => F.args_object_init_2 obj _) F.entry_bool_new (bool_new_in X.prog X.w a) ?_
  exact truthy_own O hr.in1.in1 rfl I ea q fun b H' s' I' z => ⟨rfl, .bl b, H', I', rfl, z⟩
/-- C(e, ..) by a local name that holds the class -/
def tMakeL (i : Nat) (C : Addr) (sp : Sp) (t : TA) : TE := fun σ H Q => σ[i]? = some (some (.ref C)) ∧ tMake C sp [] E0 t σ H Q
theorem pe_makeL {f : Addr} {fd : FuncData} {i : Nat} {x : Str} {p pos : Pos} {e : Expr} {es : List Expr} {t : TA} (M : Mk X.K C f) (F : FnOk X.prog X.w X.K X.mg X.base CX0 k f fd ps sp) (hr : Room (k + 1) X.A) (hb : Binds X.K fd ps []) (ha : PA X (e :: es) t)
    (hN : X.N[i]? = some x := by rfl) (hv : Vis X.env.scope x := by first | exact Or.inl rfl | exact Or.inr (Or.inl rfl) | exact Or.inr (Or.inr rfl))
    (hdb : (x == ("__debug__" : Str)) = false := by decide) (hcd : (x == ("__classdict__" : Str)) = false := by decide)
    (hst : starEach (e :: es) X.env = (false, eval e X.env) :: starEach es X.env := by rfl) (hpl : (backTo pos (starEach es X.env)).any (·.1) = false := by rfl) : PE X (.Call (.Name x p) (e :: es) [] pos) (tMakeL i C sp t) := by
  refine ⟨fun pins s σ H Q I h => ?_⟩
  obtain ⟨hs, ht⟩ := h
  have hx := pe_var (X := X) (pos := p) hN hv hdb hcd
  refine wpAny_Call_Name_kw (thn (hx.run pins s σ H (fun v H1 => v = .ref C ∧ H1 = H) I ⟨.ref C, hs, rfl, rfl⟩) fun u s1 ⟨v, H1, I1, r1, q1⟩ => ?_)
  obtain ⟨rfl, rfl⟩ := q1
  cases r1
  exact PySem.W.callWith_K (h₀ := X.base) I.ok.mod.kin M.kp (thn (ha.run pos pins s1 σ _ _ I1 ht) fun us s2 ⟨vs, H2, I2, r, q⟩ => ⟨I2.kIn, run_make M F hr hb .nil pass0 I2 r q⟩) hst hpl
end
end Ef
set_option Elab.async false
set_option linter.all false
set_option maxRecDepth 100000
set_option maxHeartbeats 8000000
namespace Ef
open PySem PySem.Spec PyProof.Rows L2 ClX
abbrev sAsk : Stmt := top 37
theorem how_eq (f : Nat → Bool) (lo hi : Int) : (if lo < hi then ((cntF f hi.toNat : Nat) : Int) - ((cntF f lo.toNat : Nat) : Int) else 0) = (if ((cntF f hi.toNat : Nat) : Int) - ((cntF f lo.toNat : Nat) : Int) > 0 then ((cntF f hi.toNat : Nat) : Int) - ((cntF f lo.toNat : Nat) : Int) else 0) := by
  by_cases h : lo < hi
  · have := cntF_mono (f := f) (show lo.toNat ≤ hi.toNat by omega)
    rw [if_pos h]
    split <;> omega
  · have := cntF_mono (f := f) (show hi.toNat ≤ lo.toNat by omega)
    rw [if_neg h, if_neg (by omega)]
/-- a set with a member in each round has each member that is asked for -/
theorem member_ex {bs rs : List Bool} (h : rs.contains true = true) (k : Nat) : ∃ j, ftr bs rs j = true ∧ cntF (ftr bs rs) j = k := by
  have hc : 1 ≤ rs.count true := by
    rw [List.contains_eq_mem] at h
    exact List.count_pos_iff.mpr (of_decide_eq_true h)
  have h1 := cntF_rounds (round_model (bs := bs) (rs := rs)) 0 (k + 1)
  rw [round_count] at h1
  have h2 : (k + 1) * 1 ≤ (k + 1) * rs.count true := Nat.mul_le_mul_left _ hc
  exact nth_exists (f := ftr bs rs) (N := bs.length + 0 + (k + 1) * rs.length) (k := k) (by omega)
section
variable {P : Program} {w : World} {K : PySem.W.Frag} {mg : Str → Option Value} {base : Heap}
theorem wf_noFF {m s : Int} {ra ba ea la : Addr} : (wf m s ra ba ea la).lookup ("first_from" : Str) = none :=
  (lk_ne (by decide +kernel)).trans ((lk_ne (by decide +kernel)).trans ((lk_ne (by decide +kernel)).trans ((lk_ne (by decide +kernel)).trans ((lk_ne (by decide +kernel)).trans ((lk_ne (by decide +kernel)).trans rfl)))))
theorem wf_noLT {m s : Int} {ra ba ea la : Addr} : (wf m s ra ba ea la).lookup ("last_to" : Str) = none :=
  (lk_ne (by decide +kernel)).trans ((lk_ne (by decide +kernel)).trans ((lk_ne (by decide +kernel)).trans ((lk_ne (by decide +kernel)).trans ((lk_ne (by decide +kernel)).trans ((lk_ne (by decide +kernel)).trans rfl)))))
theorem toNil {σ : L2.St} {H : Hp} {R : List V → Hp → Prop} (h : R [] H) : tNil σ H R := h
theorem toC0 {σ : L2.St} {H : Hp} {v : V} {R : List V → Hp → Prop} (h : R [v] H) : tCons (tC v) tNil σ H R := h
theorem firstF_v {C CP p : Addr} {H : Hp} {Q : VK} {E : XK} {bs rs : List Bool} {n : Int} {v : V} (hW : Whr K C H p bs rs) (hv : IsFirst (ftr bs rs) n v) (h : ∀ H', Same H H' → Q v H') : spFirstF K C CP [.ref p, .int n] H Q E :=
  ⟨p, .int n, bs, rs, rfl, hW, .inr ⟨n, rfl, fun j H' s hf => by rw [hv.at_ hf]; exact h H' s, fun H' s hn => by rw [hv.no hn]; exact h H' s⟩⟩
theorem lastT_v {C CP p : Addr} {H : Hp} {Q : VK} {E : XK} {bs rs : List Bool} {n : Int} {v : V} (hW : Whr K C H p bs rs) (hv : IsLast (ftr bs rs) n v) (h : ∀ H', Same H H' → Q v H') : spLastT K C CP [.ref p, .int n] H Q E :=
  ⟨p, .int n, bs, rs, rfl, hW, .inr ⟨n, rfl, fun j H' s hf => by rw [hv.at_ hf]; exact h H' s, fun H' s hn => by rw [hv.no hn]; exact h H' s⟩⟩
theorem leastP_v {C p : Addr} {H : Hp} {Q : VK} {E : XK} {bs rs : List Bool} {v : V} (hW : Whr K C H p bs rs) (hv : IsFirst (ftr bs rs) 0 v) (h : ∀ H', Same H H' → Q v H') : spLeastP K C [.ref p] H Q E :=
  ⟨p, bs, rs, rfl, hW, fun j H' s hf => by rw [hv.at_ hf]; exact h H' s, fun H' s hn => by rw [hv.no hn]; exact h H' s⟩
theorem fst_v {r : Addr} {H : Hp} {Q : VK} {E : XK} {bs rs : List Bool} {n : Int} {v : V} (hM : Md H r bs rs) (h1 : 1 ≤ rs.length) (h2 : rs.length ≤ 720) (h3 : bs.length ≤ 10000) (hv : IsFirst (ftr bs rs) n v) (h : ∀ H', Same H H' → Q v H') : spFst [.ref r, .int n] H Q E :=
  ⟨r, n, bs, rs, rfl, hM, h1, h2, h3, fun j H' s hf => by rw [hv.at_ hf]; exact h H' s, fun H' s hn => by rw [hv.no hn]; exact h H' s⟩
theorem lst_v {r : Addr} {H : Hp} {Q : VK} {E : XK} {bs rs : List Bool} {n : Int} {v : V} (hn0 : 0 ≤ n) (hM : Md H r bs rs) (h1 : 1 ≤ rs.length) (h2 : rs.length ≤ 720) (h3 : bs.length ≤ 10000) (hv : IsLast (ftr bs rs) n v) (h : ∀ H', Same H H' → Q v H') : spLst [.ref r, .int n] H Q E :=
  ⟨r, n, bs, rs, rfl, hn0, hM, h1, h2, h3, fun j H' s hf => by rw [hv.at_ hf]; exact h H' s, fun H' s hn => by rw [hv.no hn]; exact h H' s⟩
theorem isLast_neg {f : Nat → Bool} {n : Int} (h : n < 0) : IsLast f n .non := .inr ⟨rfl, fun i _ => by omega⟩
def spAsk (K : PySem.W.Frag) (C : Addr) : Sp := fun vs H Q _ => ∃ (p l x r : Addr) (ns : List Int) (a b : Int) (bs rs : List Bool), vs = [.ref p, .ref x, .ref r] ∧ Pen H p l ns a b ∧ a ≤ 900000000 ∧ Whr K C H x bs rs ∧ Md H r bs rs ∧ rs.contains true = true ∧
  ∀ (a' b' : Int) (H' : Hp), a' ≤ a + 20 → Pen H' p l ns a' b' → Kp p H H' → Q (.bl true) H'
theorem scAsk : FnScope ["pen", "w", "model", "s", "m", "far", "n", "due", "low", "high", "first", "k", "told"] ["pen", "w", "model"] (defScope sAsk) := ⟨rfl, rfl, rfl, by decide +kernel, rfl, by decide +kernel, by decide +kernel⟩
theorem df_ask {C CP CN CM fFf fLt fLe fHm fMb pS : Addr} {fdFf fdLt fdLe fdHm fdMb : FuncData} (A : At K mg "_law_asked_right" sAsk) (T : TxtW mg) (hmax : mg "max" = none) (CW : ClsW K mg C)
    (MFf : Meth K C "first_from" fFf) (FFf : FnOk P w K mg base (CX P w) 5 fFf fdFf ["self", "n"] (spFirstF K C CP)) (bFf : Binds K fdFf ["self", "n"] []) (MLt : Meth K C "last_to" fLt) (FLt : FnOk P w K mg base (CX P w) 5 fLt fdLt ["self", "n"] (spLastT K C CP)) (bLt : Binds K fdLt ["self", "n"] [])
    (MHm : Meth K C "how_many" fHm) (FHm : FnOk P w K mg base (CX P w) 5 fHm fdHm ["self", "low", "high"] (spHow K C CP)) (bHm : Binds K fdHm ["self", "low", "high"] []) (MMb : Meth K C "member" fMb) (FMb : FnOk P w K mg base (CX P w) 5 fMb fdMb ["self", "k"] (spMember K C CN CM)) (bMb : Binds K fdMb ["self", "k"] [])
    (PS : PropOf K C "least" pS fLe) (FLe : FnOk P w K mg base CX0 3 fLe fdLe ["self"] (spLeastP K C)) (bLe : Binds K fdLe ["self"] []) (OC : Own P w K mg base 3 C "__contains__" ["self", "x"] (spContains K C))
    (Ddraw : Df P w K mg base 1 "_law_draw" ["pen", "many"] spDraw) (Din : Df P w K mg base 1 "_law_in" ["model", "n"] spIn) (Dfirst : Df P w K mg base 2 "_law_first" ["model", "n"] spFst) (Dlast : Df P w K mg base 2 "_law_last" ["model", "n"] spLst) (Dbelow : Df P w K mg base 2 "_law_below" ["model", "n"] spBlw) :
    Df P w K mg base 7 "_law_asked_right" ["pen", "w", "model"] (spAsk K C) := by
  obtain ⟨f, fd, hm, F⟩ := A.ex
  refine ⟨f, fd, hm, F.kp, F.binds (fun _ _ _ _ _ _ us hl => match us, hl with | [_, _, _], _ => rfl), F.ok scAsk (fun vs H Q E h => ?_) (fun cdv A outer s H vs Q E hr h => ?_)⟩
  · obtain ⟨p, l, x, r, ns, a, b, bs, rs, rfl, _⟩ := h
    rfl
  · obtain ⟨p, l, x, r, ns, a, b, bs, rs, rfl, hP, ha, hW, hM, hct, q⟩ := h
    refine ⟨_, (pss_cons (ps_par (i := 3) (j := 4) (by rfl) scAsk.nd rfl rfl (by decide) rfl rfl (pa_cons (pe_callB call_len_seq (by rfl) T.len PySem.boot_len (pa_cons (pe_ix ix_tup (pv 2) pe_int (fun _ _ => rfl)) pa_nil)) (pa_cons (pe_callB call_len_seq (by rfl) T.len PySem.boot_len (pa_cons (pe_ix ix_tup (pv 2) pe_int (fun _ _ => rfl)) pa_nil)) pa_nil)) (by rfl))
      (pss_cons (ps_set (i := 5) scAsk.nd rfl (.inl rfl) (pe_op op_add (pe_op op_pow pe_int pe_int) (Ddraw.call (hr.mono (by decide)) (pa_cons (pv 0) (pa_cons (pe_op op_pow pe_int pe_int) pa_nil)))))
      (pss_cons (ps_for PassesOwn.never rfl (pi_list (pe_lst (pa_cons pe_int (pa_cons (pv 3) (pa_cons (pe_op op_sub (pv 3) pe_int) (pa_cons (pe_op op_add (pv 3) (Ddraw.call (hr.mono (by decide)) (pa_cons (pv 0) (pa_cons (pv 4) pa_nil)))) (pa_cons (pv 5) (pa_cons (pe_op op_sub (pe_un un_neg pe_int) (Ddraw.call (hr.mono (by decide)) (pa_cons (pv 0) (pa_cons pe_int pa_nil)))) (pa_cons (Ddraw.call (hr.mono (by decide)) (pa_cons (pv 0) (pa_cons (pe_op op_add (pv 3) pe_int) pa_nil))) pa_nil))))))))) (pg_name (i := 6) scAsk.nd rfl (.inl rfl))
      (pss_cons (ps_set (i := 7) scAsk.nd rfl (.inl rfl) (pe_ifExp (pt_cmpR op_lt (pv 6) pe_int (nomark _)) pe_non (Dlast.call (hr.mono (by decide)) (pa_cons (pv 2) (pa_cons (pv 6) pa_nil)))))
      (pss_one (ps_if (pw_or (pt_cmpR op_ne (pe_meth (pv 1) CW.cl MFf FFf (hr.mono (by decide)) bFf .nil passF (pa_cons (pv 6) pa_nil)) (Dfirst.call (hr.mono (by decide)) (pa_cons (pv 2) (pa_cons (pv 6) pa_nil))) (nomark _)) (pw_or (pt_cmpR op_ne (pe_meth (pv 1) CW.cl MLt FLt (hr.mono (by decide)) bLt .nil passF (pa_cons (pv 6) pa_nil)) (pv 7) (nomark _)) (pw_or1 (pt_cmpR op_ne (pe_cmpR (op_in_own OC (hr.mono (by decide))) (pv 6) (pv 1) (by rfl)) (Din.call (hr.mono (by decide)) (pa_cons (pv 2) (pa_cons (pv 6) pa_nil))) (nomark _))))).pt (pss_one (ps_ret pe_bl)) pss_nil))))
      (pss_cons (ps_par (i := 8) (j := 9) (by rfl) scAsk.nd rfl rfl (by decide) rfl rfl (pa_cons (Ddraw.call (hr.mono (by decide)) (pa_cons (pv 0) (pa_cons (pe_op op_add (pv 3) (pv 4)) pa_nil))) (pa_cons (pe_op op_add (pv 3) (Ddraw.call (hr.mono (by decide)) (pa_cons (pv 0) (pa_cons (pe_op op_mul pe_int (pv 4)) pa_nil)))) pa_nil)) (by rfl))
      (pss_cons (ps_if (pt_cmpR op_ne (pe_meth (pv 1) CW.cl MHm FHm (hr.mono (by decide)) bHm .nil passF (pa_cons (pv 8) (pa_cons (pv 9) pa_nil))) (pe_callB (call_max2 rfl) (by rfl) hmax (by decide +kernel) (pa_cons pe_int (pa_cons (pe_op op_sub (Dbelow.call (hr.mono (by decide)) (pa_cons (pv 2) (pa_cons (pv 9) pa_nil))) (Dbelow.call (hr.mono (by decide)) (pa_cons (pv 2) (pa_cons (pv 8) pa_nil)))) pa_nil))) (nomark _)) (pss_one (ps_ret pe_bl)) pss_nil)
      (pss_cons (ps_if (pt_cmpR op_ne (pe_meth (pv 1) CW.cl MHm FHm (hr.mono (by decide)) bHm .nil passF (pa_cons (pe_un un_neg pe_int) (pa_cons (pv 5) pa_nil))) (Dbelow.call (hr.mono (by decide)) (pa_cons (pv 2) (pa_cons (pv 5) pa_nil))) (nomark _)) (pss_one (ps_ret pe_bl)) pss_nil)
      (pss_cons (ps_set (i := 10) scAsk.nd rfl (.inl rfl) (Dfirst.call (hr.mono (by decide)) (pa_cons (pv 2) (pa_cons pe_int pa_nil))))
      (pss_cons (ps_set (i := 11) scAsk.nd rfl (.inl rfl) (pe_op op_add (Dbelow.call (hr.mono (by decide)) (pa_cons (pv 2) (pa_cons (pv 10) pa_nil))) (Ddraw.call (hr.mono (by decide)) (pa_cons (pv 0) (pa_cons pe_int pa_nil)))))
      (pss_cons (ps_set (i := 12) scAsk.nd rfl (.inl rfl) (pe_meth (pv 1) CW.cl MMb FMb (hr.mono (by decide)) bMb .nil passF (pa_cons (pv 11) pa_nil)))
      (pss_one (ps_ret (pe_and (pe_cmpR op_eq (pe_prop (pv 1) CW.cl PS FLe (hr.mono (by decide)) bLe .nil pass0 (by rfl)) (pv 10) (nomark _)) (pe_and (Din.call (hr.mono (by decide)) (pa_cons (pv 2) (pa_cons (pv 12) pa_nil))) (pe_one (pe_cmpR op_eq (Dbelow.call (hr.mono (by decide)) (pa_cons (pv 2) (pa_cons (pv 12) pa_nil))) (pv 11) (nomark _)))))))))))))))), ?_⟩
    obtain ⟨hr1, hr2, hb2, _⟩ := id hW
    obtain ⟨rb, rr, h1, h2, h3⟩ := id hM
    refine ⟨_, rfl, r, _, 0, _, rfl, rfl, .inl (.inl h1), rfl, rb, _, rfl, .inl (.inl (.inl h2)), _, rfl, r, _, 1, _, rfl, rfl, .inl (.inl h1), rfl, rr, _, rfl, .inl (.inl (.inl h3)), _, _, rfl, ?_⟩
    rw [List.length_map, List.length_map]
    -- far
    refine ⟨_, _, rfl, rfl, ⟨by decide, by decide, by decide⟩, _, rfl, _, _, rfl, rfl, ⟨by decide, by decide, by decide⟩, p, l, ns, a, b, _, rfl, hP, by omega, by decide, by decide, fun d1 a1 b1 H1 d10 d11 ha1 hP1 hK1 => ?_⟩
    refine ⟨_, _, rfl, rfl, ?_⟩
    obtain ⟨far, hfar⟩ : ∃ far : Nat, (10 : Int) ^ (40 : Int).toNat + d1 = (far : Int) := ⟨((10 : Int) ^ (40 : Int).toNat + d1).toNat, by
      have : (0 : Int) ≤ (10 : Int) ^ (40 : Int).toNat := by decide
      omega⟩
    show gName 5 (V.int ((10 : Int) ^ (40 : Int).toNat + d1)) _ _ _
    rw [hfar]
    -- the places
    refine ⟨_, rfl, _, rfl, _, _, rfl, rfl, _, rfl, _, rfl, _, rfl, p, l, ns, a1, b1, _, rfl, hP1, by omega, by omega, by omega, fun d2 a2 b2 H2 d20 d21 ha2 hP2 hK2 => ?_⟩
    refine ⟨_, _, rfl, rfl, _, rfl, _, rfl, _, rfl, p, l, ns, a2, b2, _, rfl, hP2, by omega, by decide, by decide, fun d3 a3 b3 H3 d30 d31 ha3 hP3 hK3 => ?_⟩
    refine ⟨_, _, rfl, rfl, _, rfl, _, rfl, _, _, rfl, rfl, p, l, ns, a3, b3, _, rfl, hP3, by omega, by omega, by omega, fun d4 a4 b4 H4 d40 d41 ha4 hP4 hK4 => ?_⟩
    refine ⟨by show 7 ≤ sizeLine; decide, fun L hL => ?_⟩
    obtain ⟨ks, hks⟩ : ∃ ks : List Int, [0, (bs.length : Int), (bs.length : Int) - 1, (bs.length : Int) + d2, (far : Int), -1 - d3, d4] = ks := ⟨_, rfl⟩
    obtain ⟨H9, hH9⟩ : ∃ H9, upd H4 L (.lst ([0, (bs.length : Int), (bs.length : Int) - 1, (bs.length : Int) + d2, (far : Int), -1 - d3, d4].map V.int)) = H9 := ⟨_, rfl⟩
    have eL : H9 L = some (.lst (ks.map V.int)) := by rw [← hH9, ← hks, upd_same]
    have s9 : Same H4 H9 := by rw [← hH9]; exact same_new hL
    have hP9 := hP4.same s9
    have k9 : Kp p H H9 := hK1.trans (hK2.trans (hK3.trans (hK4.trans (Kp.of_same s9))))
    have x9 : Kx p H H9 := Kx.of_kp k9
    have hW9 := x9.whr hP.hd hW
    have hM9 := x9.md hP.hd hM
    have sG : Same H9 (upd H4 L (.lst ([0, (bs.length : Int), (bs.length : Int) - 1, (bs.length : Int) + d2, (far : Int), -1 - d3, d4].map V.int))) := by rw [hH9]; exact Same.refl _
    refine ⟨L, rfl, ⟨ks.map V.int, .inl (.inl (sG _ _ eL))⟩, ?_⟩
    refine for_list (K := K) (a := L) (xs := ks.map V.int) (fun n σ H' => ∃ (y6 y7 : Option V), Same H9 H' ∧ σ = [some (.ref p), some (.ref x), some (.ref r), some (.int (bs.length : Int)), some (.int (rs.length : Int)), some (.int (far : Int)), y6, y7, none, none, none, none, none])
      ⟨none, none, sG, rfl⟩ (fun n σ H' _ ⟨_, _, hx, _⟩ => .inl (.inl (hx _ _ eL))) ?_ ?_
    · rintro n v σ H10 hn ⟨y6, y7, s10, rfl⟩
      rw [List.getElem?_map] at hn
      obtain ⟨kv, hkv, rfl⟩ := Option.map_eq_some_iff.mp hn
      obtain ⟨fv, hfv⟩ := isFirst_ex (ftr bs rs) kv
      obtain ⟨lv, hlv⟩ := isLast_ex (ftr bs rs) kv
      refine ⟨_, rfl, _, _, rfl, rfl, _, rfl, ?_⟩
      rcases Int.lt_or_le kv 0 with hk | hk
      case' inl =>
        rw [decide_eq_true hk]
        refine iteT ?_
        have el : V.non = lv := hlv.no fun i _ => by omega
        show gName 7 V.non _ _ _
        rw [el]
        have s11 : Same H9 H10 := s10
        generalize H10 = H11 at s11 ⊢
      case' inr =>
        rw [decide_eq_false (show ¬ kv < 0 by omega)]
        refine iteF ?_
        refine ⟨_, rfl, _, rfl, ?_⟩
        refine toNil ?_
        refine lst_v hk (hM9.same s10) hr1 hr2 hb2 hlv fun H11 s11' => ?_
        have s11 : Same H9 H11 := s10.trans s11'
      all_goals
        have hW11 := hW9.same s11
        obtain ⟨_, _, dx, ra, ba, ea, la, _, _, _, _, g11, _, _, _, _⟩ := hW11.look
        refine ⟨_, rfl, x, dx, _, rfl, g11, wf_noFF, _, rfl, ?_⟩
        refine toNil ?_
        refine firstF_v hW11 hfv fun H12 s12 => ?_
        refine ⟨_, rfl, _, rfl, ?_⟩
        refine toNil ?_
        refine fst_v (hM9.same (s11.trans s12)) hr1 hr2 hb2 hfv fun H13 s13 => ⟨hfv.scal, _, rfl, ?_⟩
        rw [decide_eq_true rfl]
        refine iteF ?_
        have s1113 := s12.trans s13
        have hW13 := hW11.same s1113
        refine ⟨_, rfl, x, dx, _, rfl, s1113 _ _ g11, wf_noLT, _, rfl, ?_⟩
        refine toNil ?_
        refine lastT_v hW13 hlv fun H14 s14 => ⟨_, rfl, hlv.scal, _, rfl, ?_⟩
        rw [decide_eq_true rfl]
        refine iteF ?_
        have s914 := s11.trans (s1113.trans s14)
        refine ⟨_, rfl, _, rfl, x, dx, _, rfl, s14 _ _ (s1113 _ _ g11), x, .int kv, bs, rs, rfl, hW13.same s14, .inl ⟨kv, rfl, _, rfl, ?_⟩⟩
        refine ⟨_, rfl, _, rfl, r, bs, rs, kv, rfl, hM9.same s914, hr1, rfl, _, rfl, ?_⟩
        rw [decide_eq_true (show V.bl (if false = true then !(decide (0 ≤ kv) && mtruth bs rs kv) else (decide (0 ≤ kv) && mtruth bs rs kv)) = V.bl (inF bs rs kv) from rfl)]
        refine iteF ?_
        exact ⟨_, _, s914, rfl⟩
    rintro σ H10 ⟨y6, y7, s10, rfl⟩
    have hP10 := hP9.same s10
    have k10 : Kp p H H10 := k9.trans (Kp.of_same s10)
    -- low, high
    refine ⟨_, rfl, _, rfl, _, rfl, _, _, rfl, rfl, p, l, ns, a4, b4, _, rfl, hP10, by omega, by omega, by omega, fun d5 a5 b5 H11 d50 d51 ha5 hP11 hK11 => ?_⟩
    refine ⟨_, rfl, _, rfl, _, rfl, _, _, rfl, rfl, .inl ⟨by decide, by decide⟩, p, l, ns, a5, b5, _, rfl, hP11, by omega, by omega, by omega, fun d6 a6 b6 H12 d60 d61 ha6 hP12 hK12 => ?_⟩
    obtain ⟨lo, rfl⟩ : ∃ lo : Nat, d5 = (lo : Int) := ⟨d5.toNat, by omega⟩
    obtain ⟨hi, hhi⟩ : ∃ hi : Nat, (bs.length : Int) + d6 = (hi : Int) := ⟨((bs.length : Int) + d6).toNat, by omega⟩
    refine ⟨_, _, rfl, rfl, .int (lo : Int), .int (hi : Int), by rw [← hhi], ?_⟩
    have k12 : Kp p H H12 := k10.trans (hK11.trans hK12)
    have hW12 := (Kx.of_kp k12).whr hP.hd hW
    have hM12 := (Kx.of_kp k12).md hP.hd hM
    obtain ⟨_, _, dx, ra, ba, ea, la, _, _, _, _, g12, _, _, _, _⟩ := hW12.look
    refine ⟨_, rfl, x, dx, _, rfl, g12, wf_noH, _, rfl, _, rfl, x, .int (lo : Int), .int (hi : Int), bs, rs, rfl, hW12, .inr ⟨lo, rfl, .inr ⟨hi, rfl, fun H13 s13 => ?_⟩⟩⟩
    refine ⟨_, rfl, _, rfl, r, hi, bs, rs, rfl, hM12.same s13, hr1, hr2, hb2, fun H14 s14 => ?_⟩
    refine ⟨_, rfl, _, rfl, r, lo, bs, rs, rfl, hM12.same (s13.trans s14), hr1, hr2, hb2, fun H15 s15 => ?_⟩
    refine ⟨_, _, rfl, rfl, _, _, rfl, rfl, _, rfl, ?_⟩
    rw [decide_eq_true (show V.int (if (lo : Int) < (hi : Int) then ((cntF (ftr bs rs) (hi : Int).toNat : Nat) : Int) - ((cntF (ftr bs rs) (lo : Int).toNat : Nat) : Int) else 0) = V.int (if ((cntF (ftr bs rs) hi : Nat) : Int) - ((cntF (ftr bs rs) lo : Nat) : Int) > 0 then ((cntF (ftr bs rs) hi : Nat) : Int) - ((cntF (ftr bs rs) lo : Nat) : Int) else 0) from congrArg V.int (how_eq (ftr bs rs) lo hi))]
    refine iteF ?_
    have s1215 := s13.trans (s14.trans s15)
    have hW15 := hW12.same s1215
    have hM15 := hM12.same s1215
    -- from -7 on
    refine ⟨_, rfl, x, dx, _, rfl, s1215 _ _ g12, wf_noH, _, rfl, _, rfl, x, .int (-7), .int (far : Int), bs, rs, rfl, hW15, .inr ⟨-7, rfl, .inr ⟨far, rfl, fun H16 s16 => ?_⟩⟩⟩
    refine ⟨_, rfl, _, rfl, r, far, bs, rs, rfl, hM15.same s16, hr1, hr2, hb2, fun H17 s17 => ?_⟩
    refine ⟨rfl, _, rfl, ?_⟩
    have e7 : (if (-7 : Int) < (far : Int) then ((cntF (ftr bs rs) (far : Int).toNat : Nat) : Int) - ((cntF (ftr bs rs) (-7 : Int).toNat : Nat) : Int) else 0) = ((cntF (ftr bs rs) far : Nat) : Int) := by
      rw [if_pos (by omega)]
      show ((cntF (ftr bs rs) far : Nat) : Int) - ((cntF (ftr bs rs) 0 : Nat) : Int) = _
      rw [cntF_zero]
      omega
    rw [decide_eq_true (show V.int (if (-7 : Int) < (far : Int) then ((cntF (ftr bs rs) (far : Int).toNat : Nat) : Int) - ((cntF (ftr bs rs) (-7 : Int).toNat : Nat) : Int) else 0) = V.int ((cntF (ftr bs rs) far : Nat) : Int) from congrArg V.int e7)]
    refine iteF ?_
    have s1517 := s16.trans s17
    have hW17 := hW15.same s1517
    have hM17 := hM15.same s1517
    -- the first one
    obtain ⟨j0, f1, f2⟩ := member_ex (bs := bs) hct 0
    have hfirst : IsFirst (ftr bs rs) 0 (.int (j0 : Int)) := .inl ⟨j0, rfl, first_of f1 f2⟩
    refine ⟨_, rfl, ?_⟩
    refine toC0 ?_
    refine fst_v hM17 hr1 hr2 hb2 hfirst fun H18 s18 => ?_
    have hM18 := hM17.same s18
    refine ⟨_, rfl, _, rfl, r, j0, bs, rs, rfl, hM18, hr1, hr2, hb2, fun H19 s19 => ?_⟩
    have s1219 := s1215.trans (s1517.trans (s18.trans s19))
    have hP19 := hP12.same s1219
    refine ⟨_, rfl, p, l, ns, a6, b6, _, rfl, hP19, by omega, by decide, by decide, fun d7 a7 b7 H20 d70 d71 ha7 hP20 hK20 => ?_⟩
    refine ⟨_, _, rfl, rfl, ?_⟩
    obtain ⟨k, hk⟩ : ∃ k : Nat, ((cntF (ftr bs rs) j0 : Nat) : Int) + d7 = (k : Int) := ⟨(((cntF (ftr bs rs) j0 : Nat) : Int) + d7).toNat, by omega⟩
    show gName 11 (V.int (((cntF (ftr bs rs) j0 : Nat) : Int) + d7)) _ _ _
    rw [hk]
    have k20 : Kp p H H20 := k12.trans ((Kp.of_same s1219).trans hK20)
    have hW20 := (Kx.of_kp k20).whr hP.hd hW
    have hM20 := (Kx.of_kp k20).md hP.hd hM
    obtain ⟨j1, g1, g2⟩ := member_ex (bs := bs) hct k
    obtain ⟨_, _, dx2, ra2, ba2, ea2, la2, _, _, _, _, g20, _, _, _, _⟩ := hW20.look
    refine ⟨_, rfl, x, dx2, _, rfl, g20, wf_noM, _, rfl, x, .int (k : Int), bs, rs, rfl, hW20, .inr ⟨k, rfl, fun j H21 s21 hf hc => ?_, fun hno => absurd g2 (hno _ g1)⟩⟩
    have hW21 := hW20.same s21
    have hM21 := hM20.same s21
    refine ⟨_, rfl, x, dx2, _, rfl, s21 _ _ g20, ?_⟩
    refine leastP_v hW21 hfirst fun H22 s22 => ⟨_, rfl, rfl, _, rfl, ?_⟩
    rw [decide_eq_true rfl]
    refine iteT ?_
    refine ⟨_, rfl, _, rfl, r, bs, rs, (j : Int), rfl, hM21.same s22, hr1, ?_⟩
    rw [inF_nat, hf]
    refine ⟨_, rfl, iteT ?_⟩
    refine ⟨_, rfl, _, rfl, r, j, bs, rs, rfl, hM21.same s22, hr1, hr2, hb2, fun H23 s23 => ⟨_, rfl, rfl, ?_⟩⟩
    rw [hc, decide_eq_true rfl]
    have s2023 := s21.trans (s22.trans s23)
    exact q a7 b7 H23 (by omega) (hP20.same s2023) (k20.trans (Kp.of_same s2023))
end
end Ef
set_option Elab.async false
set_option linter.all false
set_option maxRecDepth 100000
set_option maxHeartbeats 8000000
namespace Ef
open PySem PySem.Spec PyProof.Rows L2 ClX
abbrev sLaw : Stmt := top 38
abbrev TT (PT : Addr) : List (Addr × Str) := [(PT, ("law.<locals>.<lambda>" : Str))]
theorem huT (PT : Addr) : ∀ p ∈ TT PT, p.1 = PT → p.2 = ("law.<locals>.<lambda>" : Str) := fun p hp e => by rw [List.mem_singleton.mp hp]
theorem prim_true {rs : List Bool} (hp : Prim rs) (h : 2 ≤ rs.length) : rs.contains true = true := by
  cases hc : rs.contains true with
  | true => rfl
  | false => exact absurd (fun i => by rw [led_false hc, led_false hc]) (hp 1 (Nat.le_refl 1) (Nat.one_dvd _) (by omega))
theorem prim_per {bs rs : List Bool} {m s : Nat} (hr : 1 ≤ rs.length) (hp : Prim rs) (hc : Canon bs rs m s) : m = rs.length := by
  have h1 := Nat.le_of_dvd (by omega) hc.dvd
  rcases Nat.lt_or_ge m rs.length with z | z
  · exact absurd hc.per (hp m hc.m1 hc.dvd z)
  · omega
theorem start_is {bs rs : List Bool} {m s : Nat} (hc : Canon bs rs m s) (he : 0 < bs.length → bs.getD (bs.length - 1) false = !(led rs (bs.length - 1))) : s = bs.length := by
  have h1 := hc.start.1
  rcases Nat.lt_or_ge s bs.length with z | z
  · have h2 := hc.start.2.1 (bs.length - 1) (by omega) (by omega)
    have h3 := he (by omega)
    rw [h2] at h3
    cases hx : led rs (bs.length - 1) <;> rw [hx] at h3 <;> cases h3
  · omega
theorem eqv4 (m s : Int) (as bs : List Bool) : PyData.eqv (.tuple [.int m, .int s, .tuple (as.map PyData.bool), .tuple (bs.map PyData.bool)]) (.tuple [.int m, .int s, .tuple (as.map PyData.bool), .tuple (bs.map PyData.bool)]) = true := by
  show (PyData.eqv (.int m) (.int m) && (PyData.eqv (.int s) (.int s) && (PyData.eqvAll (as.map PyData.bool) (as.map PyData.bool) && (PyData.eqvAll (bs.map PyData.bool) (bs.map PyData.bool) && true)))) = true
  rw [eqv_bls, eqv_bls, decide_eq_true rfl, decide_eq_true rfl]
  have h : ∀ i : Int, PyData.eqv (.int i) (.int i) = true := fun i => by
    show decide (i = i) = true
    exact decide_eq_true rfl
  rw [h, h]
  rfl
theorem sh4 (m s : Int) (as bs : List Bool) : SeqAt.shaped (.tuple [.int m, .int s, .tuple (as.map PyData.bool), .tuple (bs.map PyData.bool)]) = true := by
  obtain ⟨a1, a2⟩ := can_bls as
  obtain ⟨b1, b2⟩ := can_bls bs
  show ((PyData.canLay0 (.int m) && (PyData.canLay0 (.int s) && (PyData.canLayAll0 (as.map PyData.bool) && (PyData.canLayAll0 (bs.map PyData.bool) && true)))) && decide (max (PyData.depth (.int m)) (max (PyData.depth (.int s)) (max (PyData.depthAll (as.map PyData.bool) + 1) (max (PyData.depthAll (bs.map PyData.bool) + 1) 0))) + 1 ≤ 64)) = true
  rw [a1, b1, a2, b2]
  rfl
section
variable {P : Program} {w : World} {K : PySem.W.Frag} {mg : Str → Option Value} {base : Heap}
/-- a good making of a set -/
theorem MadeX.good {C CT CF CL : Addr} {H0 : Hp} {p : Addr} {bs rs : List Bool} {Q : VK} {E : XK} (hr1 : 1 ≤ rs.length) (hr2 : rs.length ≤ 720) (hb2 : bs.length ≤ 10000) (q : ∀ m s H', Canon bs rs m s → Same H0 H' → WAt K C H' p m s bs rs → Q .non H') : MadeX K C CT CF CL H0 p (bs.map V.bl) (rs.map V.bl) Q E :=
  .inr ⟨bs, rfl, .inr (.inr ⟨rs, rfl, hr1, by omega, by omega, fun m s hc => .inr (.inr ⟨by have := Nat.le_of_dvd (by omega) hc.dvd; omega, by have := hc.start.1; omega, fun H' sm hw => q m s H' hc sm hw⟩)⟩)⟩
theorem sh_tag (t : Str) (d : PyData) (h1 : PyData.canLay0 (.str t) = true) (h2 : PyData.depth (.str t) = 0) (h3 : PyData.canLay0 d = true) (h4 : PyData.depth d ≤ 5) : SeqAt.shaped (.tuple [.str t, d]) = true := by
  show ((PyData.canLay0 (.str t) && (PyData.canLay0 d && true)) && decide (max (PyData.depth (.str t)) (max (PyData.depth d) 0) + 1 ≤ 64)) = true
  rw [h1, h2, h3]
  exact decide_eq_true (by omega)
theorem eqv_tag (t : Str) (i : Int) (h : PyData.eqv (.str t) (.str t) = true) : PyData.eqv (.tuple [.str t, .int i]) (.tuple [.str t, .int i]) = true := by
  show (PyData.eqv (.str t) (.str t) && (PyData.eqv (.int i) (.int i) && true)) = true
  rw [eqv_int, h]; rfl
theorem tabs_lst {T : List (Addr × Str)} {H : Hp} {l : Addr} {ys : List V} {o : HO} (t : LamX.Tabs T H) (hl : H l = some (.lst ys)) : LamX.Tabs T (upd H l o) := fun x hx => by
  obtain ⟨ps, h1, h2, h3⟩ := t x hx
  refine ⟨ps, by rw [upd_ne (ne_of h1 hl (by intro q; cases q))]; exact h1, h2, fun pos cv hc => ?_⟩
  obtain ⟨c, e1, e2⟩ := h3 pos cv hc
  exact ⟨c, e1, by rw [upd_ne (ne_of e2 hl (by intro q; cases q))]; exact e2⟩
theorem Pen.upd {H : Hp} {p l q : Addr} {ns : List Int} {a b : Int} {o : HO} (h : Pen H p l ns a b) (n1 : p ≠ q) (n2 : l ≠ q) : Pen (upd H q o) p l ns a b := ⟨by rw [upd_ne n1]; exact h.hd, by rw [upd_ne n2]; exact h.hl, h.len, h.a0, h.b0⟩
theorem set_pre {pre zs : List V} {u v : V} {d : Nat} : ∃ u' zs', (pre ++ u :: zs).set (pre.length + d) v = pre ++ u' :: zs' ∧ ((d = 0 ∧ u' = v) ∨ u' = u) := by
  rw [List.set_append_right _ _ (by omega), Nat.add_sub_cancel_left]
  cases d with
  | zero => exact ⟨v, zs, rfl, .inl ⟨rfl, rfl⟩⟩
  | succ d => exact ⟨u, zs.set d v, rfl, .inr rfl⟩
theorem set_cut {xs : List V} {i : Nat} {v : V} (h : i < xs.length) : xs.set i v = xs.take i ++ v :: xs.drop (i + 1) := by
  rw [List.set_eq_take_append_cons_drop, if_pos h]
theorem cut_hiV (xs : List V) (k : Nat) (hk : k ≤ xs.length) : cutV xs none (some (k : Int)) = xs.take k := by
  unfold cutV
  rw [HT.sIx_none, HT.sIx_nat, Nat.min_eq_left hk, List.drop_zero, Nat.sub_zero]
theorem cut_loV (xs : List V) (k : Nat) (hk : k ≤ xs.length) : cutV xs (some (k : Int)) none = xs.drop k := by
  unfold cutV
  rw [HT.sIx_none, HT.sIx_nat, Nat.min_eq_left hk, List.take_of_length_le (by rw [List.length_drop]; omega)]
/-- where the first wrong one stands -/
theorem wrong_at {bs rs : List Bool} {spot : Nat} {u : V} {zs ys : List V} (hs : spot < bs.length + rs.length) (hy : ys = (bs.map V.bl ++ rs.map V.bl).take spot ++ u :: zs) :
    (spot < bs.length → ys.take bs.length = (bs.take spot).map V.bl ++ u :: (zs.take (bs.length - spot - 1))) ∧
    (bs.length ≤ spot → ys.take bs.length = bs.map V.bl ∧ ys.drop bs.length = (rs.take (spot - bs.length)).map V.bl ++ u :: zs) := by
  subst hy
  constructor
  · intro h
    have e : (bs.map V.bl ++ rs.map V.bl).take spot = (bs.take spot).map V.bl := by
      rw [List.take_append_of_le_length (by rw [List.length_map]; omega), List.map_take]
    rw [e, List.take_append, List.take_of_length_le (by rw [List.length_map, List.length_take]; omega), List.length_map, List.length_take, Nat.min_eq_left (by omega)]
    obtain ⟨k, hk⟩ : ∃ k, bs.length - spot = k + 1 := ⟨bs.length - spot - 1, by omega⟩
    rw [hk, List.take_succ_cons]
    rfl
  · intro h
    have e : (bs.map V.bl ++ rs.map V.bl).take spot = bs.map V.bl ++ (rs.take (spot - bs.length)).map V.bl := by
      rw [List.take_append, List.take_of_length_le (by rw [List.length_map]; omega), List.length_map, List.map_take]
    rw [e, List.append_assoc]
    have hl : (bs.map V.bl).length = bs.length := List.length_map V.bl
    refine ⟨?_, ?_⟩
    · rw [← hl, List.take_left']; rfl
    · rw [← hl, List.drop_left']; rfl
theorem ne_same {x y : Addr} {H : Hp} {R : VK} {tag : Str} {B : Int} (h1 : PyData.canLay0 (.str tag) = true) (h2 : PyData.depth (.str tag) = 0) (h3 : PyData.eqv (.str tag) (.str tag) = true) (hx : H x = some (.tup [.str tag, .int B])) (hy : H y = some (.tup [.str tag, .int B])) (q : R (.bl false) H) : rNeD K (.ref x) (.ref y) H R :=
  ⟨_, _, .tup (.inl (.inl hx)) (.cons (.str _) (.cons (.int _) .nil)), .tup (.inl (.inl hy)) (.cons (.str _) (.cons (.int _) .nil)), sh_tag tag _ h1 h2 rfl (Nat.zero_le 5), sh_tag tag _ h1 h2 rfl (Nat.zero_le 5), by rw [eqv_tag tag B h3]; exact q⟩
/-- the tag that is due, told -/
theorem tag_due {σ : L2.St} {H : Hp} {x : Addr} {R : VK} {tag : Str} {B : Int} (h1 : PyData.canLay0 (.str tag) = true) (h2 : PyData.depth (.str tag) = 0) (h3 : PyData.eqv (.str tag) (.str tag) = true) (hx : H x = some (.tup [.str tag, .int B])) (q : ∀ H', Same H H' → R (.bl false) H') :
    tTup (tCons (tC (V.str tag)) (tCons (tC (V.int B)) tNil)) σ H fun y H2 => rNeD K (.ref x) y H2 R := by
  refine ⟨by show 2 ≤ sizeLine; decide, fun t ht => ?_⟩
  have s1 := same_new (o := .tup [.str tag, .int B]) ht
  exact ne_same h1 h2 h3 (s1 _ _ hx) upd_same (q _ s1)
theorem flat_rep (k : Nat) : (List.replicate k [V.bl false]).flatten = (List.replicate k false).map V.bl := by
  induction k with
  | zero => rfl
  | succ k ih => rw [List.replicate_succ, List.flatten_cons, ih, List.replicate_succ]; rfl
theorem led_one (b : Bool) (n : Nat) : led [b] n = b := by
  unfold led
  rw [show n % [b].length = 0 from Nat.mod_one n]
  rfl
theorem late_lem {m st : Nat} (h : Canon (List.replicate 10000 false ++ [true]) [false] m st) : m ≤ 720 ∧ 10000 < st := by
  have h1 := Nat.le_of_dvd (by decide) h.dvd
  refine ⟨Nat.le_trans h1 (by decide), ?_⟩
  rcases Nat.lt_or_ge 10000 st with z | z
  · exact z
  · have h2 := h.start.2.1 10000 z (by rw [List.length_append, List.length_replicate]; exact Nat.lt_succ_self _)
    rw [led_one, List.getD_eq_getElem?_getD, List.getElem?_append_right (by rw [List.length_replicate]; exact Nat.le_refl _), List.length_replicate] at h2
    cases h2
def spLaw (K : PySem.W.Frag) (PT : Addr) : Sp := fun vs H Q _ => ∃ (a : Addr) (ns : List Int), vs = [.ref a] ∧ SqL K H a (ns.map V.int) ∧ ns.length ≤ 63 ∧ LamX.Tabs (TT PT) H ∧ ∀ H', Q (.bl true) H'
theorem scLaw : FnScope ["script", "pen", "lap", "m", "rests", "odd", "model", "w", "spot", "due", "below", "s", "wrong", "k"] ["script"] (defScope sLaw) := ⟨rfl, rfl, rfl, by decide +kernel, rfl, by decide +kernel, by decide +kernel⟩
theorem ok_law {f C CT CF CL fT fF fL fI g cL PT : Addr} {fdI : FuncData} {oc oc2 kV doc pm ct kV2 doc2 pm2 cdv2 ct2 : Value} {od an od2 an2 : Option Addr} {osl osl2 : Array (Option Value)}
    (lk : K.lookup f = some ⟨oc, od, .func (PySem.W.fnOf "law" "law" (defArgs sLaw) (defBody sLaw) (defScope sLaw) .none kV doc pm an (.ref cL) ct), osl⟩) (hcd : PySem.W.codeIn K (.ref cL) "law" = true)
    (T : TxtL mg) (CW : ClsW K mg C) (M : Mk K C fI) (FI : FnOk P w K mg base (CX P w) 4 fI fdI ["self", "below", "rests"] (spInit K C CT CF CL)) (bI : Binds K fdI ["self", "below", "rests"] [])
    (FT : FaultAt K mg g oc2 od2 an2 kV2 doc2 pm2 cdv2 ct2 osl2) (ET : ErrF K mg "BadTruth" "index" CT fT) (EFi : ErrF K mg "TooFine" "most" CF fF) (EL : ErrF K mg "TooLate" "most" CL fL) (EM : ErrM K CT CF CL) (TB : LamX.TabB base mg cL PT)
    (Dpen : Df P w K mg base 1 "_law_pen" ["script"] (spPen K)) (Ddraw : Df P w K mg base 1 "_law_draw" ["pen", "many"] spDraw) (Dpick : Df P w K mg base 2 "_law_pick" ["pen", "some"] (spPick K)) (Dro : Df P w K mg base 2 "_law_rests_of" ["pen", "m"] spRo) (Dask : Df P w K mg base 7 "_law_asked_right" ["pen", "w", "model"] (spAsk K C)) :
    FnOk P w K mg base CX0 8 f (PySem.W.fnOf "law" "law" (defArgs sLaw) (defBody sLaw) (defScope sLaw) .none kV doc pm an (.ref cL) ct) ["script"] (spLaw K PT) := by
  refine fn_of lk hcd scLaw (fun vs H Q E h => ?_) (fun A outer s H vs Q E hr h => ?_)
  · obtain ⟨a, ns, rfl, _⟩ := h
    rfl
  · obtain ⟨a, ns, rfl, hS, hlen, hTab, q⟩ := h
    refine ⟨_, PSs.nox (pss_cons (ps_set (i := 1) scLaw.nd rfl (.inl rfl) (Dpen.call (hr.mono (by decide)) (pa_cons (pv 0) pa_nil)))
      (pss_cons (ps_for PassesOwn.never rfl (pi_range1 (by rfl) T.range (pa_cons pe_int pa_nil)) (pg_name (i := 2) scLaw.nd rfl (.inl rfl))
      (pss_cons (ps_set (i := 3) scLaw.nd rfl (.inl rfl) (Dpick.call (hr.mono (by decide)) (pa_cons (pv 1) (pa_cons (pe_lst (pa_cons pe_int (pa_cons pe_int (pa_cons (pe_op op_add pe_int (Ddraw.call (hr.mono (by decide)) (pa_cons (pv 1) (pa_cons pe_int pa_nil)))) pa_nil)))) pa_nil))))
      (pss_cons (ps_set (i := 11) scLaw.nd rfl (.inr rfl) (Dpick.call (hr.mono (by decide)) (pa_cons (pv 1) (pa_cons (pe_lst (pa_cons pe_int (pa_cons pe_int (pa_cons pe_int (pa_cons (Ddraw.call (hr.mono (by decide)) (pa_cons (pv 1) (pa_cons pe_int pa_nil))) (pa_cons (pe_op op_add pe_int (Ddraw.call (hr.mono (by decide)) (pa_cons (pv 1) (pa_cons pe_int pa_nil)))) pa_nil)))))) pa_nil))))
      (pss_cons (ps_asg (pe_tup (pa_cons (Dro.call (hr.mono (by decide)) (pa_cons (pv 1) (pa_cons (pv 3) pa_nil))) (pa_cons (Ddraw.call (hr.mono (by decide)) (pa_cons (pv 1) (pa_cons pe_int pa_nil))) pa_nil))) (pg_tup (by rfl) (pgs_cons (pg_name (i := 4) scLaw.nd rfl (.inl rfl)) (pgs_cons (pg_name (i := 5) scLaw.nd rfl (.inr rfl)) pgs_nil))))
      (pss_cons (ps_set (i := 10) scLaw.nd rfl (.inr rfl) (pe_lc (own := [("k", 13)]) (g := gName 13) (by rfl) scLaw.nd (pi_range1 (by rfl) T.range (pa_cons (pv 11) pa_nil)) (blkOk_by (own := [("k", 13)]) (N := ["script", "pen", "lap", "m", "rests", "odd", "model", "w", "spot", "due", "below", "s", "wrong", "k"]) (sc := defScope sLaw) (by decide +kernel)) (fun _ _ _ _ _ => pg_name (i := 13) scLaw.nd rfl (Or.inl rfl)) (fun _ _ _ _ _ => pts_nil) (fun _ _ _ _ _ => (pe_cmpR op_eq (pe_op op_mod (pv 13) pe_int) (pv 5) (nomark _)))))
      (pss_cons (ps_if (pt_cmpR op_gt (pv 11) pe_int (nomark _)) (pss_one (ps_asg (pe_not (pe_ix ix_seq (pv 4) (pe_op op_mod (pe_op op_sub (pv 11) pe_int) (pv 3)) (fun _ _ => rfl))) (pg_sub (pv 10) (pe_op op_sub (pv 11) pe_int) set_list))) pss_nil)
      (pss_cons (ps_set (i := 6) scLaw.nd rfl (.inl rfl) (pe_tup (pa_cons (pv 10) (pa_cons (pv 4) pa_nil))))
      (pss_cons (ps_set (i := 7) scLaw.nd rfl (.inl rfl) (pe_make M FI (hr.mono (by decide)) (by rfl) CW.mgC bI .nil passF (pa_cons (pe_callTy call_tuple_of (by rfl) T.tuple (by decide +kernel) (pa_cons (pv 10) pa_nil)) (pa_cons (pv 4) pa_nil))))
      (pss_cons (ps_if (pt_cmpR (op_neD hr.units) (pe_tup (pa_cons (pe_fld (pv 7) rfl) (pa_cons (pe_fld (pv 7) rfl) (pa_cons (pe_fld (pv 7) rfl) (pa_cons (pe_fld (pv 7) rfl) pa_nil))))) (pe_tup (pa_cons (pv 3) (pa_cons (pv 11) (pa_cons (pe_callTy call_tuple_of (by rfl) T.tuple (by decide +kernel) (pa_cons (pv 10) pa_nil)) (pa_cons (pe_callTy call_tuple_of (by rfl) T.tuple (by decide +kernel) (pa_cons (pv 4) pa_nil)) pa_nil))))) (nomark _)) (pss_one (ps_ret pe_bl)) pss_nil)
      (pss_cons (ps_if (pt_not (pt_val (Dask.call (hr.mono (by decide)) (pa_cons (pv 1) (pa_cons (pv 7) (pa_cons (pv 6) pa_nil)))))) (pss_one (ps_ret pe_bl)) pss_nil)
      (pss_cons (ps_asg (pe_tup (pa_cons (pe_op op_cat (pe_callTy call_list_of (by rfl) T.list (by decide +kernel) (pa_cons (pv 10) pa_nil)) (pe_callTy call_list_of (by rfl) T.list (by decide +kernel) (pa_cons (pv 4) pa_nil))) (pa_cons (Ddraw.call (hr.mono (by decide)) (pa_cons (pv 1) (pa_cons (pe_op op_add (pv 11) (pv 3)) pa_nil))) pa_nil))) (pg_tup (by rfl) (pgs_cons (pg_name (i := 12) scLaw.nd rfl (.inr rfl)) (pgs_cons (pg_name (i := 8) scLaw.nd rfl (.inl rfl)) pgs_nil))))
      (pss_cons (ps_asg (Dpick.call (hr.mono (by decide)) (pa_cons (pv 1) (pa_cons (pe_lst (pa_cons pe_int (pa_cons pe_int (pa_cons pe_non (pa_cons pe_str pa_nil))))) pa_nil))) (pg_sub (pv 12) (pv 8) set_list))
      (pss_cons (ps_if (pt_cmpR op_eq (Ddraw.call (hr.mono (by decide)) (pa_cons (pv 1) (pa_cons pe_int pa_nil))) pe_int (nomark _)) (pss_one (ps_asg pe_int (pg_sub (pv 12) (pe_op op_add (pv 8) (Ddraw.call (hr.mono (by decide)) (pa_cons (pv 1) (pa_cons (pe_op op_sub (pe_op op_add (pv 11) (pv 3)) (pv 8)) pa_nil)))) set_list))) pss_nil)
      (pss_cons (ps_set (i := 9) scLaw.nd rfl (.inl rfl) (pe_tup (pa_cons pe_str (pa_cons (pe_ifExp (pt_cmpR op_lt (pv 8) (pv 11) (nomark _)) (pv 8) (pe_op op_sub (pv 8) (pv 11))) pa_nil))))
      (pss_cons (ps_if (pt_cmpR (op_neD hr.units) (LamX.pe_lamcall (k := 5) (by rfl) FT.mg_ FT.kp FT.lk FT.cd FT.b scFault rfl (.inl rfl) (fault_gives ET EFi EL EM) TB rfl (show (PT, ("law.<locals>.<lambda>" : Str)) ∈ TT PT from List.Mem.head _) (huT PT) (hr.mono (by decide)) (LamX.lamS_by (show LamX.lamSB (defScope sLaw) _ = true by decide +kernel)) rfl (fun _ _ _ _ _ => rfl) (fun A' outer' s' H' E' f' c' hr' => pe_make M FI (hr'.mono (by decide)) (by rfl) CW.mgC bI .nil (passX) (pa_cons (pe_slice (show SlR _ (rSlL K) from sl_list) (pv 12) po_none (po_some (pv 11))) (pa_cons (pe_slice (show SlR _ (rSlL K) from sl_list) (pv 12) (po_some (pv 11)) po_none) pa_nil)))) (pv 9) (nomark _)) (pss_one (ps_ret pe_bl)) pss_nil)
      (pss_cons (ps_if (pt_cmpR (op_neD hr.units) (LamX.pe_lamcall (k := 5) (by rfl) FT.mg_ FT.kp FT.lk FT.cd FT.b scFault rfl (.inl rfl) (fault_gives ET EFi EL EM) TB rfl (show (PT, ("law.<locals>.<lambda>" : Str)) ∈ TT PT from List.Mem.head _) (huT PT) (hr.mono (by decide)) (LamX.lamS_by (show LamX.lamSB (defScope sLaw) _ = true by decide +kernel)) rfl (fun _ _ _ _ _ => rfl) (fun A' outer' s' H' E' f' c' hr' => pe_make M FI (hr'.mono (by decide)) (by rfl) CW.mgC bI .nil (passX) (pa_cons (pv 10) (pa_cons (pe_lc (own := [("k", 13)]) (g := gName 13) (by rfl) scLaw.nd (pi_range1 (by rfl) T.range (pa_cons pe_int pa_nil)) (blkOk_by (own := [("k", 13)]) (N := ["script", "pen", "lap", "m", "rests", "odd", "model", "w", "spot", "due", "below", "s", "wrong", "k"]) (sc := _) (by rfl)) (fun _ _ _ _ _ => pg_name (i := 13) scLaw.nd rfl (Or.inl rfl)) (fun _ _ _ _ _ => pts_nil) (fun _ _ _ _ _ => (pe_cmpR (show OpR _ (compareOp .Eq) rEq from op_eq) (pv 13) pe_int (nomark _)))) pa_nil)))) (pe_tup (pa_cons pe_str (pa_cons pe_int pa_nil))) (nomark _)) (pss_one (ps_ret pe_bl)) pss_nil)
      (pss_one (ps_if (pt_cmpR (op_neD hr.units) (LamX.pe_lamcall (k := 5) (by rfl) FT.mg_ FT.kp FT.lk FT.cd FT.b scFault rfl (.inl rfl) (fault_gives ET EFi EL EM) TB rfl (show (PT, ("law.<locals>.<lambda>" : Str)) ∈ TT PT from List.Mem.head _) (huT PT) (hr.mono (by decide)) (LamX.lamS_by (show LamX.lamSB (defScope sLaw) _ = true by decide +kernel)) rfl (fun _ _ _ _ _ => rfl) (fun A' outer' s' H' E' f' c' hr' => pe_make M FI (hr'.mono (by decide)) (by rfl) CW.mgC bI .nil (passX) (pa_cons (pe_op op_cat (pe_op op_rep (pe_lst (pa_cons pe_bl pa_nil)) pe_int) (pe_lst (pa_cons pe_bl pa_nil))) (pa_cons (pe_lst (pa_cons pe_bl pa_nil)) pa_nil)))) (pe_tup (pa_cons pe_str (pa_cons pe_int pa_nil))) (nomark _)) (pss_one (ps_ret pe_bl)) pss_nil))))))))))))))))))
      (pss_one (ps_ret pe_bl)))), ?_⟩
    refine ⟨_, rfl, a, ns, rfl, hS, hlen, fun p l H0 hp0 s0 hP0 => ?_⟩
    refine ⟨2, rfl, by decide, by decide, ?_⟩
    have hT0 := tabs_same hTab s0
    refine for_range (lo := 0) (n := 2) (fun i σ H' => ∃ (a' b' : Int) (y2 y3 y4 y5 y6 y7 y8 y9 y10 y11 y12 : Option V), Pen H' p l ns a' b' ∧ a' ≤ 10000 * i ∧ LamX.Tabs (TT PT) H' ∧ σ = [some (.ref a), some (.ref p), y2, y3, y4, y5, y6, y7, y8, y9, y10, y11, y12, none])
      ⟨0, 0, none, none, none, none, none, none, none, none, none, none, none, hP0, by omega, hT0, rfl⟩ ?_ ?_
    · rintro i σ H1 hi ⟨a1, b1, y2, y3, y4, y5, y6, y7, y8, y9, y10, y11, y12, hP1, ha1, hT1, rfl⟩
      have hi9 : i < 12 := by omega
      -- m
      refine ⟨_, rfl, _, rfl, p, l, ns, a1, b1, _, rfl, hP1, by omega, by decide, by decide, fun d1 a2 b2 H2 d10 d11 ha2 hP2 hK2 => ?_⟩
      refine ⟨_, _, rfl, rfl, by show 3 ≤ sizeLine; decide, fun l1 hl1 => ?_⟩
      have hT2 := tabs_kp hT1 hK2 hP1
      obtain ⟨d1', hd1'⟩ : ∃ z : Int, 25 + d1 = z := ⟨_, rfl⟩
      have s3 : Same H2 (upd H2 l1 (.lst [.int 720, .int 719, .int (25 + d1)])) := same_new hl1
      have e3 : (upd H2 l1 (.lst [.int 720, .int 719, .int (25 + d1)])) l1 = some (.lst [.int 720, .int 719, .int (25 + d1)]) := upd_same
      obtain ⟨H3, hH3⟩ : ∃ H3, upd H2 l1 (.lst [.int 720, .int 719, .int (25 + d1)]) = H3 := ⟨_, rfl⟩
      rw [hH3] at s3 e3
      show spPick K [.ref p, .ref l1] (upd H2 l1 (.lst [.int 720, .int 719, .int (25 + d1)])) _ E0
      rw [hH3]
      have hP3 := hP2.same s3
      have hT3 := tabs_same hT2 s3
      refine ⟨p, l, l1, ns, a2, b2, _, rfl, hP3, by omega, .inl (.inl e3), ne_of e3 hP3.hd (by intro q; cases q), by show 1 ≤ 3; decide, by show 3 ≤ 100000; decide, fun j4 mv a4 b4 H4 hj4 ha4 hP4 hK4 => ?_⟩
      obtain ⟨m, rfl, hm1, hm2⟩ : ∃ m : Nat, mv = .int (m : Int) ∧ 25 ≤ m ∧ m ≤ 720 := by
        have hm := List.mem_of_getElem? hj4
        simp only [List.mem_cons, List.not_mem_nil, or_false] at hm
        rcases hm with rfl | rfl | rfl
        · exact ⟨720, rfl, by decide, by decide⟩
        · exact ⟨719, rfl, by decide, by decide⟩
        · exact ⟨(25 + d1).toNat, by rw [Int.toNat_of_nonneg (by omega)], by omega, by omega⟩
      have hT4 := tabs_kp hT3 hK4 hP3
      -- s
      refine ⟨_, rfl, _, rfl, p, l, ns, a4, b4, _, rfl, hP4, by omega, by decide, by decide, fun d5 a5 b5 H5 d50 d51 ha5 hP5 hK5 => ?_⟩
      refine ⟨_, rfl, p, l, ns, a5, b5, _, rfl, hP5, by omega, by decide, by decide, fun d6 a6 b6 H6 d60 d61 ha6 hP6 hK6 => ?_⟩
      refine ⟨_, _, rfl, rfl, by show 5 ≤ sizeLine; decide, fun l2 hl2 => ?_⟩
      have hT6 := tabs_kp (tabs_kp hT4 hK5 hP4) hK6 hP5
      have s7 : Same H6 (upd H6 l2 (.lst [.int 0, .int 10000, .int 9999, .int d5, .int (9000 + d6)])) := same_new hl2
      have e7 : (upd H6 l2 (.lst [.int 0, .int 10000, .int 9999, .int d5, .int (9000 + d6)])) l2 = some (.lst [.int 0, .int 10000, .int 9999, .int d5, .int (9000 + d6)]) := upd_same
      obtain ⟨H7, hH7⟩ : ∃ H7, upd H6 l2 (.lst [.int 0, .int 10000, .int 9999, .int d5, .int (9000 + d6)]) = H7 := ⟨_, rfl⟩
      rw [hH7] at s7 e7
      show spPick K [.ref p, .ref l2] (upd H6 l2 (.lst [.int 0, .int 10000, .int 9999, .int d5, .int (9000 + d6)])) _ E0
      rw [hH7]
      have hP7 := hP6.same s7
      have hT7 := tabs_same hT6 s7
      refine ⟨p, l, l2, ns, a6, b6, _, rfl, hP7, by omega, .inl (.inl e7), ne_of e7 hP7.hd (by intro q; cases q), by show 1 ≤ 5; decide, by show 5 ≤ 100000; decide, fun j8 sv a8 b8 H8 hj8 ha8 hP8 hK8 => ?_⟩
      obtain ⟨s, rfl, hs2⟩ : ∃ s : Nat, sv = .int (s : Int) ∧ s ≤ 10000 := by
        have hm := List.mem_of_getElem? hj8
        simp only [List.mem_cons, List.not_mem_nil, or_false] at hm
        rcases hm with rfl | rfl | rfl | rfl | rfl
        · exact ⟨0, rfl, by decide⟩
        · exact ⟨10000, rfl, by decide⟩
        · exact ⟨9999, rfl, by decide⟩
        · exact ⟨d5.toNat, by rw [Int.toNat_of_nonneg (by omega)], by omega⟩
        · exact ⟨(9000 + d6).toNat, by rw [Int.toNat_of_nonneg (by omega)], by omega⟩
      have hT8 := tabs_kp hT7 hK8 hP7
      -- rests, odd
      refine ⟨_, rfl, _, rfl, p, l, ns, a8, b8, m, rfl, hP8, by omega, by omega, by omega, fun rr rs a9 b9 H9 nrr err hrl hprim ha9 hP9 hK9 => ?_⟩
      refine ⟨_, rfl, p, l, ns, a9, b9, _, rfl, hP9, by omega, by decide, by decide, fun od a10 b10 H10 od0 od1 ha10 hP10 hK10 => ?_⟩
      refine ⟨by show 2 ≤ sizeLine; decide, fun t1 ht1 => ?_⟩
      have s11 : Same H10 (upd H10 t1 (.tup [.ref rr, .int od])) := same_new ht1
      have e11 : (upd H10 t1 (.tup [.ref rr, .int od])) t1 = some (.tup [.ref rr, .int od]) := upd_same
      have hT11 := tabs_same (tabs_kp (tabs_kp hT8 hK9 hP8) hK10 hP9) s11
      have hP11 := hP10.same s11
      have err := s11 _ _ ((Kx.of_kp hK10).lst hP9.hd err)
      refine ⟨t1, _, rfl, .inl (.inl e11), rfl, _, _, rfl, _, _, rfl, rfl, ?_⟩
      generalize upd H10 t1 (.tup [.ref rr, .int od]) = H11 at s11 err hT11 hP11 ⊢
      -- below
      refine ⟨_, rfl, _, rfl, by omega, by omega, fun D hD => ?_⟩
      rw [show ((s : Nat) : Int).toNat = s from rfl]
      refine lc_range (lo := 0) (n := s) (fun i H' => ∃ acc : List Bool, Same H11 H' ∧ H' D = some (.lst (acc.map V.bl)) ∧ acc.length = i) ⟨[], same_new hD, upd_same, rfl⟩ ?_ ?_
      · rintro k Hx hk ⟨acc, sx, hx, hl⟩
        refine ⟨rfl, _, rfl, _, _, rfl, rfl, (show (0 : Int) < 97 by decide), _, rfl, rfl, _, hx, by rw [List.length_map]; exact small1000' (by omega), acc ++ [_], same_mut sx hD, by rw [upd_same, List.map_append]; rfl, by rw [List.length_append, hl]; rfl⟩
      rintro H12 ⟨acc, s12, hA, hl⟩
      subst hl
      refine ⟨_, rfl, _, _, rfl, rfl, _, rfl, ?_⟩
      have e0 : ((0 : Int) < ((acc.length : Nat) : Int)) ↔ 0 < acc.length := by omega
      have err12 := s12 _ _ err
      by_cases h0 : 0 < acc.length
      case' pos =>
        rw [decide_eq_true (show ((acc.length : Nat) : Int) > 0 by omega)]
        refine iteT ?_
        have hmod : ((((acc.length : Nat) : Int) - 1) % (m : Int)) = (((acc.length - 1) % m : Nat) : Int) := by
          rw [show (((acc.length : Nat) : Int) - 1) = ((acc.length - 1 : Nat) : Int) by omega]
          rfl
        have hml : (acc.length - 1) % m < m := Nat.mod_lt _ (by omega)
        refine ⟨_, rfl, _, rfl, _, _, rfl, rfl, _, rfl, _, _, rfl, rfl, (show (0 : Int) < (m : Int) by omega), ?_⟩
        dsimp only
        rw [hmod]
        refine ix_bls (.inl (.inl (.inl err12))) (by omega) (by omega) ⟨_, rfl, ?_⟩
        refine ⟨_, rfl, _, rfl, _, _, rfl, rfl, D, _, _, acc.length - 1, rfl, rfl, hA, ?_, ?_⟩
        · unfold ixN
          rw [if_pos (by omega), if_pos (by rw [List.length_map]; omega)]
          congr 1
          omega
        have hset : (acc.map V.bl).set (acc.length - 1) (V.bl (!rs.getD ((((acc.length - 1) % m : Nat) : Int)).toNat false)) = (acc.set (acc.length - 1) (!rs.getD ((((acc.length - 1) % m : Nat) : Int)).toNat false)).map V.bl := by rw [List.map_set]
        rw [hset]
        have fct : ∃ bs : List Bool, (acc.set (acc.length - 1) (!rs.getD ((((acc.length - 1) % m : Nat) : Int)).toNat false)) = bs ∧ bs.length = acc.length ∧ (0 < acc.length → bs.getD (acc.length - 1) false = !(led rs (acc.length - 1))) := by
          refine ⟨_, rfl, List.length_set, fun _ => ?_⟩
          rw [List.getD_eq_getElem?_getD, List.getElem?_set_self (by omega)]
          show (!rs.getD ((acc.length - 1) % m) false) = _
          unfold led
          rw [hrl]
        obtain ⟨bs, hbs, hbl, hbe⟩ := fct
        rw [hbs]
        have s13 : Same H11 (upd H12 D (.lst (bs.map V.bl))) := same_mut s12 hD
        have eB : (upd H12 D (.lst (bs.map V.bl))) D = some (.lst (bs.map V.bl)) := upd_same
        generalize upd H12 D (.lst (bs.map V.bl)) = H13 at s13 eB ⊢
      case' neg =>
        rw [decide_eq_false (show ¬ (((acc.length : Nat) : Int) > 0) by omega)]
        refine iteF ?_
        have s13 : Same H11 H12 := s12
        have eB := hA
        have fct : ∃ bs : List Bool, acc = bs ∧ bs.length = acc.length ∧ (0 < acc.length → bs.getD (acc.length - 1) false = !(led rs (acc.length - 1))) := ⟨acc, rfl, rfl, fun z => absurd z h0⟩
        obtain ⟨bs, hbs, hbl, hbe⟩ := fct
        rw [hbs] at eB
        generalize H12 = H13 at s13 eB ⊢
      all_goals
        have hbe' : 0 < bs.length → bs.getD (bs.length - 1) false = !(led rs (bs.length - 1)) := by rw [hbl]; exact hbe
        have hP13 := hP11.same s13
        have hT13 := tabs_same hT11 s13
        have err13 := s13 _ _ err
        -- model
        refine ⟨_, rfl, _, rfl, by show 2 ≤ sizeLine; decide, fun t2 ht2 => ?_⟩
        have s14 := same_new (o := .tup [.ref D, .ref rr]) ht2
        have e14 : (upd H13 t2 (.tup [.ref D, .ref rr])) t2 = some (.tup [.ref D, .ref rr]) := upd_same
        generalize upd H13 t2 (.tup [.ref D, .ref rr]) = H14 at s14 e14 ⊢
        have eB14 := s14 _ _ eB
        have err14 := s14 _ _ err13
        -- w
        refine ⟨_, rfl, D, _, rfl, .inl ⟨.inl (.inl eB14), fun t3 ht3 => ?_⟩⟩
        have s15 := same_new (o := .tup (bs.map V.bl)) ht3
        have e15 : (upd H14 t3 (.tup (bs.map V.bl))) t3 = some (.tup (bs.map V.bl)) := upd_same
        generalize upd H14 t3 (.tup (bs.map V.bl)) = H15 at s15 e15 ⊢
        have err15 := s15 _ _ err14
        refine ⟨_, rfl, ?_⟩
        intro x dx nx ndx nex
        refine ⟨H15, x, dx, t3, rr, _, _, rfl, same_inst nx ndx, nx, upd_same, .inr (.inl (.inl e15)), .inl (.inl (.inl err15)), (by simp only [List.length_map, List.length_append, List.length_cons, List.length_nil, List.length_replicate, List.length_take, List.length_drop, hotL_len] at *; omega), (by simp only [List.length_map, List.length_append, List.length_cons, List.length_nil, List.length_replicate, List.length_take, List.length_drop, hotL_len] at *; omega), MadeX.good (by omega) (by omega) (by omega) fun m' st H16 hc s16 hw => ⟨rfl, ?_⟩⟩
        have em := prim_per (by omega) hprim hc
        have es := start_is hc hbe'
        subst em es
        have hWh : Whr K C H16 x bs rs := ⟨by omega, by omega, by omega, _, _, hc, hw⟩
        obtain ⟨dx', ra, ba, ea, la, g1, g2, g3, g4, g5⟩ := hw
        rw [List.take_length] at g2 g3
        have eB16 := s16 _ _ (s15 _ _ eB14)
        have err16 := s16 _ _ err15
        refine ⟨_, rfl, x, C, dx', _, _, rfl, g1, CW.cl, CW.nP, wf_period, _, rfl, x, C, dx', _, _, rfl, g1, CW.cl, CW.nS, wf_start, _, rfl, x, C, dx', _, _, rfl, g1, CW.cl, CW.nB, wf_below, _, rfl, x, C, dx', _, _, rfl, g1, CW.cl, CW.nR, wf_rests, by show 4 ≤ sizeLine; decide, fun t4 ht4 => ?_⟩
        have s17 := same_new (o := .tup [.int (rs.length : Int), .int (bs.length : Int), .ref ba, .ref ra]) ht4
        have e17 : (upd H16 t4 (.tup [.int (rs.length : Int), .int (bs.length : Int), .ref ba, .ref ra])) t4 = some (.tup [.int (rs.length : Int), .int (bs.length : Int), .ref ba, .ref ra]) := upd_same
        generalize upd H16 t4 (.tup [.int (rs.length : Int), .int (bs.length : Int), .ref ba, .ref ra]) = H17 at s17 e17 ⊢
        refine ⟨_, rfl, _, rfl, _, rfl, D, _, rfl, .inl ⟨.inl (.inl (s17 _ _ eB16)), fun t5 ht5 => ?_⟩⟩
        have s18 := same_new (o := .tup (bs.map V.bl)) ht5
        have e18 : (upd H17 t5 (.tup (bs.map V.bl))) t5 = some (.tup (bs.map V.bl)) := upd_same
        generalize upd H17 t5 (.tup (bs.map V.bl)) = H18 at s18 e18 ⊢
        refine ⟨_, rfl, rr, _, rfl, .inl ⟨.inl (.inl (s18 _ _ (s17 _ _ err16))), fun t6 ht6 => ?_⟩⟩
        have s19 := same_new (o := .tup (rs.map V.bl)) ht6
        have e19 : (upd H18 t6 (.tup (rs.map V.bl))) t6 = some (.tup (rs.map V.bl)) := upd_same
        generalize upd H18 t6 (.tup (rs.map V.bl)) = H19 at s19 e19 ⊢
        refine ⟨by show 4 ≤ sizeLine; decide, fun t7 ht7 => ?_⟩
        have hmr : (m : Int) = (rs.length : Int) := by rw [hrl]
        have hsb : ((acc.length : Nat) : Int) = (bs.length : Int) := by rw [hbl]
        rw [hmr, hsb]
        have s20 := same_new (o := .tup [.int (rs.length : Int), .int (bs.length : Int), .ref t5, .ref t6]) ht7
        have e20 : (upd H19 t7 (.tup [.int (rs.length : Int), .int (bs.length : Int), .ref t5, .ref t6])) t7 = some (.tup [.int (rs.length : Int), .int (bs.length : Int), .ref t5, .ref t6]) := upd_same
        generalize upd H19 t7 (.tup [.int (rs.length : Int), .int (bs.length : Int), .ref t5, .ref t6]) = H20 at s20 e20 ⊢
        have s1720 := s17.trans (s18.trans (s19.trans s20))
        refine ⟨_, _, .tup (.inl (.inl (s20 _ _ (s19 _ _ (s18 _ _ e17))))) (.cons (.int _) (.cons (.int _) (.cons (.tup (Same.tup s1720 g3) (dp_bls _)) (.cons (.tup (Same.tup s1720 g2) (dp_bls _)) .nil)))),
          .tup (.inl (.inl e20)) (.cons (.int _) (.cons (.int _) (.cons (.tup (.inl (.inl (s20 _ _ (s19 _ _ e18)))) (dp_bls _)) (.cons (.tup (.inl (.inl (s20 _ _ e19))) (dp_bls _)) .nil)))), sh4 _ _ _ _, sh4 _ _ _ _, _, rfl, ?_⟩
        rw [eqv4]
        refine iteF ?_
        have hW20 := hWh.same s1720
        have s1320 := s14.trans (s15.trans (s16.trans s1720))
        have e14' := s16.trans s1720 _ _ (s15 _ _ e14)
        have hct := prim_true hprim (by omega)
        have hP20 := hP13.same s1320
        have hT20 := tabs_same hT13 s1320
        have eB20 := s1320 _ _ eB
        have err20 := s1320 _ _ err13
        refine ⟨_, rfl, _, rfl, _, rfl, p, l, x, t2, ns, a10, b10, bs, rs, rfl, hP20, by omega, hW20, ⟨D, rr, e14', eB20, err20⟩, hct, fun a21 b21 H21 ha21 hP21 hK21 => ?_⟩
        refine ⟨_, rfl, iteF ?_⟩
        have hT21 := tabs_kp hT20 hK21 hP20
        have eB21 := (Kx.of_kp hK21).lst hP20.hd eB20
        have err21 := (Kx.of_kp hK21).lst hP20.hd err20
        -- wrong, spot
        refine ⟨_, rfl, D, _, rfl, .inl (.inl (.inl eB21)), fun l3 hl3 => ?_⟩
        have s22 := same_new (o := .lst (bs.map V.bl)) hl3
        have e22 : (upd H21 l3 (.lst (bs.map V.bl))) l3 = some (.lst (bs.map V.bl)) := upd_same
        generalize upd H21 l3 (.lst (bs.map V.bl)) = H22 at s22 e22 ⊢
        refine ⟨_, rfl, rr, _, rfl, .inl (.inl (.inl (s22 _ _ err21))), fun l4 hl4 => ?_⟩
        have s23 := same_new (o := .lst (rs.map V.bl)) hl4
        have e23 : (upd H22 l4 (.lst (rs.map V.bl))) l4 = some (.lst (rs.map V.bl)) := upd_same
        generalize upd H22 l4 (.lst (rs.map V.bl)) = H23 at s23 e23 ⊢
        refine ⟨l3, l4, _, _, rfl, rfl, s23 _ _ e22, e23, by rw [List.length_map, List.length_map]; exact Nat.le_trans (show bs.length + rs.length ≤ 100000 by omega) (by decide), fun W hW => ?_⟩
        have s24 := same_new (o := .lst (bs.map V.bl ++ rs.map V.bl)) hW
        have e24 : (upd H23 W (.lst (bs.map V.bl ++ rs.map V.bl))) W = some (.lst (bs.map V.bl ++ rs.map V.bl)) := upd_same
        generalize upd H23 W (.lst (bs.map V.bl ++ rs.map V.bl)) = H24 at s24 e24 ⊢
        have s2124 := s22.trans (s23.trans s24)
        have hP24 := hP21.same s2124
        refine ⟨_, rfl, _, rfl, _, rfl, _, _, rfl, rfl, p, l, ns, a21, b21, _, rfl, hP24, by omega, by omega, by omega, fun d25 a25 b25 H25 d250 d251 ha25 hP25 hK25 => ?_⟩
        obtain ⟨spot, rfl⟩ : ∃ spot : Nat, d25 = (spot : Int) := ⟨d25.toNat, by omega⟩
        refine ⟨by show 2 ≤ sizeLine; decide, fun t8 ht8 => ?_⟩
        have s26 := same_new (o := .tup [.ref W, .int (spot : Int)]) ht8
        have e26 : (upd H25 t8 (.tup [.ref W, .int (spot : Int)])) t8 = some (.tup [.ref W, .int (spot : Int)]) := upd_same
        have eW26 := s26 _ _ ((Kx.of_kp hK25).lst hP24.hd e24)
        have x26 : Kx p H21 (upd H25 t8 (.tup [.ref W, .int (spot : Int)])) := (Kx.of_same s2124).trans ((Kx.of_kp hK25).trans (Kx.of_same s26))
        have hT26 := tabs_same (tabs_kp (tabs_same hT21 s2124) hK25 hP24) s26
        have hP26 := hP25.same s26
        refine ⟨t8, _, rfl, .inl (.inl e26), rfl, _, _, rfl, _, _, rfl, rfl, ?_⟩
        generalize upd H25 t8 (.tup [.ref W, .int (spot : Int)]) = H26 at s26 eW26 x26 hT26 hP26 ⊢
        -- wrong[spot]
        refine ⟨_, rfl, by show 4 ≤ sizeLine; decide, fun l5 hl5 => ?_⟩
        have s27 := same_new (o := .lst [.int 0, .int 1, .non, .str "True"]) hl5
        have e27 : (upd H26 l5 (.lst [.int 0, .int 1, .non, .str "True"])) l5 = some (.lst [.int 0, .int 1, .non, .str "True"]) := upd_same
        generalize upd H26 l5 (.lst [.int 0, .int 1, .non, .str "True"]) = H27 at s27 e27 ⊢
        have hP27 := hP26.same s27
        refine ⟨p, l, l5, ns, a25, b25, _, rfl, hP27, by omega, .inl (.inl e27), ne_of e27 hP27.hd (by intro q; cases q), by show 1 ≤ 4; decide, by show 4 ≤ 100000; decide, fun j28 wv a28 b28 H28 hj28 ha28 hP28 hK28 => ?_⟩
        have hN : NoBl wv := by
          have hm := List.mem_of_getElem? hj28
          simp only [List.mem_cons, List.not_mem_nil, or_false] at hm
          rcases hm with rfl | rfl | rfl | rfl
          all_goals trivial
        have x28 := x26.trans ((Kx.of_same s27).trans (Kx.of_kp hK28))
        have eW28 := (Kx.of_kp hK28).lst hP27.hd (s27 _ _ eW26)
        have hT28 := tabs_kp (tabs_same hT26 s27) hK28 hP27
        refine ⟨_, rfl, _, rfl, W, _, _, spot, rfl, rfl, eW28, ?_, ?_⟩
        · unfold ixN
          rw [if_pos (by omega), if_pos (by rw [List.length_append, List.length_map, List.length_map]; omega)]
          rfl
        have hxl : (bs.map V.bl ++ rs.map V.bl).length = bs.length + rs.length := by rw [List.length_append, List.length_map, List.length_map]
        have hsp : spot < bs.length + rs.length := by omega
        have nD : D ≠ W := ne_of_none (s23 _ _ (s22 _ _ eB21)) hW
        have np : p ≠ W := ne_of_none ((hP21.same (s22.trans s23)).hd) hW
        have nl : l ≠ W := ne_of_none ((hP21.same (s22.trans s23)).hl) hW
        rw [set_cut (show spot < (bs.map V.bl ++ rs.map V.bl).length by rw [hxl]; exact hsp)]
        have eW29 : (upd H28 W (.lst ((bs.map V.bl ++ rs.map V.bl).take spot ++ wv :: (bs.map V.bl ++ rs.map V.bl).drop (spot + 1)))) W = some (.lst ((bs.map V.bl ++ rs.map V.bl).take spot ++ wv :: (bs.map V.bl ++ rs.map V.bl).drop (spot + 1))) := upd_same
        have hP29 : Pen (upd H28 W (.lst ((bs.map V.bl ++ rs.map V.bl).take spot ++ wv :: (bs.map V.bl ++ rs.map V.bl).drop (spot + 1)))) p l ns a28 b28 := hP28.upd np nl
        have hT29 : LamX.Tabs (TT PT) (upd H28 W (.lst ((bs.map V.bl ++ rs.map V.bl).take spot ++ wv :: (bs.map V.bl ++ rs.map V.bl).drop (spot + 1)))) := tabs_lst hT28 eW28
        have eB29 : (upd H28 W (.lst ((bs.map V.bl ++ rs.map V.bl).take spot ++ wv :: (bs.map V.bl ++ rs.map V.bl).drop (spot + 1)))) D = some (.lst (bs.map V.bl)) := by rw [upd_ne nD]; exact x28.lst hP21.hd eB21
        generalize upd H28 W (.lst ((bs.map V.bl ++ rs.map V.bl).take spot ++ wv :: (bs.map V.bl ++ rs.map V.bl).drop (spot + 1))) = H29 at eW29 hP29 hT29 eB29 ⊢
        have hzl : ((bs.map V.bl ++ rs.map V.bl).take spot ++ wv :: (bs.map V.bl ++ rs.map V.bl).drop (spot + 1)).length = bs.length + rs.length := by rw [← set_cut (show spot < (bs.map V.bl ++ rs.map V.bl).length by rw [hxl]; exact hsp), List.length_set, hxl]
        generalize (bs.map V.bl ++ rs.map V.bl).drop (spot + 1) = zs at eW29 hzl
        -- now and then a second wrong one
        refine ⟨_, rfl, p, l, ns, a28, b28, _, rfl, hP29, by omega, by decide, by decide, fun d30 a30 b30 H30 d300 d301 ha30 hP30 hK30 => ⟨rfl, _, rfl, ?_⟩⟩
        have eW30 := (Kx.of_kp hK30).lst hP29.hd eW29
        have eB30 := (Kx.of_kp hK30).lst hP29.hd eB29
        have hT30 := tabs_kp hT29 hK30 hP29
        refine ite2 ?_ ?_ <;> intro _
        refine ⟨_, rfl, _, rfl, _, rfl, _, rfl, _, rfl, _, _, rfl, rfl, _, rfl, _, _, rfl, rfl, p, l, ns, a30, b30, _, rfl, hP30, by omega, by omega, by omega, fun d31 a31 b31 H31 d310 d311 ha31 hP31 hK31 => ?_⟩
        obtain ⟨dn, rfl⟩ : ∃ dn : Nat, d31 = (dn : Int) := ⟨d31.toNat, by omega⟩
        have eW31 := (Kx.of_kp hK31).lst hP30.hd eW30
        have hpl : ((bs.map V.bl ++ rs.map V.bl).take spot).length = spot := by rw [List.length_take, hxl, Nat.min_eq_left (by omega)]
        have hyl : (((bs.map V.bl ++ rs.map V.bl).take spot ++ wv :: zs)).length = bs.length + rs.length := hzl
        refine ⟨_, _, rfl, rfl, W, _, _, spot + dn, rfl, rfl, eW31, (by
          unfold ixN
          rw [if_pos (by omega), if_pos (by rw [hyl]; omega)]
          congr 1), ?_⟩
        obtain ⟨u, zs', es, hu⟩ := set_pre (pre := (bs.map V.bl ++ rs.map V.bl).take spot) (zs := zs) (u := wv) (v := .int 1) (d := dn)
        rw [hpl] at es
        rw [es]
        have hNu : NoBl u := by
          rcases hu with ⟨_, rfl⟩ | rfl
          · trivial
          · exact hN
        have eW32 : (upd H31 W (.lst ((bs.map V.bl ++ rs.map V.bl).take spot ++ u :: zs'))) W = some (.lst ((bs.map V.bl ++ rs.map V.bl).take spot ++ u :: zs')) := upd_same
        have hP32 : Pen (upd H31 W (.lst ((bs.map V.bl ++ rs.map V.bl).take spot ++ u :: zs'))) p l ns a31 b31 := hP31.upd np nl
        have hT32 : LamX.Tabs (TT PT) (upd H31 W (.lst ((bs.map V.bl ++ rs.map V.bl).take spot ++ u :: zs'))) := tabs_lst (tabs_kp hT30 hK31 hP30) eW31
        have eB32 : (upd H31 W (.lst ((bs.map V.bl ++ rs.map V.bl).take spot ++ u :: zs'))) D = some (.lst (bs.map V.bl)) := by rw [upd_ne nD]; exact (Kx.of_kp hK31).lst hP30.hd eB30
        have ha32 : a31 ≤ a30 + 1 := ha31
        have hzl' : ((bs.map V.bl ++ rs.map V.bl).take spot ++ u :: zs').length = bs.length + rs.length := by rw [← es, List.length_set]; exact hzl
        generalize upd H31 W (.lst ((bs.map V.bl ++ rs.map V.bl).take spot ++ u :: zs')) = H32 at eW32 hP32 hT32 eB32 ⊢
        generalize a31 = a32 at hP32 ha32
        generalize b31 = b32 at hP32
        rotate_left
        have eW32 := eW30
        have hP32 := hP30
        have hT32 := hT30
        have eB32 := eB30
        have hNu := hN
        have hzl' := hzl
        have ha32 : a30 ≤ a30 + 1 := by omega
        generalize zs = zs' at eW32 hzl'
        generalize wv = u at eW32 hzl' hNu
        generalize H30 = H32 at eW32 hP32 hT32 eB32 ⊢
        generalize b30 = b32 at hP32
        obtain ⟨a32, ea32⟩ : ∃ a32, a30 = a32 := ⟨_, rfl⟩
        rw [ea32] at hP32
        have ha32 : a32 ≤ a30 + 1 := by omega
        all_goals
          have hwa := wrong_at (bs := bs) (rs := rs) (u := u) (zs := zs') hsp rfl
          have hlw : bs.length ≤ ((bs.map V.bl ++ rs.map V.bl).take spot ++ u :: zs').length := by rw [hzl']; omega
          have hup : ((bs.map V.bl ++ rs.map V.bl).take spot ++ u :: zs').length ≤ bs.length + rs.length := by rw [hzl']; exact Nat.le_refl _
          generalize hys : (bs.map V.bl ++ rs.map V.bl).take spot ++ u :: zs' = ys at eW32 hwa hlw hup
          refine ⟨_, rfl, _, rfl, _, _, rfl, rfl, _, rfl, ?_⟩
          by_cases hss : spot < bs.length
          · rw [decide_eq_true (show (spot : Int) < (bs.length : Int) by omega)]
            refine iteT ⟨_, rfl, by show 2 ≤ sizeLine; decide, fun t9 ht9 => ?_⟩
            have s33 := same_new (o := .tup [.str "truth", .int (spot : Int)]) ht9
            have e33 : (upd H32 t9 (.tup [.str "truth", .int (spot : Int)])) t9 = some (.tup [.str "truth", .int (spot : Int)]) := upd_same
            generalize upd H32 t9 (.tup [.str "truth", .int (spot : Int)]) = H33 at s33 e33 ⊢
            refine ⟨tabs_same hT32 s33, fun H34 y34 hT34 => ?_⟩
            have eW34 := ext_of y34 (s33 _ _ eW32) (fun _ z => by cases z)
            refine ⟨_, rfl, _, rfl, _, rfl, W, _, rfl, .inl (.inl eW34), fun tA htA => ?_⟩
            rw [cut_hiV _ _ hlw]
            have s35 := same_new (o := .lst (ys.take bs.length)) htA
            have e35 : (upd H34 tA (.lst (ys.take bs.length))) tA = some (.lst (ys.take bs.length)) := upd_same
            generalize upd H34 tA (.lst (ys.take bs.length)) = H35 at s35 e35 ⊢
            refine ⟨_, rfl, _, rfl, _, rfl, W, _, rfl, .inl (.inl (s35 _ _ eW34)), fun tB htB => ?_⟩
            rw [cut_loV _ _ hlw]
            have s36 := same_new (o := .lst (ys.drop bs.length)) htB
            have e36 : (upd H35 tB (.lst (ys.drop bs.length))) tB = some (.lst (ys.drop bs.length)) := upd_same
            generalize upd H35 tB (.lst (ys.drop bs.length)) = H36 at s36 e36 ⊢
            intro x2 dx2 nx2 ndx2 nex2
            refine ⟨H36, x2, dx2, tA, tB, _, _, rfl, same_inst nx2 ndx2, nx2, upd_same, .inl (.inl (.inl (s36 _ _ e35))), .inl (.inl (.inl e36)), (by simp only [List.length_map, List.length_append, List.length_cons, List.length_nil, List.length_replicate, List.length_take, List.length_drop, hotL_len] at *; omega), (by simp only [List.length_map, List.length_append, List.length_cons, List.length_nil, List.length_replicate, List.length_take, List.length_drop, hotL_len] at *; omega), .inl ⟨bs.take spot, u, _, hwa.1 hss, hNu, fun dd H37 s37 hd37 hx37 => .inl ⟨rfl, _, dd, rfl, hx37, fun tt H38 s38 e38 => ?_⟩⟩⟩
            have el : ((bs.take spot).length : Int) = (spot : Int) := by rw [List.length_take, Nat.min_eq_left (by omega)]
            rw [el] at e38
            have sQ := s35.trans (s36.trans (s37.trans s38))
            have e33' := sQ _ _ (ext_of y34 e33 (fun _ z => by cases z))
            refine ⟨_, rfl, ne_same (by decide +kernel) (by decide +kernel) (by decide +kernel) e38 e33' ?_⟩
            refine ⟨_, rfl, iteF ?_⟩
            have hP39 := ((hP32.same s33).ext y34).same sQ
            have eB39 := sQ _ _ (ext_of y34 (s33 _ _ eB32) (fun _ z => by cases z))
            have hT39 := tabs_same hT34 sQ
            refine ⟨hT39, fun H40 y40 hT40 => ?_⟩
            have eB40 := ext_of y40 eB39 (fun _ z => by cases z)
            refine ⟨_, rfl, 721, rfl, by decide, by decide, fun D9 hD9 => ?_⟩
            refine lc_range (lo := 0) (n := 721) (fun i H' => Same H40 H' ∧ H' D9 = some (.lst ((hotL i 5 true).map V.bl))) ⟨same_new hD9, upd_same⟩ ?_ ?_
            · rintro k Hx hk ⟨sx, hx⟩
              refine ⟨rfl, _, rfl, rfl, _, hx, by rw [List.length_map, hotL_len]; exact small1000' (by omega), same_mut sx hD9, ?_⟩
              have eT : ∀ b : Bool, b = decide (b = true) := fun b => by cases b <;> rfl
              rw [upd_same, hotL_succ, show decide (V.int ((0 : Int) + (k : Int)) = V.int 5) = decide (k = 5) from hot_val k 5, ← eT]
            rintro H41 ⟨s41, e41⟩
            intro x3 dx3 nx3 ndx3 nex3
            refine ⟨H41, x3, dx3, D, D9, _, _, rfl, same_inst nx3 ndx3, nx3, upd_same, .inl (.inl (.inl (s41 _ _ eB40))), .inl (.inl (.inl e41)), (by simp only [List.length_map, List.length_append, List.length_cons, List.length_nil, List.length_replicate, List.length_take, List.length_drop, hotL_len] at *; omega), (by simp only [List.length_map, List.length_append, List.length_cons, List.length_nil, List.length_replicate, List.length_take, List.length_drop, hotL_len] at *; omega), .inr ⟨bs, rfl, .inr (.inr ⟨hotL 721 5 true, rfl, by rw [hotL_len]; decide, by rw [hotL_len]; decide, by omega, fun m3 st3 hc3 => .inl ⟨by have := prim_per (by rw [hotL_len]; decide) (hotL_prim (by decide)) hc3; rw [hotL_len] at this; omega, fun dd H42 s42 hd42 hx42 => .inr (.inl ⟨rfl, _, dd, rfl, hx42, fun tt H43 s43 e43 => ?_⟩)⟩⟩)⟩⟩
            refine tag_due (by decide +kernel) (by decide +kernel) (by decide +kernel) e43 fun H44 s44 => ?_
            refine ⟨_, rfl, iteF ?_⟩
            have s4144 := s41.trans (s42.trans (s43.trans s44))
            refine ⟨tabs_same hT40 s4144, fun H45 y45 hT45 => ?_⟩
            refine ⟨by show 1 ≤ sizeLine; decide, fun l6 hl6 => ?_⟩
            have s46 := same_new (o := .lst [.bl false]) hl6
            have e46 : (upd H45 l6 (.lst [.bl false])) l6 = some (.lst [.bl false]) := upd_same
            generalize upd H45 l6 (.lst [.bl false]) = H46 at s46 e46 ⊢
            refine ⟨l6, 10000, _, rfl, rfl, e46, by decide, by decide, (by show 1 * 10000 ≤ sizeLine; decide), fun l7 hl7 => ?_⟩
            rw [show (10000 : Int).toNat = 10000 from rfl, flat_rep]
            have s47 := same_new (o := .lst ((List.replicate 10000 false).map V.bl)) hl7
            have e47 : (upd H46 l7 (.lst ((List.replicate 10000 false).map V.bl))) l7 = some (.lst ((List.replicate 10000 false).map V.bl)) := upd_same
            generalize upd H46 l7 (.lst ((List.replicate 10000 false).map V.bl)) = H47 at s47 e47 ⊢
            refine ⟨by show 1 ≤ sizeLine; decide, fun l8 hl8 => ?_⟩
            have s48 := same_new (o := .lst [.bl true]) hl8
            have e48 : (upd H47 l8 (.lst [.bl true])) l8 = some (.lst [.bl true]) := upd_same
            generalize upd H47 l8 (.lst [.bl true]) = H48 at s48 e48 ⊢
            refine ⟨l7, l8, _, _, rfl, rfl, s48 _ _ e47, e48, by rw [List.length_map, List.length_replicate]; exact Nat.le_trans (show 10000 + 1 ≤ 100000 by decide) (by decide), fun l9 hl9 => ?_⟩
            have ecat : (List.replicate 10000 false).map V.bl ++ [V.bl true] = (List.replicate 10000 false ++ [true]).map V.bl := by rw [List.map_append]; rfl
            rw [ecat]
            have s49 := same_new (o := .lst ((List.replicate 10000 false ++ [true]).map V.bl)) hl9
            have e49 : (upd H48 l9 (.lst ((List.replicate 10000 false ++ [true]).map V.bl))) l9 = some (.lst ((List.replicate 10000 false ++ [true]).map V.bl)) := upd_same
            generalize upd H48 l9 (.lst ((List.replicate 10000 false ++ [true]).map V.bl)) = H49 at s49 e49 ⊢
            refine ⟨by show 1 ≤ sizeLine; decide, fun lA hlA => ?_⟩
            have s50 := same_new (o := .lst ([false].map V.bl)) hlA
            have e50 : (upd H49 lA (.lst ([false].map V.bl))) lA = some (.lst ([false].map V.bl)) := upd_same
            have s4550 := s46.trans (s47.trans (s48.trans (s49.trans s50)))
            intro x4 dx4 nx4 ndx4 nex4
            refine ⟨_, x4, dx4, l9, lA, _, [V.bl false], rfl, same_inst nx4 ndx4, nx4, upd_same, .inl (.inl (.inl (s50 _ _ e49))), .inl (.inl (.inl e50)), (by simp only [List.length_map, List.length_append, List.length_cons, List.length_nil, List.length_replicate, List.length_take, List.length_drop, hotL_len] at *; omega), (by simp only [List.length_map, List.length_append, List.length_cons, List.length_nil, List.length_replicate, List.length_take, List.length_drop, hotL_len] at *; omega), .inr ⟨List.replicate 10000 false ++ [true], rfl, .inr (.inr ⟨[false], rfl, by decide, by decide, by rw [List.length_append, List.length_replicate]; decide, fun m4 st4 hc4 => .inr (.inl ⟨(late_lem hc4).1, (late_lem hc4).2, fun dd H51 s51 hd51 hx51 => .inr (.inr ⟨rfl, _, dd, rfl, hx51, fun tt H52 s52 e52 => ?_⟩)⟩)⟩)⟩⟩
            refine tag_due (by decide +kernel) (by decide +kernel) (by decide +kernel) e52 fun H53 s53 => ?_
            refine ⟨_, rfl, iteF ?_⟩
            have s4553 := s4550.trans (s51.trans (s52.trans s53))
            refine ⟨a32, b32, _, _, _, _, _, _, _, _, _, _, _, ((((hP39).ext y40).same s4144).ext y45).same s4553, ?_, tabs_same hT45 s4553, rfl⟩
            have : (10000 : Int) * ((i + 1 : Nat) : Int) = 10000 * (i : Int) + 10000 := by omega
            omega
          · rw [decide_eq_false (show ¬ (spot : Int) < (bs.length : Int) by omega)]
            have hsn : (spot : Int) - (bs.length : Int) = ((spot - bs.length : Nat) : Int) := by omega
            refine iteF ⟨_, rfl, _, rfl, _, _, rfl, rfl, ?_⟩
            dsimp only
            rw [hsn]
            refine ⟨by show 2 ≤ sizeLine; decide, fun t9 ht9 => ?_⟩
            have s33 := same_new (o := .tup [.str "truth", .int ((spot - bs.length : Nat) : Int)]) ht9
            have e33 : (upd H32 t9 (.tup [.str "truth", .int ((spot - bs.length : Nat) : Int)])) t9 = some (.tup [.str "truth", .int ((spot - bs.length : Nat) : Int)]) := upd_same
            generalize upd H32 t9 (.tup [.str "truth", .int ((spot - bs.length : Nat) : Int)]) = H33 at s33 e33 ⊢
            refine ⟨tabs_same hT32 s33, fun H34 y34 hT34 => ?_⟩
            have eW34 := ext_of y34 (s33 _ _ eW32) (fun _ z => by cases z)
            refine ⟨_, rfl, _, rfl, _, rfl, W, _, rfl, .inl (.inl eW34), fun tA htA => ?_⟩
            rw [cut_hiV _ _ hlw]
            have s35 := same_new (o := .lst (ys.take bs.length)) htA
            have e35 : (upd H34 tA (.lst (ys.take bs.length))) tA = some (.lst (ys.take bs.length)) := upd_same
            generalize upd H34 tA (.lst (ys.take bs.length)) = H35 at s35 e35 ⊢
            refine ⟨_, rfl, _, rfl, _, rfl, W, _, rfl, .inl (.inl (s35 _ _ eW34)), fun tB htB => ?_⟩
            rw [cut_loV _ _ hlw]
            have s36 := same_new (o := .lst (ys.drop bs.length)) htB
            have e36 : (upd H35 tB (.lst (ys.drop bs.length))) tB = some (.lst (ys.drop bs.length)) := upd_same
            generalize upd H35 tB (.lst (ys.drop bs.length)) = H36 at s36 e36 ⊢
            intro x2 dx2 nx2 ndx2 nex2
            refine ⟨H36, x2, dx2, tA, tB, _, _, rfl, same_inst nx2 ndx2, nx2, upd_same, .inl (.inl (.inl (s36 _ _ e35))), .inl (.inl (.inl e36)), (by simp only [List.length_map, List.length_append, List.length_cons, List.length_nil, List.length_replicate, List.length_take, List.length_drop, hotL_len] at *; omega), (by simp only [List.length_map, List.length_append, List.length_cons, List.length_nil, List.length_replicate, List.length_take, List.length_drop, hotL_len] at *; omega), .inr ⟨bs, (hwa.2 (by omega)).1, .inl ⟨rs.take (spot - bs.length), u, _, (hwa.2 (by omega)).2, hNu, fun dd H37 s37 hd37 hx37 => .inl ⟨rfl, _, dd, rfl, hx37, fun tt H38 s38 e38 => ?_⟩⟩⟩⟩
            have el : ((rs.take (spot - bs.length)).length : Int) = ((spot - bs.length : Nat) : Int) := by rw [List.length_take, Nat.min_eq_left (by omega)]
            rw [el] at e38
            have sQ := s35.trans (s36.trans (s37.trans s38))
            have e33' := sQ _ _ (ext_of y34 e33 (fun _ z => by cases z))
            refine ⟨_, rfl, ne_same (by decide +kernel) (by decide +kernel) (by decide +kernel) e38 e33' ?_⟩
            refine ⟨_, rfl, iteF ?_⟩
            have hP39 := ((hP32.same s33).ext y34).same sQ
            have eB39 := sQ _ _ (ext_of y34 (s33 _ _ eB32) (fun _ z => by cases z))
            have hT39 := tabs_same hT34 sQ
            refine ⟨hT39, fun H40 y40 hT40 => ?_⟩
            have eB40 := ext_of y40 eB39 (fun _ z => by cases z)
            refine ⟨_, rfl, 721, rfl, by decide, by decide, fun D9 hD9 => ?_⟩
            refine lc_range (lo := 0) (n := 721) (fun i H' => Same H40 H' ∧ H' D9 = some (.lst ((hotL i 5 true).map V.bl))) ⟨same_new hD9, upd_same⟩ ?_ ?_
            · rintro k Hx hk ⟨sx, hx⟩
              refine ⟨rfl, _, rfl, rfl, _, hx, by rw [List.length_map, hotL_len]; exact small1000' (by omega), same_mut sx hD9, ?_⟩
              have eT : ∀ b : Bool, b = decide (b = true) := fun b => by cases b <;> rfl
              rw [upd_same, hotL_succ, show decide (V.int ((0 : Int) + (k : Int)) = V.int 5) = decide (k = 5) from hot_val k 5, ← eT]
            rintro H41 ⟨s41, e41⟩
            intro x3 dx3 nx3 ndx3 nex3
            refine ⟨H41, x3, dx3, D, D9, _, _, rfl, same_inst nx3 ndx3, nx3, upd_same, .inl (.inl (.inl (s41 _ _ eB40))), .inl (.inl (.inl e41)), (by simp only [List.length_map, List.length_append, List.length_cons, List.length_nil, List.length_replicate, List.length_take, List.length_drop, hotL_len] at *; omega), (by simp only [List.length_map, List.length_append, List.length_cons, List.length_nil, List.length_replicate, List.length_take, List.length_drop, hotL_len] at *; omega), .inr ⟨bs, rfl, .inr (.inr ⟨hotL 721 5 true, rfl, by rw [hotL_len]; decide, by rw [hotL_len]; decide, by omega, fun m3 st3 hc3 => .inl ⟨by have := prim_per (by rw [hotL_len]; decide) (hotL_prim (by decide)) hc3; rw [hotL_len] at this; omega, fun dd H42 s42 hd42 hx42 => .inr (.inl ⟨rfl, _, dd, rfl, hx42, fun tt H43 s43 e43 => ?_⟩)⟩⟩)⟩⟩
            refine tag_due (by decide +kernel) (by decide +kernel) (by decide +kernel) e43 fun H44 s44 => ?_
            refine ⟨_, rfl, iteF ?_⟩
            have s4144 := s41.trans (s42.trans (s43.trans s44))
            refine ⟨tabs_same hT40 s4144, fun H45 y45 hT45 => ?_⟩
            refine ⟨by show 1 ≤ sizeLine; decide, fun l6 hl6 => ?_⟩
            have s46 := same_new (o := .lst [.bl false]) hl6
            have e46 : (upd H45 l6 (.lst [.bl false])) l6 = some (.lst [.bl false]) := upd_same
            generalize upd H45 l6 (.lst [.bl false]) = H46 at s46 e46 ⊢
            refine ⟨l6, 10000, _, rfl, rfl, e46, by decide, by decide, (by show 1 * 10000 ≤ sizeLine; decide), fun l7 hl7 => ?_⟩
            rw [show (10000 : Int).toNat = 10000 from rfl, flat_rep]
            have s47 := same_new (o := .lst ((List.replicate 10000 false).map V.bl)) hl7
            have e47 : (upd H46 l7 (.lst ((List.replicate 10000 false).map V.bl))) l7 = some (.lst ((List.replicate 10000 false).map V.bl)) := upd_same
            generalize upd H46 l7 (.lst ((List.replicate 10000 false).map V.bl)) = H47 at s47 e47 ⊢
            refine ⟨by show 1 ≤ sizeLine; decide, fun l8 hl8 => ?_⟩
            have s48 := same_new (o := .lst [.bl true]) hl8
            have e48 : (upd H47 l8 (.lst [.bl true])) l8 = some (.lst [.bl true]) := upd_same
            generalize upd H47 l8 (.lst [.bl true]) = H48 at s48 e48 ⊢
            refine ⟨l7, l8, _, _, rfl, rfl, s48 _ _ e47, e48, by rw [List.length_map, List.length_replicate]; exact Nat.le_trans (show 10000 + 1 ≤ 100000 by decide) (by decide), fun l9 hl9 => ?_⟩
            have ecat : (List.replicate 10000 false).map V.bl ++ [V.bl true] = (List.replicate 10000 false ++ [true]).map V.bl := by rw [List.map_append]; rfl
            rw [ecat]
            have s49 := same_new (o := .lst ((List.replicate 10000 false ++ [true]).map V.bl)) hl9
            have e49 : (upd H48 l9 (.lst ((List.replicate 10000 false ++ [true]).map V.bl))) l9 = some (.lst ((List.replicate 10000 false ++ [true]).map V.bl)) := upd_same
            generalize upd H48 l9 (.lst ((List.replicate 10000 false ++ [true]).map V.bl)) = H49 at s49 e49 ⊢
            refine ⟨by show 1 ≤ sizeLine; decide, fun lA hlA => ?_⟩
            have s50 := same_new (o := .lst ([false].map V.bl)) hlA
            have e50 : (upd H49 lA (.lst ([false].map V.bl))) lA = some (.lst ([false].map V.bl)) := upd_same
            have s4550 := s46.trans (s47.trans (s48.trans (s49.trans s50)))
            intro x4 dx4 nx4 ndx4 nex4
            refine ⟨_, x4, dx4, l9, lA, _, [V.bl false], rfl, same_inst nx4 ndx4, nx4, upd_same, .inl (.inl (.inl (s50 _ _ e49))), .inl (.inl (.inl e50)), (by simp only [List.length_map, List.length_append, List.length_cons, List.length_nil, List.length_replicate, List.length_take, List.length_drop, hotL_len] at *; omega), (by simp only [List.length_map, List.length_append, List.length_cons, List.length_nil, List.length_replicate, List.length_take, List.length_drop, hotL_len] at *; omega), .inr ⟨List.replicate 10000 false ++ [true], rfl, .inr (.inr ⟨[false], rfl, by decide, by decide, by rw [List.length_append, List.length_replicate]; decide, fun m4 st4 hc4 => .inr (.inl ⟨(late_lem hc4).1, (late_lem hc4).2, fun dd H51 s51 hd51 hx51 => .inr (.inr ⟨rfl, _, dd, rfl, hx51, fun tt H52 s52 e52 => ?_⟩)⟩)⟩)⟩⟩
            refine tag_due (by decide +kernel) (by decide +kernel) (by decide +kernel) e52 fun H53 s53 => ?_
            refine ⟨_, rfl, iteF ?_⟩
            have s4553 := s4550.trans (s51.trans (s52.trans s53))
            refine ⟨a32, b32, _, _, _, _, _, _, _, _, _, _, _, ((((hP39).ext y40).same s4144).ext y45).same s4553, ?_, tabs_same hT45 s4553, rfl⟩
            have : (10000 : Int) * ((i + 1 : Nat) : Int) = 10000 * (i : Int) + 10000 := by omega
            omega
    · rintro σ H1 ⟨a1, b1, y2, y3, y4, y5, y6, y7, y8, y9, y10, y11, y12, hP1, ha1, hT1, rfl⟩
      exact q H1
end
end Ef
set_option Elab.async false
set_option linter.all false
set_option maxRecDepth 100000
set_option maxHeartbeats 8000000
namespace Ef
open PySem PySem.Spec PyProof.Rows L2 ClX
theorem at_mk {K : PySem.W.Frag} {h : Heap} {mg : Str → Option Value} {x : Str} {st : Stmt} {f : Addr} {oc kV doc pm cdv ct : Value} {od an : Option Addr} {osl : Array (Option Value)} (X : K.In h) (G : h.Ns mainGlobals mg) (a : PySem.W.nsIn K mainGlobals x = some (some (.ref f)))
    (l : K.lookup f = some ⟨oc, od, .func (PySem.W.fnOf x x (defArgs st) (defBody st) (defScope st) .none kV doc pm an cdv ct), osl⟩) (c : PySem.W.codeIn K cdv x = true) (k : PySem.W.keepIn K (.ref f) = true) : At K mg x st := ⟨f, _, PySem.W.mg_of X G a, fun_mk l c k⟩
theorem exm_by {K : PySem.W.Frag} {S : Addr} {c : Value} {b : Bool} (h1 : PySem.W.subIn K (.ref S) (.type "BaseException") = some true) (h2 : PySem.W.isClsIn K S = true) (h3 : PySem.W.typeIn K (.ref S) = some (.type "type")) (h4 : PySem.W.subIn K c (.ref S) = some b) :
    PySem.W.exmOne K c (.ref S) = some b := by
  unfold PySem.W.exmOne PySem.W.kitCls
  have h2' : (PySem.W.clsIn K S).isSome = true := h2
  rw [h1, if_pos (by rfl)]
  show (if ((PySem.W.clsIn K S).isSome && PySem.W.typeIn K (.ref S) == some (.type "type")) = true then PySem.W.subIn K c (.ref S) else none) = some b
  rw [h2', h3, if_pos (by rfl)]
  exact h4
theorem kit_by {K : PySem.W.Frag} {S : Addr} {c : Value} {b : Bool} (h2 : PySem.W.isClsIn K S = true) (h3 : PySem.W.typeIn K (.ref S) = some (.type "type")) (h4 : PySem.W.subIn K c (.ref S) = some b) (hc : (c == .ref S) = false := by rfl) :
    PySem.W.kitOne K c (.ref S) = some b := by
  unfold PySem.W.kitOne PySem.W.kitCls
  have h2' : (PySem.W.clsIn K S).isSome = true := h2
  rw [if_neg (by rw [hc]; exact Bool.false_ne_true)]
  show (if ((PySem.W.clsIn K S).isSome && PySem.W.typeIn K (.ref S) == some (.type "type")) = true then PySem.W.subIn K c (.ref S) else none) = some b
  rw [h2', h3, if_pos (by rfl)]
  exact h4
theorem all_mk {w : World} {K : PySem.W.Frag} {h : Heap} {mg : Str → Option Value} {l : PySem.W.OpenLaw} {fa C CT CF CL CP CN CM cL PT f0 f1 f2 f3 f4 f5 f6 f7 f8 f9 f10 f11 f12 f13 f14 f15 f16 f17 f18 f19 f20 f21 f22 f23 f24 f25 p26 f26 f27 f28 f29 f30 f31 f32 f33  : Addr} (X : K.In h) (G : h.Ns mainGlobals mg) (hfa : mg "law" = some (.ref fa))
    {od0 an0 od1 an1 od2 an2 od3 an3 od4 an4 od5 an5 od6 an6 od7 an7 od8 an8 od9 an9 od10 an10 od11 an11 od12 an12 od13 an13 od14 an14 od15 an15 od16 an16 od17 an17 od18 an18 od19 an19 od20 an20 od21 an21 od22 an22 od23 an23 od24 an24 od25 an25 od26 an26 od27 an27 od28 an28 od29 an29 od30 an30 od31 an31 od32 an32 od33 an33 : Option Addr} {sl0 sl1 sl2 sl3 sl4 sl5 sl6 sl7 sl8 sl9 sl10 sl11 sl12 sl13 sl14 sl15 sl16 sl17 sl18 sl19 sl20 sl21 sl22 sl23 sl24 sl25 sl26 sl27 sl28 sl29 sl30 sl31 sl32 sl33 : Array (Option Value)} {oc0 kV0 dc0 pm0 cd0 ct0 oc1 kV1 dc1 pm1 cd1 ct1 oc2 kV2 dc2 pm2 cd2 ct2 oc3 kV3 dc3 pm3 cd3 ct3 oc4 kV4 dc4 pm4 cd4 ct4 oc5 kV5 dc5 pm5 cd5 ct5 oc6 kV6 dc6 pm6 cd6 ct6 oc7 kV7 dc7 pm7 cd7 ct7 oc8 kV8 dc8 pm8 cd8 ct8 oc9 kV9 dc9 pm9 cd9 ct9 oc10 kV10 dc10 pm10 cd10 ct10 oc11 kV11 dc11 pm11 cd11 ct11 oc12 kV12 dc12 pm12 cd12 ct12 oc13 kV13 dc13 pm13 cd13 ct13 oc14 kV14 dc14 pm14 cd14 ct14 oc15 kV15 dc15 pm15 cd15 ct15 oc16 kV16 dc16 pm16 cd16 ct16 oc17 kV17 dc17 pm17 cd17 ct17 oc18 kV18 dc18 pm18 cd18 ct18 oc19 kV19 dc19 pm19 cd19 ct19 oc20 kV20 dc20 pm20 cd20 ct20 oc21 kV21 dc21 pm21 cd21 ct21 oc22 kV22 dc22 pm22 cd22 ct22 oc23 kV23 dc23 pm23 cd23 ct23 oc24 kV24 dc24 pm24 cd24 ct24 oc25 kV25 dc25 pm25 cd25 ct25 oc26 kV26 dc26 pm26 cd26 ct26 oc27 kV27 dc27 pm27 ct27 oc28 kV28 dc28 pm28 cd28 ct28 oc29 kV29 dc29 pm29 cd29 ct29 oc30 kV30 dc30 pm30 cd30 ct30 oc31 kV31 dc31 pm31 cd31 ct31 oc32 kV32 dc32 pm32 cd32 ct32 oc33 kV33 dc33 pm33 cd33 ct33 : Value} {rest26 : List Value} {tk0 tk1 : Tok} {nmCT qCT : Str} {NCT : Addr} {bsCT bmCT : List Value} {snCT : List Str} {subCT : List Value} {abCT : Bool} {colCT : Option Bool} {ddCT : Option Addr} {e0CT e1CT e2CT e3CT e5CT : Option Value} {nmCF qCF : Str} {NCF : Addr} {bsCF bmCF : List Value} {snCF : List Str} {subCF : List Value} {abCF : Bool} {colCF : Option Bool} {ddCF : Option Addr} {e0CF e1CF e2CF e3CF e5CF : Option Value} {nmCL qCL : Str} {NCL : Addr} {bsCL bmCL : List Value} {snCL : List Str} {subCL : List Value} {abCL : Bool} {colCL : Option Bool} {ddCL : Option Addr} {e0CL e1CL e2CL e3CL e5CL : Option Value} {nmCP qCP : Str} {NCP : Addr} {bsCP bmCP : List Value} {snCP : List Str} {subCP : List Value} {abCP : Bool} {colCP : Option Bool} {ddCP : Option Addr} {e0CP e1CP e2CP e3CP e5CP : Option Value} {nmCN qCN : Str} {NCN : Addr} {bsCN bmCN : List Value} {snCN : List Str} {subCN : List Value} {abCN : Bool} {colCN : Option Bool} {ddCN : Option Addr} {e0CN e1CN e2CN e3CN e5CN : Option Value} {nmCM qCM : Str} {NCM : Addr} {bsCM bmCM : List Value} {snCM : List Str} {subCM : List Value} {abCM : Bool} {colCM : Option Bool} {ddCM : Option Addr} {e0CM e1CM e2CM e3CM e5CM : Option Value}
    (aC : PySem.W.nsIn K mainGlobals "Where" = some (some (.ref C)))
    (a0 : PySem.W.nsIn K mainGlobals "is_int" = some (some (.ref f0)))
    (l0 : K.lookup f0 = some ⟨oc0, od0, .func (PySem.W.fnOf "is_int" "is_int" (defArgs sIsInt) (defBody sIsInt) (defScope sIsInt) .none kV0 dc0 pm0 an0 cd0 ct0), sl0⟩)
    (c0 : PySem.W.codeIn K cd0 "is_int" = true)
    (k0 : PySem.W.keepIn K (.ref f0) = true)
    (a1 : PySem.W.nsIn K mainGlobals "is_int_from" = some (some (.ref f1)))
    (l1 : K.lookup f1 = some ⟨oc1, od1, .func (PySem.W.fnOf "is_int_from" "is_int_from" (defArgs sFrom) (defBody sFrom) (defScope sFrom) .none kV1 dc1 pm1 an1 cd1 ct1), sl1⟩)
    (c1 : PySem.W.codeIn K cd1 "is_int_from" = true)
    (k1 : PySem.W.keepIn K (.ref f1) = true)
    (a2 : PySem.W.nsIn K mainGlobals "_check_truths" = some (some (.ref f2)))
    (l2 : K.lookup f2 = some ⟨oc2, od2, .func (PySem.W.fnOf "_check_truths" "_check_truths" (defArgs sCheck) (defBody sCheck) (defScope sCheck) .none kV2 dc2 pm2 an2 cd2 ct2), sl2⟩)
    (c2 : PySem.W.codeIn K cd2 "_check_truths" = true)
    (k2 : PySem.W.keepIn K (.ref f2) = true)
    (a3 : PySem.W.nsIn K mainGlobals "least_period" = some (some (.ref f3)))
    (l3 : K.lookup f3 = some ⟨oc3, od3, .func (PySem.W.fnOf "least_period" "least_period" (defArgs sLper) (defBody sLper) (defScope sLper) .none kV3 dc3 pm3 an3 cd3 ct3), sl3⟩)
    (c3 : PySem.W.codeIn K cd3 "least_period" = true)
    (k3 : PySem.W.keepIn K (.ref f3) = true)
    (a4 : PySem.W.nsIn K mainGlobals "_comes_round" = some (some (.ref f4)))
    (l4 : K.lookup f4 = some ⟨oc4, od4, .func (PySem.W.fnOf "_comes_round" "_comes_round" (defArgs sRound) (defBody sRound) (defScope sRound) .none kV4 dc4 pm4 an4 cd4 ct4), sl4⟩)
    (c4 : PySem.W.codeIn K cd4 "_comes_round" = true)
    (k4 : PySem.W.keepIn K (.ref f4) = true)
    (a5 : PySem.W.nsIn K mainGlobals "primes_of" = some (some (.ref f5)))
    (l5 : K.lookup f5 = some ⟨oc5, od5, .func (PySem.W.fnOf "primes_of" "primes_of" (defArgs sPrimes) (defBody sPrimes) (defScope sPrimes) .none kV5 dc5 pm5 an5 cd5 ct5), sl5⟩)
    (c5 : PySem.W.codeIn K cd5 "primes_of" = true)
    (k5 : PySem.W.keepIn K (.ref f5) = true)
    (a6 : PySem.W.nsIn K mainGlobals "_least_start" = some (some (.ref f6)))
    (l6 : K.lookup f6 = some ⟨oc6, od6, .func (PySem.W.fnOf "_least_start" "_least_start" (defArgs sLstart) (defBody sLstart) (defScope sLstart) .none kV6 dc6 pm6 an6 cd6 ct6), sl6⟩)
    (c6 : PySem.W.codeIn K cd6 "_least_start" = true)
    (k6 : PySem.W.keepIn K (.ref f6) = true)
    (a7 : PySem.W.nsIn K mainGlobals "_many_less" = some (some (.ref f7)))
    (l7 : K.lookup f7 = some ⟨oc7, od7, .func (PySem.W.fnOf "_many_less" "_many_less" (defArgs sMless) (defBody sMless) (defScope sMless) .none kV7 dc7 pm7 an7 cd7 ct7), sl7⟩)
    (c7 : PySem.W.codeIn K cd7 "_many_less" = true)
    (k7 : PySem.W.keepIn K (.ref f7) = true)
    (a8 : PySem.W.nsIn K mainGlobals "_law_pen" = some (some (.ref f8)))
    (l8 : K.lookup f8 = some ⟨oc8, od8, .func (PySem.W.fnOf "_law_pen" "_law_pen" (defArgs sPen) (defBody sPen) (defScope sPen) .none kV8 dc8 pm8 an8 cd8 ct8), sl8⟩)
    (c8 : PySem.W.codeIn K cd8 "_law_pen" = true)
    (k8 : PySem.W.keepIn K (.ref f8) = true)
    (a9 : PySem.W.nsIn K mainGlobals "_law_draw" = some (some (.ref f9)))
    (l9 : K.lookup f9 = some ⟨oc9, od9, .func (PySem.W.fnOf "_law_draw" "_law_draw" (defArgs sDraw) (defBody sDraw) (defScope sDraw) .none kV9 dc9 pm9 an9 cd9 ct9), sl9⟩)
    (c9 : PySem.W.codeIn K cd9 "_law_draw" = true)
    (k9 : PySem.W.keepIn K (.ref f9) = true)
    (a10 : PySem.W.nsIn K mainGlobals "_law_pick" = some (some (.ref f10)))
    (l10 : K.lookup f10 = some ⟨oc10, od10, .func (PySem.W.fnOf "_law_pick" "_law_pick" (defArgs sPick) (defBody sPick) (defScope sPick) .none kV10 dc10 pm10 an10 cd10 ct10), sl10⟩)
    (c10 : PySem.W.codeIn K cd10 "_law_pick" = true)
    (k10 : PySem.W.keepIn K (.ref f10) = true)
    (a11 : PySem.W.nsIn K mainGlobals "_law_rests_of" = some (some (.ref f11)))
    (l11 : K.lookup f11 = some ⟨oc11, od11, .func (PySem.W.fnOf "_law_rests_of" "_law_rests_of" (defArgs sRo) (defBody sRo) (defScope sRo) .none kV11 dc11 pm11 an11 cd11 ct11), sl11⟩)
    (c11 : PySem.W.codeIn K cd11 "_law_rests_of" = true)
    (k11 : PySem.W.keepIn K (.ref f11) = true)
    (a12 : PySem.W.nsIn K mainGlobals "_law_in" = some (some (.ref f12)))
    (l12 : K.lookup f12 = some ⟨oc12, od12, .func (PySem.W.fnOf "_law_in" "_law_in" (defArgs sIn) (defBody sIn) (defScope sIn) .none kV12 dc12 pm12 an12 cd12 ct12), sl12⟩)
    (c12 : PySem.W.codeIn K cd12 "_law_in" = true)
    (k12 : PySem.W.keepIn K (.ref f12) = true)
    (a13 : PySem.W.nsIn K mainGlobals "_law_first" = some (some (.ref f13)))
    (l13 : K.lookup f13 = some ⟨oc13, od13, .func (PySem.W.fnOf "_law_first" "_law_first" (defArgs sFst) (defBody sFst) (defScope sFst) .none kV13 dc13 pm13 an13 cd13 ct13), sl13⟩)
    (c13 : PySem.W.codeIn K cd13 "_law_first" = true)
    (k13 : PySem.W.keepIn K (.ref f13) = true)
    (a14 : PySem.W.nsIn K mainGlobals "_law_last" = some (some (.ref f14)))
    (l14 : K.lookup f14 = some ⟨oc14, od14, .func (PySem.W.fnOf "_law_last" "_law_last" (defArgs sLst) (defBody sLst) (defScope sLst) .none kV14 dc14 pm14 an14 cd14 ct14), sl14⟩)
    (c14 : PySem.W.codeIn K cd14 "_law_last" = true)
    (k14 : PySem.W.keepIn K (.ref f14) = true)
    (a15 : PySem.W.nsIn K mainGlobals "_law_below" = some (some (.ref f15)))
    (l15 : K.lookup f15 = some ⟨oc15, od15, .func (PySem.W.fnOf "_law_below" "_law_below" (defArgs sBlw) (defBody sBlw) (defScope sBlw) .none kV15 dc15 pm15 an15 cd15 ct15), sl15⟩)
    (c15 : PySem.W.codeIn K cd15 "_law_below" = true)
    (k15 : PySem.W.keepIn K (.ref f15) = true)
    (a16 : PySem.W.nsIn K mainGlobals "_law_refusal" = some (some (.ref f16)))
    (l16 : K.lookup f16 = some ⟨oc16, od16, .func (PySem.W.fnOf "_law_refusal" "_law_refusal" (defArgs sFault) (defBody sFault) (defScope sFault) .none kV16 dc16 pm16 an16 cd16 ct16), sl16⟩)
    (c16 : PySem.W.codeIn K cd16 "_law_refusal" = true)
    (k16 : PySem.W.keepIn K (.ref f16) = true)
    (a17 : PySem.W.nsIn K mainGlobals "_law_asked_right" = some (some (.ref f17)))
    (l17 : K.lookup f17 = some ⟨oc17, od17, .func (PySem.W.fnOf "_law_asked_right" "_law_asked_right" (defArgs sAsk) (defBody sAsk) (defScope sAsk) .none kV17 dc17 pm17 an17 cd17 ct17), sl17⟩)
    (c17 : PySem.W.codeIn K cd17 "_law_asked_right" = true)
    (k17 : PySem.W.keepIn K (.ref f17) = true)
    (a18 : PySem.W.findIn K (.ref C) "__init__" = some (some (.ref f18)))
    (i18 : PySem.W.isFn K (.ref f18) = true)
    (l18 : K.lookup f18 = some ⟨oc18, od18, .func (PySem.W.fnOf "__init__" "Where.__init__" (defArgs sInit) (defBody sInit) (defScope sInit) .none kV18 dc18 pm18 an18 cd18 ct18), sl18⟩)
    (c18 : PySem.W.codeIn K cd18 "Where.__init__" = true)
    (k18 : PySem.W.keepIn K (.ref f18) = true)
    (a19 : PySem.W.findIn K (.ref C) "first_from" = some (some (.ref f19)))
    (i19 : PySem.W.isFn K (.ref f19) = true)
    (l19 : K.lookup f19 = some ⟨oc19, od19, .func (PySem.W.fnOf "first_from" "Where.first_from" (defArgs sFirstF) (defBody sFirstF) (defScope sFirstF) .none kV19 dc19 pm19 an19 cd19 ct19), sl19⟩)
    (c19 : PySem.W.codeIn K cd19 "Where.first_from" = true)
    (k19 : PySem.W.keepIn K (.ref f19) = true)
    (a20 : PySem.W.findIn K (.ref C) "last_to" = some (some (.ref f20)))
    (i20 : PySem.W.isFn K (.ref f20) = true)
    (l20 : K.lookup f20 = some ⟨oc20, od20, .func (PySem.W.fnOf "last_to" "Where.last_to" (defArgs sLastT) (defBody sLastT) (defScope sLastT) .none kV20 dc20 pm20 an20 cd20 ct20), sl20⟩)
    (c20 : PySem.W.codeIn K cd20 "Where.last_to" = true)
    (k20 : PySem.W.keepIn K (.ref f20) = true)
    (a21 : PySem.W.findIn K (.ref C) "how_many" = some (some (.ref f21)))
    (i21 : PySem.W.isFn K (.ref f21) = true)
    (l21 : K.lookup f21 = some ⟨oc21, od21, .func (PySem.W.fnOf "how_many" "Where.how_many" (defArgs sHow) (defBody sHow) (defScope sHow) .none kV21 dc21 pm21 an21 cd21 ct21), sl21⟩)
    (c21 : PySem.W.codeIn K cd21 "Where.how_many" = true)
    (k21 : PySem.W.keepIn K (.ref f21) = true)
    (a22 : PySem.W.findIn K (.ref C) "member" = some (some (.ref f22)))
    (i22 : PySem.W.isFn K (.ref f22) = true)
    (l22 : K.lookup f22 = some ⟨oc22, od22, .func (PySem.W.fnOf "member" "Where.member" (defArgs sMember) (defBody sMember) (defScope sMember) .none kV22 dc22 pm22 an22 cd22 ct22), sl22⟩)
    (c22 : PySem.W.codeIn K cd22 "Where.member" = true)
    (k22 : PySem.W.keepIn K (.ref f22) = true)
    (a23 : PySem.W.findIn K (.ref C) "_many_below" = some (some (.ref f23)))
    (i23 : PySem.W.isFn K (.ref f23) = true)
    (l23 : K.lookup f23 = some ⟨oc23, od23, .func (PySem.W.fnOf "_many_below" "Where._many_below" (defArgs sBelow) (defBody sBelow) (defScope sBelow) .none kV23 dc23 pm23 an23 cd23 ct23), sl23⟩)
    (c23 : PySem.W.codeIn K cd23 "Where._many_below" = true)
    (k23 : PySem.W.keepIn K (.ref f23) = true)
    (a24 : PySem.W.findIn K (.ref C) "_numbered" = some (some (.ref f24)))
    (i24 : PySem.W.isFn K (.ref f24) = true)
    (l24 : K.lookup f24 = some ⟨oc24, od24, .func (PySem.W.fnOf "_numbered" "Where._numbered" (defArgs sNumb) (defBody sNumb) (defScope sNumb) .none kV24 dc24 pm24 an24 cd24 ct24), sl24⟩)
    (c24 : PySem.W.codeIn K cd24 "Where._numbered" = true)
    (k24 : PySem.W.keepIn K (.ref f24) = true)
    (a25 : PySem.W.findIn K (.ref C) "__contains__" = some (some (.ref f25)))
    (i25 : PySem.W.isFn K (.ref f25) = true)
    (l25 : K.lookup f25 = some ⟨oc25, od25, .func (PySem.W.fnOf "__contains__" "Where.__contains__" (defArgs sContains) (defBody sContains) (defScope sContains) .none kV25 dc25 pm25 an25 cd25 ct25), sl25⟩)
    (c25 : PySem.W.codeIn K cd25 "Where.__contains__" = true)
    (k25 : PySem.W.keepIn K (.ref f25) = true)
    (t25 : PySem.W.typeIn K (.ref f25) = some (.type "function"))
    (a26 : PySem.W.findIn K (.ref C) "least" = some (some (.ref p26)))
    (g26 : PySem.W.specialIn K (.ref p26) "__get__" = some (some (.builtin "property.__get__")))
    (h26 : PySem.W.takesIn K (.ref p26) = some true)
    (r26 : PySem.W.recIn K p26 "property" = some (.ref f26 :: rest26))
    (l26 : K.lookup f26 = some ⟨oc26, od26, .func (PySem.W.fnOf "least" "Where.least" (defArgs sLeastP) (defBody sLeastP) (defScope sLeastP) .none kV26 dc26 pm26 an26 cd26 ct26), sl26⟩)
    (c26 : PySem.W.codeIn K cd26 "Where.least" = true)
    (k26 : PySem.W.keepIn K (.ref f26) = true)
    (a27 : PySem.W.nsIn K mainGlobals "law" = some (some (.ref f27)))
    (l27 : K.lookup f27 = some ⟨oc27, od27, .func (PySem.W.fnOf "law" "law" (defArgs sLaw) (defBody sLaw) (defScope sLaw) .none kV27 dc27 pm27 an27 (.ref cL) ct27), sl27⟩)
    (c27 : PySem.W.codeIn K (.ref cL) "law" = true)
    (tP : PySem.W.tabIn K "law" = some (cL, PT))
    (hP : PySem.W.codeHdIn K cL PT = true)
    (nPT : K.lookup PT = none)
    (mCT : PySem.W.nsIn K mainGlobals "BadTruth" = some (some (.ref CT)))
    (oCT : K.lookup CT = some (excClassObj nmCT qCT CT NCT bsCT bmCT true snCT subCT abCT colCT ddCT e0CT e1CT e2CT e3CT e5CT "ValueError.__new__"))
    (vCT : PySem.HandSPX.refsVE bmCT = true)
    (sCT : PySem.W.findIn K (.ref CT) "__setattr__" = some (some (.builtin "object.__setattr__")))
    (xCT : PySem.W.subIn K (.ref CT) (.type "BaseException") = some true)
    (tCT : PySem.W.typeIn K (.ref CT) = some (.type "type"))
    (kCT : PySem.W.keepIn K (.ref CT) = true)
    (iCT : PySem.W.findIn K (.ref CT) "__init__" = some (some (.ref f28)))
    (uCT : PySem.W.typeIn K (.ref f28) = some (.type "function"))
    (nCT : PySem.W.findIn K (.ref CT) "index" = some none)
    (gaCT : PySem.W.findIn K (.ref CT) "__getattribute__" = some (some (.builtin "BaseException.__getattribute__")))
    (ggCT : PySem.W.findIn K (.ref CT) "__getattr__" = some none)
    (hdCT : PySem.W.hasDictIn K CT = true)
    (l28 : K.lookup f28 = some ⟨oc28, od28, .func (PySem.W.fnOf "__init__" "BadTruth.__init__" (defArgs sErrT) (defBody sErrT) (defScope sErrT) .none kV28 dc28 pm28 an28 cd28 ct28), sl28⟩)
    (c28 : PySem.W.codeIn K cd28 "BadTruth.__init__" = true)
    (k28 : PySem.W.keepIn K (.ref f28) = true)
    (mCF : PySem.W.nsIn K mainGlobals "TooFine" = some (some (.ref CF)))
    (oCF : K.lookup CF = some (excClassObj nmCF qCF CF NCF bsCF bmCF true snCF subCF abCF colCF ddCF e0CF e1CF e2CF e3CF e5CF "ValueError.__new__"))
    (vCF : PySem.HandSPX.refsVE bmCF = true)
    (sCF : PySem.W.findIn K (.ref CF) "__setattr__" = some (some (.builtin "object.__setattr__")))
    (xCF : PySem.W.subIn K (.ref CF) (.type "BaseException") = some true)
    (tCF : PySem.W.typeIn K (.ref CF) = some (.type "type"))
    (kCF : PySem.W.keepIn K (.ref CF) = true)
    (iCF : PySem.W.findIn K (.ref CF) "__init__" = some (some (.ref f29)))
    (uCF : PySem.W.typeIn K (.ref f29) = some (.type "function"))
    (nCF : PySem.W.findIn K (.ref CF) "most" = some none)
    (gaCF : PySem.W.findIn K (.ref CF) "__getattribute__" = some (some (.builtin "BaseException.__getattribute__")))
    (ggCF : PySem.W.findIn K (.ref CF) "__getattr__" = some none)
    (hdCF : PySem.W.hasDictIn K CF = true)
    (l29 : K.lookup f29 = some ⟨oc29, od29, .func (PySem.W.fnOf "__init__" "TooFine.__init__" (defArgs sErrF) (defBody sErrF) (defScope sErrF) .none kV29 dc29 pm29 an29 cd29 ct29), sl29⟩)
    (c29 : PySem.W.codeIn K cd29 "TooFine.__init__" = true)
    (k29 : PySem.W.keepIn K (.ref f29) = true)
    (mCL : PySem.W.nsIn K mainGlobals "TooLate" = some (some (.ref CL)))
    (oCL : K.lookup CL = some (excClassObj nmCL qCL CL NCL bsCL bmCL true snCL subCL abCL colCL ddCL e0CL e1CL e2CL e3CL e5CL "ValueError.__new__"))
    (vCL : PySem.HandSPX.refsVE bmCL = true)
    (sCL : PySem.W.findIn K (.ref CL) "__setattr__" = some (some (.builtin "object.__setattr__")))
    (xCL : PySem.W.subIn K (.ref CL) (.type "BaseException") = some true)
    (tCL : PySem.W.typeIn K (.ref CL) = some (.type "type"))
    (kCL : PySem.W.keepIn K (.ref CL) = true)
    (iCL : PySem.W.findIn K (.ref CL) "__init__" = some (some (.ref f30)))
    (uCL : PySem.W.typeIn K (.ref f30) = some (.type "function"))
    (nCL : PySem.W.findIn K (.ref CL) "most" = some none)
    (gaCL : PySem.W.findIn K (.ref CL) "__getattribute__" = some (some (.builtin "BaseException.__getattribute__")))
    (ggCL : PySem.W.findIn K (.ref CL) "__getattr__" = some none)
    (hdCL : PySem.W.hasDictIn K CL = true)
    (l30 : K.lookup f30 = some ⟨oc30, od30, .func (PySem.W.fnOf "__init__" "TooLate.__init__" (defArgs sErrL) (defBody sErrL) (defScope sErrL) .none kV30 dc30 pm30 an30 cd30 ct30), sl30⟩)
    (c30 : PySem.W.codeIn K cd30 "TooLate.__init__" = true)
    (k30 : PySem.W.keepIn K (.ref f30) = true)
    (mCP : PySem.W.nsIn K mainGlobals "BadPlace" = some (some (.ref CP)))
    (oCP : K.lookup CP = some (excClassObj nmCP qCP CP NCP bsCP bmCP true snCP subCP abCP colCP ddCP e0CP e1CP e2CP e3CP e5CP "ValueError.__new__"))
    (vCP : PySem.HandSPX.refsVE bmCP = true)
    (sCP : PySem.W.findIn K (.ref CP) "__setattr__" = some (some (.builtin "object.__setattr__")))
    (xCP : PySem.W.subIn K (.ref CP) (.type "BaseException") = some true)
    (tCP : PySem.W.typeIn K (.ref CP) = some (.type "type"))
    (kCP : PySem.W.keepIn K (.ref CP) = true)
    (iCP : PySem.W.findIn K (.ref CP) "__init__" = some (some (.ref f31)))
    (uCP : PySem.W.typeIn K (.ref f31) = some (.type "function"))
    (nCP : PySem.W.findIn K (.ref CP) "n" = some none)
    (gaCP : PySem.W.findIn K (.ref CP) "__getattribute__" = some (some (.builtin "BaseException.__getattribute__")))
    (ggCP : PySem.W.findIn K (.ref CP) "__getattr__" = some none)
    (hdCP : PySem.W.hasDictIn K CP = true)
    (l31 : K.lookup f31 = some ⟨oc31, od31, .func (PySem.W.fnOf "__init__" "BadPlace.__init__" (defArgs sErrP) (defBody sErrP) (defScope sErrP) .none kV31 dc31 pm31 an31 cd31 ct31), sl31⟩)
    (c31 : PySem.W.codeIn K cd31 "BadPlace.__init__" = true)
    (k31 : PySem.W.keepIn K (.ref f31) = true)
    (mCN : PySem.W.nsIn K mainGlobals "BadNumber" = some (some (.ref CN)))
    (oCN : K.lookup CN = some (excClassObj nmCN qCN CN NCN bsCN bmCN true snCN subCN abCN colCN ddCN e0CN e1CN e2CN e3CN e5CN "ValueError.__new__"))
    (vCN : PySem.HandSPX.refsVE bmCN = true)
    (sCN : PySem.W.findIn K (.ref CN) "__setattr__" = some (some (.builtin "object.__setattr__")))
    (xCN : PySem.W.subIn K (.ref CN) (.type "BaseException") = some true)
    (tCN : PySem.W.typeIn K (.ref CN) = some (.type "type"))
    (kCN : PySem.W.keepIn K (.ref CN) = true)
    (iCN : PySem.W.findIn K (.ref CN) "__init__" = some (some (.ref f32)))
    (uCN : PySem.W.typeIn K (.ref f32) = some (.type "function"))
    (nCN : PySem.W.findIn K (.ref CN) "number" = some none)
    (gaCN : PySem.W.findIn K (.ref CN) "__getattribute__" = some (some (.builtin "BaseException.__getattribute__")))
    (ggCN : PySem.W.findIn K (.ref CN) "__getattr__" = some none)
    (hdCN : PySem.W.hasDictIn K CN = true)
    (l32 : K.lookup f32 = some ⟨oc32, od32, .func (PySem.W.fnOf "__init__" "BadNumber.__init__" (defArgs sErrN) (defBody sErrN) (defScope sErrN) .none kV32 dc32 pm32 an32 cd32 ct32), sl32⟩)
    (c32 : PySem.W.codeIn K cd32 "BadNumber.__init__" = true)
    (k32 : PySem.W.keepIn K (.ref f32) = true)
    (mCM : PySem.W.nsIn K mainGlobals "NoMember" = some (some (.ref CM)))
    (oCM : K.lookup CM = some (excClassObj nmCM qCM CM NCM bsCM bmCM true snCM subCM abCM colCM ddCM e0CM e1CM e2CM e3CM e5CM "ValueError.__new__"))
    (vCM : PySem.HandSPX.refsVE bmCM = true)
    (sCM : PySem.W.findIn K (.ref CM) "__setattr__" = some (some (.builtin "object.__setattr__")))
    (xCM : PySem.W.subIn K (.ref CM) (.type "BaseException") = some true)
    (tCM : PySem.W.typeIn K (.ref CM) = some (.type "type"))
    (kCM : PySem.W.keepIn K (.ref CM) = true)
    (iCM : PySem.W.findIn K (.ref CM) "__init__" = some (some (.ref f33)))
    (uCM : PySem.W.typeIn K (.ref f33) = some (.type "function"))
    (nCM : PySem.W.findIn K (.ref CM) "k" = some none)
    (gaCM : PySem.W.findIn K (.ref CM) "__getattribute__" = some (some (.builtin "BaseException.__getattribute__")))
    (ggCM : PySem.W.findIn K (.ref CM) "__getattr__" = some none)
    (hdCM : PySem.W.hasDictIn K CM = true)
    (l33 : K.lookup f33 = some ⟨oc33, od33, .func (PySem.W.fnOf "__init__" "NoMember.__init__" (defArgs sErrM) (defBody sErrM) (defScope sErrM) .none kV33 dc33 pm33 an33 cd33 ct33), sl33⟩)
    (c33 : PySem.W.codeIn K cd33 "NoMember.__init__" = true)
    (k33 : PySem.W.keepIn K (.ref f33) = true)
    (jCT : PySem.W.isClsIn K CT = true)
    (jCF : PySem.W.isClsIn K CF = true)
    (jCL : PySem.W.isClsIn K CL = true)
    (xCTCT : PySem.W.subIn K (.ref CT) (.ref CT) = some true)
    (xCFCT : PySem.W.subIn K (.ref CF) (.ref CT) = some false)
    (xCLCT : PySem.W.subIn K (.ref CL) (.ref CT) = some false)
    (xCFCF : PySem.W.subIn K (.ref CF) (.ref CF) = some true)
    (xCLCF : PySem.W.subIn K (.ref CL) (.ref CF) = some false)
    (xCLCL : PySem.W.subIn K (.ref CL) (.ref CL) = some true)
    (rd : PySem.W.readsIn K C (.type "type") = true)
    (gaC : PySem.W.specialIn K (.ref C) "__getattribute__" = some (some (.builtin "type.__getattribute__")))
    (e0 : PySem.W.nsIn K mainGlobals "MOST_PERIOD" = some (some (.int 720 tk0)))
    (e1 : PySem.W.nsIn K mainGlobals "MOST_START" = some (some (.int 10000 tk1)))
    (pg : PySem.W.plainGet K C Str.empty = true)
    (hd : PySem.W.hasDictIn K C = true)
    (po : PySem.W.plainOver K C = true)
    (sa : PySem.W.findIn K (.ref C) "__setattr__" = some (some (.builtin "object.__setattr__")))
    (mk : PySem.W.makesIn K C = true)
    (kc : PySem.W.keepIn K (.ref C) = true)
    (cc : PySem.W.findIn K (.ref C) "__class__" = some (some (.builtin "object.__class__")))
    (cg : PySem.W.specialIn K (.builtin "object.__class__") "__get__" = some (some (.builtin "getset_descriptor.__get__")))
    (ctk : PySem.W.takesIn K (.builtin "object.__class__") = some true)
    (co : PySem.W.mroIn K C (.type "object") = some true)
    (nB : PySem.W.findIn K (.ref C) "below" = some none)
    (nR : PySem.W.findIn K (.ref C) "rests" = some none)
    (nS : PySem.W.findIn K (.ref C) "start" = some none)
    (nP : PySem.W.findIn K (.ref C) "period" = some none)
    (nE : PySem.W.findIn K (.ref C) "_early" = some none)
    (nL : PySem.W.findIn K (.ref C) "_late" = some none)
    (z0 : PySem.W.nsIn K mainGlobals "int" = some none)
    (z1 : PySem.W.nsIn K mainGlobals "len" = some none)
    (z2 : PySem.W.nsIn K mainGlobals "list" = some none)
    (z3 : PySem.W.nsIn K mainGlobals "isinstance" = some none)
    (z4 : PySem.W.nsIn K mainGlobals "bool" = some none)
    (z5 : PySem.W.nsIn K mainGlobals "enumerate" = some none)
    (z6 : PySem.W.nsIn K mainGlobals "reversed" = some none)
    (z7 : PySem.W.nsIn K mainGlobals "range" = some none)
    (z8 : PySem.W.nsIn K mainGlobals "tuple" = some none)
    (z9 : PySem.W.nsIn K mainGlobals "min" = some none)
    (z10 : PySem.W.nsIn K mainGlobals "max" = some none)
    (z11 : PySem.W.nsIn K mainGlobals "divmod" = some none)
    (Y : ∀ p : Addr, p = PT → h.get? p = some (PySem.W.tabObj #[]))
    : LamX.LawAtS l w K CX0 8 63 "script" mg fa h := by
  have e := hfa.symm.trans (PySem.W.mg_of X G a27)
  cases e
  have T : TxtL mg := { int := PySem.W.mg_none_of X G z0, len := PySem.W.mg_none_of X G z1, list := PySem.W.mg_none_of X G z2, isinstance := PySem.W.mg_none_of X G z3, bool := PySem.W.mg_none_of X G z4, enumerate := PySem.W.mg_none_of X G z5, reversed := PySem.W.mg_none_of X G z6, range := PySem.W.mg_none_of X G z7, tuple := PySem.W.mg_none_of X G z8, MOST_PERIOD := ⟨tk0, PySem.W.mg_of X G e0⟩, MOST_START := ⟨tk1, PySem.W.mg_of X G e1⟩, min := PySem.W.mg_none_of X G z9 }
  have CW : ClsW K mg C := ⟨⟨pg, hd, po, sa⟩, PySem.W.mg_of X G aC, nP, nS, nR, nB, nE, nL⟩
  have M : Mk K C f18 := ⟨mk, a18, i18, kc⟩
  have FCT := fun_mk (st := sErrT) l28 c28 k28
  have bCT := FCT.binds (ps := ["self", "index"]) fun _ _ _ _ _ _ us hl => match us, hl with | [_, _], _ => rfl
  have ECT : ErrF K mg "BadTruth" "index" CT f28 := ⟨⟨⟨_, _, _, _, _, _, _, _, _, _, _, _, _, _, _, oCT, vCT⟩, sCT, xCT, tCT, kCT⟩, PySem.W.mg_of X G mCT, iCT, uCT, nCT, ⟨gaCT, ggCT, xCT, hdCT⟩⟩
  have FCF := fun_mk (st := sErrF) l29 c29 k29
  have bCF := FCF.binds (ps := ["self", "most"]) fun _ _ _ _ _ _ us hl => match us, hl with | [_, _], _ => rfl
  have ECF : ErrF K mg "TooFine" "most" CF f29 := ⟨⟨⟨_, _, _, _, _, _, _, _, _, _, _, _, _, _, _, oCF, vCF⟩, sCF, xCF, tCF, kCF⟩, PySem.W.mg_of X G mCF, iCF, uCF, nCF, ⟨gaCF, ggCF, xCF, hdCF⟩⟩
  have FCL := fun_mk (st := sErrL) l30 c30 k30
  have bCL := FCL.binds (ps := ["self", "most"]) fun _ _ _ _ _ _ us hl => match us, hl with | [_, _], _ => rfl
  have ECL : ErrF K mg "TooLate" "most" CL f30 := ⟨⟨⟨_, _, _, _, _, _, _, _, _, _, _, _, _, _, _, oCL, vCL⟩, sCL, xCL, tCL, kCL⟩, PySem.W.mg_of X G mCL, iCL, uCL, nCL, ⟨gaCL, ggCL, xCL, hdCL⟩⟩
  have FCP := fun_mk (st := sErrP) l31 c31 k31
  have bCP := FCP.binds (ps := ["self", "n"]) fun _ _ _ _ _ _ us hl => match us, hl with | [_, _], _ => rfl
  have ECP : ErrF K mg "BadPlace" "n" CP f31 := ⟨⟨⟨_, _, _, _, _, _, _, _, _, _, _, _, _, _, _, oCP, vCP⟩, sCP, xCP, tCP, kCP⟩, PySem.W.mg_of X G mCP, iCP, uCP, nCP, ⟨gaCP, ggCP, xCP, hdCP⟩⟩
  have FCN := fun_mk (st := sErrN) l32 c32 k32
  have bCN := FCN.binds (ps := ["self", "number"]) fun _ _ _ _ _ _ us hl => match us, hl with | [_, _], _ => rfl
  have ECN : ErrF K mg "BadNumber" "number" CN f32 := ⟨⟨⟨_, _, _, _, _, _, _, _, _, _, _, _, _, _, _, oCN, vCN⟩, sCN, xCN, tCN, kCN⟩, PySem.W.mg_of X G mCN, iCN, uCN, nCN, ⟨gaCN, ggCN, xCN, hdCN⟩⟩
  have FCM := fun_mk (st := sErrM) l33 c33 k33
  have bCM := FCM.binds (ps := ["self", "k"]) fun _ _ _ _ _ _ us hl => match us, hl with | [_, _], _ => rfl
  have ECM : ErrF K mg "NoMember" "k" CM f33 := ⟨⟨⟨_, _, _, _, _, _, _, _, _, _, _, _, _, _, _, oCM, vCM⟩, sCM, xCM, tCM, kCM⟩, PySem.W.mg_of X G mCM, iCM, uCM, nCM, ⟨gaCM, ggCM, xCM, hdCM⟩⟩
  have FFa := fun_mk (st := sFault) l16 c16 k16
  have bFa := FFa.binds (ps := ["call"]) fun _ _ _ _ _ _ us hl => match us, hl with | [_], _ => rfl
  have FIi := fun_mk (st := sInit) l18 c18 k18
  have bI := FIi.binds (ps := ["self", "below", "rests"]) fun _ _ _ _ _ _ us hl => match us, hl with | [_, _, _], _ => rfl
  have EFf := fun_mk (st := sFirstF) l19 c19 k19
  have bFf := EFf.binds (ps := ["self", "n"]) fun _ _ _ _ _ _ us hl => match us, hl with | [_, _], _ => rfl
  have MFf : Meth K C "first_from" f19 := ⟨a19, i19, k19⟩
  have ELt := fun_mk (st := sLastT) l20 c20 k20
  have bLt := ELt.binds (ps := ["self", "n"]) fun _ _ _ _ _ _ us hl => match us, hl with | [_, _], _ => rfl
  have MLt : Meth K C "last_to" f20 := ⟨a20, i20, k20⟩
  have EHm := fun_mk (st := sHow) l21 c21 k21
  have bHm := EHm.binds (ps := ["self", "low", "high"]) fun _ _ _ _ _ _ us hl => match us, hl with | [_, _, _], _ => rfl
  have MHm : Meth K C "how_many" f21 := ⟨a21, i21, k21⟩
  have EMb := fun_mk (st := sMember) l22 c22 k22
  have bMb := EMb.binds (ps := ["self", "k"]) fun _ _ _ _ _ _ us hl => match us, hl with | [_, _], _ => rfl
  have MMb : Meth K C "member" f22 := ⟨a22, i22, k22⟩
  have EBl := fun_mk (st := sBelow) l23 c23 k23
  have bBl := EBl.binds (ps := ["self", "n"]) fun _ _ _ _ _ _ us hl => match us, hl with | [_, _], _ => rfl
  have MBl : Meth K C "_many_below" f23 := ⟨a23, i23, k23⟩
  have ENu := fun_mk (st := sNumb) l24 c24 k24
  have bNu := ENu.binds (ps := ["self", "k"]) fun _ _ _ _ _ _ us hl => match us, hl with | [_, _], _ => rfl
  have MNu : Meth K C "_numbered" f24 := ⟨a24, i24, k24⟩
  have ESz := fun_mk (st := sLeastP) l26 c26 k26
  have bSz := ESz.binds (ps := ["self"]) fun _ _ _ _ _ _ us hl => match us, hl with | [_], _ => rfl
  have PS : PropOf K C "least" p26 f26 := ⟨a26, g26, h26, ⟨rest26, r26⟩⟩
  refine ⟨PySem.W.fnOf "law" "law" (defArgs sLaw) (defBody sLaw) (defScope sLaw) .none kV27 dc27 pm27 an27 (.ref cL) ct27, [(cL, PT)], spLaw K PT, fun p hp => ?_, fun p hp => ?_, fun p hp => ?_, fun s u => .of_eq rfl, fun H a ns hl _ ht hS => ⟨a, ns, rfl, hS, hl, fun p hp => ?_, fun _ => rfl⟩, fun base hKb _ hTB => ?_⟩
  · rw [List.mem_singleton.mp hp]; exact Y _ rfl
  · rw [List.mem_singleton.mp hp]; exact nPT
  · rw [List.mem_singleton.mp hp]; exact PySem.W.codeHd_of_K X hP
  · rw [List.mem_singleton.mp hp]; exact LamX.TabS.nil (ht (cL, PT) (List.Mem.head _))
  have hmax : mg "max" = none := PySem.W.mg_none_of X G z10
  have hdm : mg "divmod" = none := PySem.W.mg_none_of X G z11
  have dIsInt := df_isint (P := l.prog) (w := w) (base := base) (at_mk X G a0 l0 c0 k0) T.toTxtW
  have dFrom := df_from (P := l.prog) (w := w) (base := base) (at_mk X G a1 l1 c1 k1) dIsInt
  have dRound := df_round (P := l.prog) (w := w) (base := base) (at_mk X G a4 l4 c4 k4) T.toTxtW
  have dPrimes := df_primes (P := l.prog) (w := w) (base := base) (at_mk X G a5 l5 c5 k5) 
  have dLper := df_lper (P := l.prog) (w := w) (base := base) (at_mk X G a3 l3 c3 k3) T.toTxtW dPrimes dRound
  have dLstart := df_lstart (P := l.prog) (w := w) (base := base) (at_mk X G a6 l6 c6 k6) T.toTxtW
  have dMless := df_mless (P := l.prog) (w := w) (base := base) (at_mk X G a7 l7 c7 k7) T.toTxtW
  have dPen := df_pen (P := l.prog) (w := w) (base := base) (at_mk X G a8 l8 c8 k8) T.toTxtP
  have dDraw := df_draw (P := l.prog) (w := w) (base := base) (at_mk X G a9 l9 c9 k9) T.toTxtP
  have dPick := df_pick (P := l.prog) (w := w) (base := base) (at_mk X G a10 l10 c10 k10) T.toTxtP dDraw
  have dRo := df_ro (P := l.prog) (w := w) (base := base) (at_mk X G a11 l11 c11 k11) T.toTxtW dDraw
  have dIn := df_in (P := l.prog) (w := w) (base := base) (at_mk X G a12 l12 c12 k12) T.toTxtW
  have dFirst := df_first (P := l.prog) (w := w) (base := base) (at_mk X G a13 l13 c13 k13) T.toTxtW hmax dIn
  have dLast := df_last (P := l.prog) (w := w) (base := base) (at_mk X G a14 l14 c14 k14) T hmax dIn
  have dBelow := df_below (P := l.prog) (w := w) (base := base) (at_mk X G a15 l15 c15 k15) T
  have gT := ok_errT (P := l.prog) (w := w) (base := base) FCT ECT
  have gF := ok_errF (P := l.prog) (w := w) (base := base) FCF ECF
  have gL := ok_errL (P := l.prog) (w := w) (base := base) FCL ECL
  have gP := ok_errP (P := l.prog) (w := w) (base := base) FCP ECP
  have gN := ok_errN (P := l.prog) (w := w) (base := base) FCN ECN
  have gM := ok_errM (P := l.prog) (w := w) (base := base) FCM ECM
  have dCk := dx_check (P := l.prog) (w := w) (base := base) (PySem.W.mg_of X G a2) (fun_mk (st := sCheck) l2 c2 k2) T.toTxtW ECT gT bCT
  have FI := ok_init (P := l.prog) (w := w) (base := base) FIi T.toTxtI CW ECT gT bCT ECF gF bCF ECL gL bCL dCk dLper dLstart
  have gBl := ok_below (P := l.prog) (w := w) (base := base) EBl T.toTxtW hdm CW dMless
  have gNu := ok_numb (P := l.prog) (w := w) (base := base) ENu T.toTxtW hdm CW
  have gFf := ok_firstf (P := l.prog) (w := w) (base := base) EFf CW MBl gBl bBl MNu gNu bNu ECP gP bCP dIsInt
  have gLt := ok_lastt (P := l.prog) (w := w) (base := base) ELt CW MBl gBl bBl MNu gNu bNu ECP gP bCP dIsInt
  have gSz := ok_leastp (P := l.prog) (w := w) (base := base) ESz CW MNu gNu bNu
  have gHm := ok_how (P := l.prog) (w := w) (base := base) EHm CW MBl gBl bBl ECP gP bCP dIsInt
  have gMb := ok_member (P := l.prog) (w := w) (base := base) EMb CW MNu gNu bNu ECN gN bCN ECM gM bCM dFrom
  have ECo := fun_mk (st := sContains) l25 c25 k25
  have bCo := ECo.binds (ps := ["self", "x"]) fun _ _ _ _ _ _ us hl => match us, hl with | [_, _], _ => rfl
  have OC : Own l.prog w K mg base 3 C "__contains__" ["self", "x"] (spContains K C) := ⟨f25, _, a25, i25, t25, k25, bCo, ok_contains (P := l.prog) (w := w) (base := base) ECo CW dFrom⟩
  have dAsk := df_ask (P := l.prog) (w := w) (base := base) (at_mk X G a17 l17 c17 k17) T.toTxtW hmax CW MFf gFf bFf MLt gLt bLt MHm gHm bHm MMb gMb bMb PS gSz bSz OC dDraw dIn dFirst dLast dBelow
  have EM : ErrM K CT CF CL := ⟨exm_by xCT jCT tCT xCTCT, exm_by xCT jCT tCT xCFCT, exm_by xCT jCT tCT xCLCT, exm_by xCF jCF tCF xCFCF, exm_by xCF jCF tCF xCLCF, exm_by xCL jCL tCL xCLCL⟩
  have FA : FaultAt K mg f16 _ _ _ _ _ _ _ _ _ := ⟨PySem.W.mg_of X G a16, k16, l16, c16, bFa⟩
  exact ok_law l27 c27 T CW M FI bI FA ECT ECF ECL EM (hTB (cL, PT) (List.Mem.head _)) dPen dDraw dPick dRo dAsk
end Ef
set_option Elab.async false
set_option linter.all false
open PySem PySem.W PyProof.Rows in
set_option maxRecDepth 100000 in
set_option maxHeartbeats 0 in
theorem PySem.Challenge.cw_everyfloor_k86_whole_sets_with_long_peri_holds : PySem.Challenge.rw_everyfloor_k86_whole_sets_with_long_peri.Holds := by
  w_on; o_law; k_head; (case hw => w_witness2)
  k_fill
  refine LamX.walk_ofTs (l := PySem.Challenge.rw_everyfloor_k86_whole_sets_with_long_peri) (n := 63) (k := 8) (x := "script") (CX := fun _ => L2.CX0) rfl (by decide) rfl ⟨rfl, by decide, by decide⟩ (fun w h Y => Y.1) ?F (fun _ _ _ _ _ z => z)
  case F =>
    intro w mg fa h Y KX G hmg
    refine' Ef.all_mk (l := PySem.Challenge.rw_everyfloor_k86_whole_sets_with_long_peri) KX G hmg ?aC ?a0 ?l0 ?c0 ?k0 ?a1 ?l1 ?c1 ?k1 ?a2 ?l2 ?c2 ?k2 ?a3 ?l3 ?c3 ?k3 ?a4 ?l4 ?c4 ?k4 ?a5 ?l5 ?c5 ?k5 ?a6 ?l6 ?c6 ?k6 ?a7 ?l7 ?c7 ?k7 ?a8 ?l8 ?c8 ?k8 ?a9 ?l9 ?c9 ?k9 ?a10 ?l10 ?c10 ?k10 ?a11 ?l11 ?c11 ?k11 ?a12 ?l12 ?c12 ?k12 ?a13 ?l13 ?c13 ?k13 ?a14 ?l14 ?c14 ?k14 ?a15 ?l15 ?c15 ?k15 ?a16 ?l16 ?c16 ?k16 ?a17 ?l17 ?c17 ?k17 ?a18 ?i18 ?l18 ?c18 ?k18 ?a19 ?i19 ?l19 ?c19 ?k19 ?a20 ?i20 ?l20 ?c20 ?k20 ?a21 ?i21 ?l21 ?c21 ?k21 ?a22 ?i22 ?l22 ?c22 ?k22 ?a23 ?i23 ?l23 ?c23 ?k23 ?a24 ?i24 ?l24 ?c24 ?k24 ?a25 ?i25 ?l25 ?c25 ?k25 ?t25 ?a26 ?g26 ?h26 ?r26 ?l26 ?c26 ?k26 ?a27 ?l27 ?c27 ?tP ?hP ?nPT ?mCT ?oCT ?vCT ?sCT ?xCT ?tCT ?kCT ?iCT ?uCT ?nCT ?gaCT ?ggCT ?hdCT ?l28 ?c28 ?k28 ?mCF ?oCF ?vCF ?sCF ?xCF ?tCF ?kCF ?iCF ?uCF ?nCF ?gaCF ?ggCF ?hdCF ?l29 ?c29 ?k29 ?mCL ?oCL ?vCL ?sCL ?xCL ?tCL ?kCL ?iCL ?uCL ?nCL ?gaCL ?ggCL ?hdCL ?l30 ?c30 ?k30 ?mCP ?oCP ?vCP ?sCP ?xCP ?tCP ?kCP ?iCP ?uCP ?nCP ?gaCP ?ggCP ?hdCP ?l31 ?c31 ?k31 ?mCN ?oCN ?vCN ?sCN ?xCN ?tCN ?kCN ?iCN ?uCN ?nCN ?gaCN ?ggCN ?hdCN ?l32 ?c32 ?k32 ?mCM ?oCM ?vCM ?sCM ?xCM ?tCM ?kCM ?iCM ?uCM ?nCM ?gaCM ?ggCM ?hdCM ?l33 ?c33 ?k33 ?jCT ?jCF ?jCL ?xCTCT ?xCFCT ?xCLCT ?xCFCF ?xCLCF ?xCLCL ?rd ?gaC ?e0 ?e1 ?pg ?hd ?po ?sa ?mk ?kc ?cc ?cg ?ctk ?co ?nB ?nR ?nS ?nP ?nE ?nL ?z0 ?z1 ?z2 ?z3 ?z4 ?z5 ?z6 ?z7 ?z8 ?z9 ?z10 ?z11 ?hYY
    (case aC => k_is)
    (case a0 => k_is)
    (case l0 => k_is)
    (case c0 => k_is)
    (case k0 => k_is)
    (case a1 => k_is)
    (case l1 => k_is)
    (case c1 => k_is)
    (case k1 => k_is)
    (case a2 => k_is)
    (case l2 => k_is)
    (case c2 => k_is)
    (case k2 => k_is)
    (case a3 => k_is)
    (case l3 => k_is)
    (case c3 => k_is)
    (case k3 => k_is)
    (case a4 => k_is)
    (case l4 => k_is)
    (case c4 => k_is)
    (case k4 => k_is)
    (case a5 => k_is)
    (case l5 => k_is)
    (case c5 => k_is)
    (case k5 => k_is)
    (case a6 => k_is)
    (case l6 => k_is)
    (case c6 => k_is)
    (case k6 => k_is)
    (case a7 => k_is)
    (case l7 => k_is)
    (case c7 => k_is)
    (case k7 => k_is)
    (case a8 => k_is)
    (case l8 => k_is)
    (case c8 => k_is)
    (case k8 => k_is)
    (case a9 => k_is)
    (case l9 => k_is)
    (case c9 => k_is)
    (case k9 => k_is)
    (case a10 => k_is)
    (case l10 => k_is)
    (case c10 => k_is)
    (case k10 => k_is)
    (case a11 => k_is)
    (case l11 => k_is)
    (case c11 => k_is)
    (case k11 => k_is)
    (case a12 => k_is)
    (case l12 => k_is)
    (case c12 => k_is)
    (case k12 => k_is)
    (case a13 => k_is)
    (case l13 => k_is)
    (case c13 => k_is)
    (case k13 => k_is)
    (case a14 => k_is)
    (case l14 => k_is)
    (case c14 => k_is)
    (case k14 => k_is)
    (case a15 => k_is)
    (case l15 => k_is)
    (case c15 => k_is)
    (case k15 => k_is)
    (case a16 => k_is)
    (case l16 => k_is)
    (case c16 => k_is)
    (case k16 => k_is)
    (case a17 => k_is)
    (case l17 => k_is)
    (case c17 => k_is)
    (case k17 => k_is)
    (case a18 => k_is)
    (case i18 => k_is)
    (case l18 => k_is)
    (case c18 => k_is)
    (case k18 => k_is)
    (case a19 => k_is)
    (case i19 => k_is)
    (case l19 => k_is)
    (case c19 => k_is)
    (case k19 => k_is)
    (case a20 => k_is)
    (case i20 => k_is)
    (case l20 => k_is)
    (case c20 => k_is)
    (case k20 => k_is)
    (case a21 => k_is)
    (case i21 => k_is)
    (case l21 => k_is)
    (case c21 => k_is)
    (case k21 => k_is)
    (case a22 => k_is)
    (case i22 => k_is)
    (case l22 => k_is)
    (case c22 => k_is)
    (case k22 => k_is)
    (case a23 => k_is)
    (case i23 => k_is)
    (case l23 => k_is)
    (case c23 => k_is)
    (case k23 => k_is)
    (case a24 => k_is)
    (case i24 => k_is)
    (case l24 => k_is)
    (case c24 => k_is)
    (case k24 => k_is)
    (case a25 => k_is)
    (case i25 => k_is)
    (case l25 => k_is)
    (case c25 => k_is)
    (case k25 => k_is)
    (case t25 => k_is)
    (case a26 => k_is)
    (case g26 => k_is)
    (case h26 => k_is)
    (case r26 => k_is)
    (case l26 => k_is)
    (case c26 => k_is)
    (case k26 => k_is)
    (case a27 => k_is)
    (case l27 => k_is)
    (case c27 => k_is)
    (case tP => first | k_is | rfl | decide +kernel)
    (case hP => first | k_is | rfl | decide +kernel)
    (case nPT => first | k_is | decide +kernel | rfl)
    (case mCT => k_is)
    (case oCT => k_is)
    (case vCT => decide +kernel)
    (case sCT => k_is)
    (case xCT => k_is)
    (case tCT => k_is)
    (case kCT => k_is)
    (case iCT => k_is)
    (case uCT => k_is)
    (case nCT => k_is)
    (case gaCT => k_is)
    (case ggCT => k_is)
    (case hdCT => k_is)
    (case l28 => k_is)
    (case c28 => k_is)
    (case k28 => k_is)
    (case mCF => k_is)
    (case oCF => k_is)
    (case vCF => decide +kernel)
    (case sCF => k_is)
    (case xCF => k_is)
    (case tCF => k_is)
    (case kCF => k_is)
    (case iCF => k_is)
    (case uCF => k_is)
    (case nCF => k_is)
    (case gaCF => k_is)
    (case ggCF => k_is)
    (case hdCF => k_is)
    (case l29 => k_is)
    (case c29 => k_is)
    (case k29 => k_is)
    (case mCL => k_is)
    (case oCL => k_is)
    (case vCL => decide +kernel)
    (case sCL => k_is)
    (case xCL => k_is)
    (case tCL => k_is)
    (case kCL => k_is)
    (case iCL => k_is)
    (case uCL => k_is)
    (case nCL => k_is)
    (case gaCL => k_is)
    (case ggCL => k_is)
    (case hdCL => k_is)
    (case l30 => k_is)
    (case c30 => k_is)
    (case k30 => k_is)
    (case mCP => k_is)
    (case oCP => k_is)
    (case vCP => decide +kernel)
    (case sCP => k_is)
    (case xCP => k_is)
    (case tCP => k_is)
    (case kCP => k_is)
    (case iCP => k_is)
    (case uCP => k_is)
    (case nCP => k_is)
    (case gaCP => k_is)
    (case ggCP => k_is)
    (case hdCP => k_is)
    (case l31 => k_is)
    (case c31 => k_is)
    (case k31 => k_is)
    (case mCN => k_is)
    (case oCN => k_is)
    (case vCN => decide +kernel)
    (case sCN => k_is)
    (case xCN => k_is)
    (case tCN => k_is)
    (case kCN => k_is)
    (case iCN => k_is)
    (case uCN => k_is)
    (case nCN => k_is)
    (case gaCN => k_is)
    (case ggCN => k_is)
    (case hdCN => k_is)
    (case l32 => k_is)
    (case c32 => k_is)
    (case k32 => k_is)
    (case mCM => k_is)
    (case oCM => k_is)
    (case vCM => decide +kernel)
    (case sCM => k_is)
    (case xCM => k_is)
    (case tCM => k_is)
    (case kCM => k_is)
    (case iCM => k_is)
    (case uCM => k_is)
    (case nCM => k_is)
    (case gaCM => k_is)
    (case ggCM => k_is)
    (case hdCM => k_is)
    (case l33 => k_is)
    (case c33 => k_is)
    (case k33 => k_is)
    (case jCT => k_is)
    (case jCF => k_is)
    (case jCL => k_is)
    (case xCTCT => k_is)
    (case xCFCT => k_is)
    (case xCLCT => k_is)
    (case xCFCF => k_is)
    (case xCLCF => k_is)
    (case xCLCL => k_is)
    (case rd => k_is)
    (case gaC => k_is)
    (case e0 => k_is)
    (case e1 => k_is)
    (case pg => k_is)
    (case hd => k_is)
    (case po => k_is)
    (case sa => k_is)
    (case mk => k_is)
    (case kc => k_is)
    (case cc => k_is)
    (case cg => k_is)
    (case ctk => k_is)
    (case co => k_is)
    (case nB => k_is)
    (case nR => k_is)
    (case nS => k_is)
    (case nP => k_is)
    (case nE => k_is)
    (case nL => k_is)
    (case z0 => k_is)
    (case z1 => k_is)
    (case z2 => k_is)
    (case z3 => k_is)
    (case z4 => k_is)
    (case z5 => k_is)
    (case z6 => k_is)
    (case z7 => k_is)
    (case z8 => k_is)
    (case z9 => k_is)
    (case z10 => k_is)
    (case z11 => k_is)
    (case hYY => intro p hp; subst hp; exact Y.2 _ (by decide))
#print axioms PySem.Challenge.cw_everyfloor_k86_whole_sets_with_long_peri_holds
